/- The program's windows and the document's, beside one another, with the call at hand. -/
import Derived.Test.YtnlaegleekghmaaDoorShI
import Derived.Test.YtnlaegleekghmaaDoorRsF
namespace Go.Proofs.YtnlaegleekghmaaDoor
open Go Go.RowKit

/-- The document's windows at q, after mm calls. -/
def Dp (w0 : World) (q mm : Nat) (F : Wo) : Th := fun w X => Wfew mm F ∧ ∃ v R, Ds w0.heap.size w q v R ∧ dab R = F ∧ X = dbl q v R
variable {es : List Addr} {w0 w w' : World} {p q mm : Nat} {F G : Wo} {X : List Nat}
theorem dp_ft (w0 : World) (q mm : Nat) (F : Wo) : Ft w0.heap.size (Dp w0 q mm F) := by
  refine ⟨fun {w X} h b hb => ?_, fun {w w' X Y} h hk hY hX => ?_⟩
  · obtain ⟨_, v, R, h1, _, rfl⟩ := h
    exact h1.blt hb
  · obtain ⟨h1, v, R, h2, h3, rfl⟩ := h
    exact ⟨h1, v, R, h2.kept hk hX, h3, rfl⟩
theorem dnx {v : Value} {R : Dwl} {F' : Wo} {n : Nat} (hR : DsR w0.heap.size w q v R F' w') (hf : Wfew n F') : Nx (Dp w0 q n F') (dbl q v R) w w' := by
  obtain ⟨v', R', h1, h2, h3, h4⟩ := hR
  exact ⟨dbl q v' R', ⟨hf, v', R', h1, h2, rfl⟩, h3, h4⟩
theorem dlen {R : Dwl} (hf : Wfew mm (dab R)) {B : Nat} {v : Value} (hS : Ds B w q v R) (hm : mm ≤ 900) (id : Int) (e : Dw) (he : gt R id = some e) : e.n ≤ 1000000 := by
  have := hf.ser id e.s (by rw [gt_dab, he]; rfl)
  have := (hS.rd id e he).len
  omega
theorem dp_mono {n : Nat} (h : Dp w0 q mm F w X) (hn : mm ≤ n) : Dp w0 q n F w X := ⟨h.1.mono hn, h.2⟩
theorem dp_new (w0 w : World) (hb : Below w0.heap.size w0 w) : Dp w0 w.heap.size 0 [] (w.alloc (.cells #[.slice none 0 0] 28)) [w.heap.size] :=
  ⟨wfew_nil, .slice none 0 0, [], ⟨hb.size, heap_alloc_new w _, World.ownsRow_nil _ _ _ _, by simp [Value.ownBlock], List.nodup_nil, (fun x e h => by cases h), (fun x e h => by cases h)⟩, rfl, rfl⟩
theorem dp_add (hm : mm ≤ 900) (id : Int) (b : Bool) : Ct Tryd.prog 11 #[.pointer (some ⟨q, 0, none⟩), .int .i64 id, .bool b] (Dp w0 q mm F) (Dp w0 q (mm + 1) (wAddF F id b)) (.int .i64 (wAddE F id b : Nat)) := fun w X h => by
  obtain ⟨h1, v, R, h2, rfl, rfl⟩ := h
  exact (radd18_any h2 id b (by have := h1.len; rw [dab_length] at this; omega)).mono fun _ _ ⟨h3, hR⟩ => ⟨h3, dnx hR (h1.add id b)⟩
theorem dp_drp (hm : mm ≤ 900) (id : Int) : Ct Tryd.prog 13 #[.pointer (some ⟨q, 0, none⟩), .int .i64 id] (Dp w0 q mm F) (Dp w0 q (mm + 1) (wDrpF F id)) (.int .i64 (wDrpE F id : Nat)) := fun w X h => by
  obtain ⟨h1, v, R, h2, rfl, rfl⟩ := h
  exact (rdrop18_any h2 id (by have := h1.len; rw [dab_length] at this; omega)).mono fun _ _ ⟨h3, hR⟩ => ⟨h3, dnx hR (h1.drp id)⟩
theorem dp_top (_hm : mm ≤ 900) (id : Int) : Ct Tryd.prog 15 #[.pointer (some ⟨q, 0, none⟩), .int .i64 id] (Dp w0 q mm F) (Dp w0 q (mm + 1) (wUp F id topS)) (.int .i64 (wTopE F id : Nat)) := fun w X h => by
  obtain ⟨h1, v, R, h2, rfl, rfl⟩ := h
  exact (rtop18_any h2 id).mono fun _ _ ⟨h3, hR⟩ => ⟨h3, dnx hR (h1.up id _ topS_len)⟩
theorem dp_unt (_hm : mm ≤ 900) (id : Int) : Ct Tryd.prog 17 #[.pointer (some ⟨q, 0, none⟩), .int .i64 id] (Dp w0 q mm F) (Dp w0 q (mm + 1) (wUp F id untS)) (.int .i64 (wUntE F id : Nat)) := fun w X h => by
  obtain ⟨h1, v, R, h2, rfl, rfl⟩ := h
  exact (runtop18_any h2 id).mono fun _ _ ⟨h3, hR⟩ => ⟨h3, dnx hR (h1.up id _ untS_len)⟩
theorem dp_snd (hm : mm ≤ 900) (id z : Int) : Ct Tryd.prog 19 #[.pointer (some ⟨q, 0, none⟩), .int .i64 id, .int .i64 z] (Dp w0 q mm F) (Dp w0 q (mm + 1) (wUp F id (sndS z))) (.int .i64 (wUntE F id : Nat)) := fun w X h => by
  obtain ⟨h1, v, R, h2, rfl, rfl⟩ := h
  exact (rsend18_any h2 id z (dlen h1 h2 hm id)).mono fun _ _ ⟨h3, hR⟩ => ⟨h3, dnx hR (h1.up id _ (sndS_len z))⟩
theorem dp_ack (hm : mm ≤ 900) (id z : Int) : Ct Tryd.prog 21 #[.pointer (some ⟨q, 0, none⟩), .int .i64 id, .int .i64 z] (Dp w0 q mm F) (Dp w0 q (mm + 1) (wUp F id (ackS z))) (.int .i64 (wAckE F id z : Nat)) := fun w X h => by
  obtain ⟨h1, v, R, h2, rfl, rfl⟩ := h
  exact (rack18_any h2 id z (dlen h1 h2 hm id)).mono fun _ _ ⟨h3, hR⟩ => ⟨h3, dnx hR (h1.up id _ (ackS_len z))⟩
theorem dp_com (_hm : mm ≤ 900) (id : Int) (b : Bool) : Ct Tryd.prog 23 #[.pointer (some ⟨q, 0, none⟩), .int .i64 id, .bool b] (Dp w0 q mm F) (Dp w0 q (mm + 1) (wUp F id (comS b))) (.tuple #[.int .i64 (wComN F id b : Nat), .int .i64 (wComE F id b : Nat)]) := fun w X h => by
  obtain ⟨h1, v, R, h2, rfl, rfl⟩ := h
  exact (rcommit18_any h2 id b).mono fun _ _ ⟨h3, hR⟩ => ⟨h3, dnx hR (h1.up id _ (comS_len b))⟩
theorem Dp.step (h : Dp w0 q mm F w X) (id : Int) : Calls Tryd.prog 27 #[.pointer (some ⟨q, 0, none⟩), .int .i64 id] w fun e w' => e = .returned (.int .i64 (wStep F id)) ∧ w' = w := by
  obtain ⟨h1, v, R, h2, rfl, rfl⟩ := h
  exact rstep_any h2 id
/-- What W answers, with what may be read behind it. -/
def WA (F : Wo) (id : Int) (r : Option Addr) (w : World) : Prop := (r = none ∧ gt F id = none) ∨ ∃ g P a n c x, r = some ⟨g, P, none⟩ ∧ gt F id = some x ∧ g < w.heap.size ∧ w.cell? ⟨g, P + 2, none⟩ = some (.slice a n c) ∧ Rz w a n c x.ser
theorem Dp.wat (h : Dp w0 q mm F w X) (id : Int) : ∃ r, WA F id r w ∧ Calls Tryd.prog 24 #[.pointer (some ⟨q, 0, none⟩), .int .i64 id] w fun e w' => e = .returned (.pointer r) ∧ w' = w := by
  obtain ⟨h1, v, R, h2, rfl, rfl⟩ := h
  have hc := rw_any h2 id
  cases hg : gt R id with
  | none =>
    rw [rwV_no hg] at hc
    exact ⟨none, .inl ⟨rfl, by rw [gt_dab, hg]; rfl⟩, hc⟩
  | some e =>
    obtain ⟨g, c, hv, _, h3, _, _, _, h4⟩ := h2.at_ hg
    rw [hv, rwV_yes hg] at hc
    exact ⟨_, .inr ⟨g, _, e.a, e.n, e.c, e.s, rfl, by rw [gt_dab, hg]; rfl, h3, h4, h2.rd id e hg⟩, hc⟩

/-- Both, and the call's own block at g. -/
structure Bo (es : List Addr) (w0 : World) (p q mm : Nat) (F G : Wo) (g : Nat) (cs : Array Value) (w : World) : Prop where
  ex : Ex (sbs (sbs (Sp es w0 p mm F) (Dp w0 q mm G)) (blk g 30 cs)) w
  lo : w0.heap.size ≤ g
variable {g : Nat} {cs : Array Value}
theorem Bo.ft (h : w0.heap.size ≤ g) : Ft w0.heap.size (sbs (sbs (Sp es w0 p mm F) (Dp w0 q mm G)) (blk g 30 cs)) := sbs_ft (sbs_ft (sp_ft _ _ _ _ _) (dp_ft _ _ _ _)) (blk_ft h)
theorem Bo.on (h : Bo es w0 p q mm F G g cs w) (hb : Below w.heap.size w w') : Bo es w0 p q mm F G g cs w' := ⟨h.ex.on (Bo.ft h.lo) hb, h.lo⟩
theorem Bo.parts (h : Bo es w0 p q mm F G g cs w) : (∃ X, Sp es w0 p mm F w X) ∧ (∃ Y, Dp w0 q mm G w Y) ∧ w.heap[g]? = some (.cells cs 30 (0, 0)) := by
  obtain ⟨Z, _, _, ⟨X, Y, h1, h2, _⟩, ⟨h3, _⟩, _⟩ := h.ex
  exact ⟨⟨X, h1⟩, ⟨Y, h2⟩, h3⟩
theorem Bo.bel (h : Bo es w0 p q mm F G g cs w) : RowKit.Below w0.heap.size w0 w := by
  obtain ⟨⟨X, h1⟩, _⟩ := h.parts
  exact h1.1
theorem Bo.cell (h : Bo es w0 p q mm F G g cs w) (j : Nat) : w.cell? ⟨g, j, none⟩ = cs[j]? := Lib.cell_of_heap h.parts.2.2 j
theorem Bo.lt (h : Bo es w0 p q mm F G g cs w) : g < w.heap.size := (Array.getElem?_eq_some_iff.1 h.parts.2.2).1
theorem Bo.left {f : Nat} {args : Array Value} {F' : Wo} {r : Value} (h : Bo es w0 p q mm F G g cs w) (hc : Ct Tryd.prog f args (Sp es w0 p mm F) (Sp es w0 p (mm + 1) F') r) : Calls Tryd.prog f args w fun e w' => e = .returned r ∧ Bo es w0 p q (mm + 1) F' G g cs w' := by
  obtain ⟨Z, hZ⟩ := h.ex
  refine (((hc.left (sp_ft _ _ _ _ _) (dp_ft w0 q mm G)).left (sbs_ft (sp_ft _ _ _ _ _) (dp_ft _ _ _ _)) (blk_ft h.lo)) w Z hZ).mono fun _ _ ⟨h1, Z', h2, _⟩ => ⟨h1, ?_⟩
  obtain ⟨U, V, ⟨X, Y, h3, h4, h5⟩, h6⟩ := h2
  exact ⟨⟨Z', U, V, ⟨X, Y, h3, dp_mono h4 (by omega), h5⟩, h6⟩, h.lo⟩
theorem Bo.right {f : Nat} {args : Array Value} {G' : Wo} {r : Value} (h : Bo es w0 p q mm F G g cs w) (hc : Ct Tryd.prog f args (Dp w0 q mm G) (Dp w0 q (mm + 1) G') r) : Calls Tryd.prog f args w fun e w' => e = .returned r ∧ Bo es w0 p q (mm + 1) F G' g cs w' := by
  obtain ⟨Z, hZ⟩ := h.ex
  refine (((hc.right (sp_ft es w0 p mm F) (dp_ft _ _ _ _)).left (sbs_ft (sp_ft _ _ _ _ _) (dp_ft _ _ _ _)) (blk_ft h.lo)) w Z hZ).mono fun _ _ ⟨h1, Z', h2, _⟩ => ⟨h1, ?_⟩
  obtain ⟨U, V, ⟨X, Y, h3, h4, h5⟩, h6⟩ := h2
  exact ⟨⟨Z', U, V, ⟨X, Y, sp_mono h3 (by omega), h4, h5⟩, h6⟩, h.lo⟩
theorem Bo.kind (h : Bo es w0 p q mm F G g cs w) (k : Nat) (hk : k ≤ 16) : Calls Tryd.prog 9 #[erv es k] w fun e w' => e = .returned (.int .i64 k) ∧ Bo es w0 p q mm F G g cs w' := by
  obtain ⟨⟨X, h1⟩, _⟩ := h.parts
  exact (h1.kind k hk).mono fun _ _ ⟨h2, h3⟩ => ⟨h2, h.on h3⟩
theorem Bo.has (h : Bo es w0 p q mm F G g cs w) (id : Int) (hi : Bw id) : Calls Tryd.prog 25 #[.pointer (some ⟨p, 0, none⟩), .int .i64 id] w fun e w' => e = .returned (.bool (wHas F id)) ∧ w' = w := by
  obtain ⟨⟨X, h1⟩, _⟩ := h.parts
  exact h1.has id hi
theorem Bo.istop (h : Bo es w0 p q mm F G g cs w) (id : Int) (hi : Bw id) : Calls Tryd.prog 26 #[.pointer (some ⟨p, 0, none⟩), .int .i64 id] w fun e w' => e = .returned (.bool (wIsTop F id)) ∧ ∃ k, w' = w.drewN k := by
  obtain ⟨⟨X, h1⟩, _⟩ := h.parts
  exact h1.istop id hi
theorem Bo.mapd (h : Bo es w0 p q mm F G g cs w) (id : Int) (hi : Bw id) : Calls Tryd.prog 28 #[.pointer (some ⟨p, 0, none⟩), .int .i64 id] w fun e w' => e = .returned (.bool (wMapd F id)) ∧ ∃ k, w' = w.drewN k := by
  obtain ⟨⟨X, h1⟩, _⟩ := h.parts
  exact h1.mapd id hi
theorem Bo.waits (h : Bo es w0 p q mm F G g cs w) (hm : mm ≤ 900) (id : Int) (hi : Bw id) : Calls Tryd.prog 30 #[.pointer (some ⟨p, 0, none⟩), .int .i64 id] w fun e w' => ∃ a c, e = .returned (.slice a (wSer F id).length c) ∧ Rz w' a (wSer F id).length c (wSer F id) ∧ Below w.heap.size w w' := by
  obtain ⟨⟨X, h1⟩, _⟩ := h.parts
  exact h1.waits hm id hi
theorem Bo.step (h : Bo es w0 p q mm F G g cs w) (id : Int) : Calls Tryd.prog 27 #[.pointer (some ⟨q, 0, none⟩), .int .i64 id] w fun e w' => e = .returned (.int .i64 (wStep G id)) ∧ w' = w := by
  obtain ⟨_, ⟨Y, h1⟩, _⟩ := h.parts
  exact h1.step id
theorem Bo.wat (h : Bo es w0 p q mm F G g cs w) (id : Int) : ∃ r, WA G id r w ∧ Calls Tryd.prog 24 #[.pointer (some ⟨q, 0, none⟩), .int .i64 id] w fun e w' => e = .returned (.pointer r) ∧ w' = w := by
  obtain ⟨_, ⟨Y, h1⟩, _⟩ := h.parts
  exact h1.wat id
theorem WA.on {id : Int} {r : Option Addr} (h : WA G id r w) (hb : Below w.heap.size w w') : WA G id r w' := by
  rcases h with h | ⟨g, P, a, n, c, x, h1, h2, h3, h4, h5⟩
  · exact .inl h
  · exact .inr ⟨g, P, a, n, c, x, h1, h2, Nat.lt_of_lt_of_le h3 hb.size, by rw [hb.cell h3]; exact h4, h5.on hb⟩
theorem WA.none {id : Int} {r : Option Addr} (h : WA G id r w) : r.isSome = wHas G id := by
  rcases h with ⟨rfl, h⟩ | ⟨g, P, a, n, c, x, rfl, h, _⟩
  · rw [wHas, h]
    rfl
  · rw [wHas, h]
    rfl
/-- The two alone. -/
structure B2 (es : List Addr) (w0 : World) (p q mm : Nat) (F : Wo) (w : World) : Prop where
  ex : Ex (sbs (Sp es w0 p mm F) (Dp w0 q mm F)) w
theorem Bo.two (h : Bo es w0 p q mm F F g cs w) {n : Nat} (hn : mm ≤ n) : B2 es w0 p q n F w := by
  obtain ⟨Z, U, V, ⟨X, Y, h3, h4, h5⟩, h6⟩ := h.ex
  exact ⟨U, X, Y, sp_mono h3 hn, dp_mono h4 hn, h5⟩
theorem B2.bel (h : B2 es w0 p q mm F w) : RowKit.Below w0.heap.size w0 w := by
  obtain ⟨Z, X, Y, h1, _⟩ := h.ex
  exact h1.1
theorem B2.bo (h : B2 es w0 p q mm F w) (cs : Array Value) : Bo es w0 p q mm F F w.heap.size cs (w.alloc (.cells cs 30)) := by
  have hb := h.bel
  obtain ⟨Z, hZ⟩ := h.ex
  exact ⟨⟨_, sbs_new (sbs_ft (sp_ft _ _ _ _ _) (dp_ft _ _ _ _)) hZ ((Below.refl _ _).alloc (Nat.le_refl _) _) ⟨heap_alloc_new w _, rfl⟩ (fun b hb => by
    obtain rfl := List.mem_singleton.1 hb
    exact Nat.le_refl _)⟩, hb.size⟩
theorem B2.awake (h : B2 es w0 p q mm F w) : Calls Tryd.prog 31 #[] w fun e w' => e = .returned (.bool true) ∧ RowKit.Below w0.heap.size w0 w' := by
  obtain ⟨Z, X, Y, h1, _⟩ := h.ex
  exact Ex.awake ⟨X, h1⟩
end Go.Proofs.YtnlaegleekghmaaDoor
