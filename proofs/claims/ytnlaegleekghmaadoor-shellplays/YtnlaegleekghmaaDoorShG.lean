/- The program's windows, call by call, as a thing in blocks of its own. -/
import Derived.Test.YtnlaegleekghmaaDoorShF
import Derived.Test.YtnlaegleekghmaaDoorLibY
import Derived.Test.YtnlaegleekghmaaDoorKindA
import Derived.Test.YtnlaegleekghmaaDoorLibP
namespace Go.Proofs.YtnlaegleekghmaaDoor
open Go Go.RowKit

/-- A shell of the law's own at p, after mm calls: the windows F; the errors are as they were laid. -/
def Sp (es : List Addr) (w0 : World) (p mm : Nat) (F : Wo) : Th := fun w X => RowKit.Below w0.heap.size w0 w ∧ Errs w0 gerrs es ∧ Wfew mm F ∧ ∃ m L, Sh w0.heap.size w p m L ∧ wab L = F ∧ X = wbl p m L
variable {es : List Addr} {w0 w w' : World} {p mm : Nat} {F : Wo} {X : List Nat}
theorem sp_ft (es : List Addr) (w0 : World) (p mm : Nat) (F : Wo) : Ft w0.heap.size (Sp es w0 p mm F) := by
  refine ⟨fun {w X} h b hb => ?_, fun {w w' X Y} h hk hY hX => ?_⟩
  · obtain ⟨_, _, _, m, L, h1, _, rfl⟩ := h
    exact h1.blt hb
  · obtain ⟨h1, h2, h3, m, L, h4, h5, rfl⟩ := h
    exact ⟨h1.trans (hk.below h1.size hY), h2, h3, m, L, h4.kept hk hX, h5, rfl⟩
theorem Sp.ne {p : Nat} (h : Sp es w0 p mm F w X) : w0.heap.size ≤ p ∧ p < w.heap.size := by
  obtain ⟨_, _, _, m, L, h1, _⟩ := h
  exact ⟨h1.lop, h1.lt.1⟩
theorem snx {m : Nat} {L L' : Pwl} {F' : Wo} {n : Nat} (hb : RowKit.Below w0.heap.size w0 w) (hE : Errs w0 gerrs es) (hS : Sh w0.heap.size w p m L) (hR : ShR w0.heap.size w p m L F' w' L') (hf : Wfew n F') : Nx (Sp es w0 p n F') (wbl p m L) w w' :=
  ⟨wbl p m L', ⟨hb.trans (hR.kp.below hb.size (fun _ hb => (hS.blt hb).1)), hE, hf, m, L', hR.sh, hR.ab, rfl⟩, hR.kp, hR.new⟩
theorem wlen {L : Pwl} (hf : Wfew mm (wab L)) {B : Nat} {p m : Nat} (hS : Sh B w p m L) (hm : mm ≤ 900) (id : Int) (e : Pw) (he : gt L id = some e) : e.n ≤ 1000000 := by
  have := hf.ser id e.s (by rw [gt_wab, he]; rfl)
  have := (hS.row id e he).len
  omega
theorem sp_new (w0 w : World) (hb : Below w0.heap.size w0 w) (hE : Errs w0 gerrs es) : Calls Tryd.prog 7 #[] w fun e w' => ∃ p X, e = .returned (.pointer (some ⟨p, 0, none⟩)) ∧ Sp es w0 p 0 [] w' X ∧ Below w.heap.size w w' ∧ ∀ b ∈ X, w.heap.size ≤ b :=
  (snew_any w).mono fun _ _ ⟨h1, h2, h3⟩ => ⟨_, _, h1, ⟨Below.on hb h2, hE, wfew_nil, _, _, h3 _ hb.size, rfl, rfl⟩, h2, fun b hb => by
    simp only [wbl, List.flatMap_nil, List.mem_cons, List.not_mem_nil, or_false] at hb
    omega⟩
theorem sp_add (hm : mm ≤ 900) (id : Int) (hi : Bw id) (b : Bool) : Ct Tryd.prog 10 #[.pointer (some ⟨p, 0, none⟩), .int .i64 id, .bool b] (Sp es w0 p mm F) (Sp es w0 p (mm + 1) (wAddF F id b)) (erv es (wAddE F id b)) := fun w X h => by
  obtain ⟨h1, h2, h3, m, L, h4, rfl, rfl⟩ := h
  exact (sadd_any (we_of (h2.below h1)) h4 (by have := h3.len; rw [wab_length] at this; omega) id hi b).mono fun _ _ ⟨h5, L', hR⟩ => ⟨h5, snx h1 h2 h4 hR (h3.add id b)⟩
theorem sp_drp (_hm : mm ≤ 900) (id : Int) (hi : Bw id) : Ct Tryd.prog 12 #[.pointer (some ⟨p, 0, none⟩), .int .i64 id] (Sp es w0 p mm F) (Sp es w0 p (mm + 1) (wDrpF F id)) (erv es (wDrpE F id)) := fun w X h => by
  obtain ⟨h1, h2, h3, m, L, h4, rfl, rfl⟩ := h
  exact (sdrop_any (we_of (h2.below h1)) h4 id hi).mono fun _ _ ⟨h5, L', hR⟩ => ⟨h5, snx h1 h2 h4 hR (h3.drp id)⟩
theorem sp_top (_hm : mm ≤ 900) (id : Int) (hi : Bw id) : Ct Tryd.prog 14 #[.pointer (some ⟨p, 0, none⟩), .int .i64 id] (Sp es w0 p mm F) (Sp es w0 p (mm + 1) (wUp F id topS)) (erv es (wTopE F id)) := fun w X h => by
  obtain ⟨h1, h2, h3, m, L, h4, rfl, rfl⟩ := h
  exact (smktop_any (we_of (h2.below h1)) h4 id hi).mono fun _ _ ⟨h5, L', hR⟩ => ⟨h5, snx h1 h2 h4 hR (h3.up id _ topS_len)⟩
theorem sp_unt (_hm : mm ≤ 900) (id : Int) (hi : Bw id) : Ct Tryd.prog 16 #[.pointer (some ⟨p, 0, none⟩), .int .i64 id] (Sp es w0 p mm F) (Sp es w0 p (mm + 1) (wUp F id untS)) (erv es (wUntE F id)) := fun w X h => by
  obtain ⟨h1, h2, h3, m, L, h4, rfl, rfl⟩ := h
  exact (suntop_any (we_of (h2.below h1)) h4 id hi).mono fun _ _ ⟨h5, L', hR⟩ => ⟨h5, snx h1 h2 h4 hR (h3.up id _ untS_len)⟩
theorem sp_snd (hm : mm ≤ 900) (id : Int) (hi : Bw id) (z : Int) : Ct Tryd.prog 18 #[.pointer (some ⟨p, 0, none⟩), .int .i64 id, .int .i64 z] (Sp es w0 p mm F) (Sp es w0 p (mm + 1) (wUp F id (sndS z))) (erv es (wUntE F id)) := fun w X h => by
  obtain ⟨h1, h2, h3, m, L, h4, rfl, rfl⟩ := h
  exact (ssend_any (we_of (h2.below h1)) h4 id hi z (wlen h3 h4 hm id)).mono fun _ _ ⟨h5, L', hR⟩ => ⟨h5, snx h1 h2 h4 hR (h3.up id _ (sndS_len z))⟩
theorem sp_ack (hm : mm ≤ 900) (id : Int) (hi : Bw id) (z : Int) : Ct Tryd.prog 20 #[.pointer (some ⟨p, 0, none⟩), .int .i64 id, .int .i64 z] (Sp es w0 p mm F) (Sp es w0 p (mm + 1) (wUp F id (ackS z))) (erv es (wAckE F id z)) := fun w X h => by
  obtain ⟨h1, h2, h3, m, L, h4, rfl, rfl⟩ := h
  exact (sack_any (we_of (h2.below h1)) h4 id hi z (wlen h3 h4 hm id)).mono fun _ _ ⟨h5, L', hR⟩ => ⟨h5, snx h1 h2 h4 hR (h3.up id _ (ackS_len z))⟩
theorem sp_com (_hm : mm ≤ 900) (id : Int) (hi : Bw id) (t b : Bool) : Ct Tryd.prog 22 #[.pointer (some ⟨p, 0, none⟩), .int .i64 id, .bool t, .bool b] (Sp es w0 p mm F) (Sp es w0 p (mm + 1) (wUp F id (comS b))) (.tuple #[.int .i64 (wComN F id b : Nat), erv es (wComE F id b)]) := fun w X h => by
  obtain ⟨h1, h2, h3, m, L, h4, rfl, rfl⟩ := h
  exact (scommit_any (we_of (h2.below h1)) h4 id hi t b).mono fun _ _ ⟨h5, L', hR⟩ => ⟨h5, snx h1 h2 h4 hR (h3.up id _ (comS_len b))⟩
/-! What is only read. -/
theorem Sp.has (h : Sp es w0 p mm F w X) (id : Int) (hi : Bw id) : Calls Tryd.prog 25 #[.pointer (some ⟨p, 0, none⟩), .int .i64 id] w fun e w' => e = .returned (.bool (wHas F id)) ∧ w' = w := by
  obtain ⟨h1, h2, h3, m, L, h4, rfl, rfl⟩ := h
  exact shas_any h4 id hi
theorem Sp.istop (h : Sp es w0 p mm F w X) (id : Int) (hi : Bw id) : Calls Tryd.prog 26 #[.pointer (some ⟨p, 0, none⟩), .int .i64 id] w fun e w' => e = .returned (.bool (wIsTop F id)) ∧ ∃ q, w' = w.drewN q := by
  obtain ⟨h1, h2, h3, m, L, h4, rfl, rfl⟩ := h
  exact stop_any (we_of (h2.below h1)) h4 id hi
theorem Sp.mapd (h : Sp es w0 p mm F w X) (id : Int) (hi : Bw id) : Calls Tryd.prog 28 #[.pointer (some ⟨p, 0, none⟩), .int .i64 id] w fun e w' => e = .returned (.bool (wMapd F id)) ∧ ∃ q, w' = w.drewN q := by
  obtain ⟨h1, h2, h3, m, L, h4, rfl, rfl⟩ := h
  exact smapped_any (we_of (h2.below h1)) h4 id hi
theorem Sp.waits (h : Sp es w0 p mm F w X) (hm : mm ≤ 900) (id : Int) (hi : Bw id) : Calls Tryd.prog 30 #[.pointer (some ⟨p, 0, none⟩), .int .i64 id] w fun e w' => ∃ a c, e = .returned (.slice a (wSer F id).length c) ∧ Rz w' a (wSer F id).length c (wSer F id) ∧ Below w.heap.size w w' := by
  obtain ⟨h1, h2, h3, m, L, h4, rfl, rfl⟩ := h
  refine (swaits_any (we_of (h2.below h1)) h4 id hi (wlen h3 h4 hm id)).mono ?_
  rintro e w' ⟨v, rfl, hv⟩
  obtain ⟨a, c, rfl, h5, _⟩ := hv.rd
  exact ⟨a, c, rfl, h5, hv.bel⟩
theorem Sp.kind (h : Sp es w0 p mm F w X) (k : Nat) (hk : k ≤ 16) : Calls Tryd.prog 9 #[erv es k] w fun e w' => e = .returned (.int .i64 k) ∧ Below w.heap.size w w' := by
  obtain ⟨h1, h2, _⟩ := h
  exact kind_erv w es (h2.below h1) k hk
theorem wErr_le {F : Wo} {id : Int} {f : Wn → Nat} (h : ∀ x, f x ≤ 16) : wErr F id f ≤ 16 := by
  unfold wErr
  split
  · omega
  · exact h _
theorem wAddE_le (F : Wo) (id : Int) (b : Bool) : wAddE F id b ≤ 16 := by
  unfold wAddE
  split
  · cases b <;> decide
  · decide
theorem wDrpE_le (F : Wo) (id : Int) : wDrpE F id ≤ 16 := wErr_le fun x => by split <;> omega
theorem wTopE_le (F : Wo) (id : Int) : wTopE F id ≤ 16 := wErr_le fun x => by split <;> omega
theorem wUntE_le (F : Wo) (id : Int) : wUntE F id ≤ 16 := wErr_le fun x => by split <;> omega
theorem wAckE_le (F : Wo) (id z : Int) : wAckE F id z ≤ 16 := wErr_le fun x => by
  unfold ackE
  split
  · omega
  · split <;> omega
theorem wComE_le (F : Wo) (id : Int) (b : Bool) : wComE F id b ≤ 16 := wErr_le fun x => by rcases mayE_two b x.step with h | h <;> omega
end Go.Proofs.YtnlaegleekghmaaDoor
