/- Two shells beside one another. -/
import Derived.Test.YtnlaegleekghmaaDoorShH
namespace Go.Proofs.YtnlaegleekghmaaDoor
open Go Go.RowKit

variable {es : List Addr} {w0 w w' : World} {p q mm nn : Nat} {F G : Wo} {X : List Nat}
theorem sp_mono {n : Nat} (h : Sp es w0 p mm F w X) (hn : mm ≤ n) : Sp es w0 p n F w X := by
  obtain ⟨h1, h2, h3, h4⟩ := h
  exact ⟨h1, h2, h3.mono hn, h4⟩
/-- Two shells of the law's own. -/
structure Tw (es : List Addr) (w0 : World) (p q mm : Nat) (F G : Wo) (w : World) : Prop where
  ex : Ex (sbs (Sp es w0 p mm F) (Sp es w0 q mm G)) w
theorem Tw.bel (h : Tw es w0 p q mm F G w) : RowKit.Below w0.heap.size w0 w := by
  obtain ⟨_, _, _, h1, _⟩ := h.ex
  exact h1.1
theorem Tw.on (h : Tw es w0 p q mm F G w) (hb : Below w.heap.size w w') : Tw es w0 p q mm F G w' := ⟨h.ex.on (sbs_ft (sp_ft _ _ _ _ _) (sp_ft _ _ _ _ _)) hb⟩
theorem Tw.mono (h : Tw es w0 p q mm F G w) {n : Nat} (hn : mm ≤ n) : Tw es w0 p q n F G w := by
  obtain ⟨Z, X, Y, h1, h2, h3⟩ := h.ex
  exact ⟨Z, X, Y, sp_mono h1 hn, sp_mono h2 hn, h3⟩
/-- A call of the first one. -/
theorem Tw.left {f : Nat} {args : Array Value} {F' : Wo} {r : Value} (h : Tw es w0 p q mm F G w) (hc : Ct Tryd.prog f args (Sp es w0 p mm F) (Sp es w0 p (mm + 1) F') r) : Calls Tryd.prog f args w fun e w' => e = .returned r ∧ Tw es w0 p q (mm + 1) F' G w' := by
  obtain ⟨Z, hZ⟩ := h.ex
  refine ((hc.left (sp_ft _ _ _ _ _) (sp_ft es w0 q mm G)) w Z hZ).mono fun _ _ ⟨h1, Z', h2, _⟩ => ⟨h1, ?_⟩
  obtain ⟨X, Y, h3, h4, h5⟩ := h2
  exact ⟨Z', X, Y, h3, sp_mono h4 (by omega), h5⟩
theorem Tw.right {f : Nat} {args : Array Value} {G' : Wo} {r : Value} (h : Tw es w0 p q mm F G w) (hc : Ct Tryd.prog f args (Sp es w0 q mm G) (Sp es w0 q (mm + 1) G') r) : Calls Tryd.prog f args w fun e w' => e = .returned r ∧ Tw es w0 p q (mm + 1) F G' w' := by
  obtain ⟨Z, hZ⟩ := h.ex
  refine ((hc.right (sp_ft es w0 p mm F) (sp_ft _ _ _ _ _)) w Z hZ).mono fun _ _ ⟨h1, Z', h2, _⟩ => ⟨h1, ?_⟩
  obtain ⟨X, Y, h3, h4, h5⟩ := h2
  exact ⟨Z', X, Y, sp_mono h3 (by omega), h4, h5⟩
theorem Tw.one (h : Tw es w0 p q mm F G w) : (∃ X, Sp es w0 p mm F w X) ∧ ∃ Y, Sp es w0 q mm G w Y := by
  obtain ⟨Z, X, Y, h1, h2, _⟩ := h.ex
  exact ⟨⟨X, h1⟩, ⟨Y, h2⟩⟩
theorem Tw.kind (h : Tw es w0 p q mm F G w) (k : Nat) (hk : k ≤ 16) : Calls Tryd.prog 9 #[erv es k] w fun e w' => e = .returned (.int .i64 k) ∧ Tw es w0 p q mm F G w' := by
  obtain ⟨⟨X, h1⟩, _⟩ := h.one
  exact (h1.kind k hk).mono fun _ _ ⟨h2, h3⟩ => ⟨h2, h.on h3⟩
theorem Tw.awake (h : Tw es w0 p q mm F G w) : Calls Tryd.prog 31 #[] w fun e w' => e = .returned (.bool true) ∧ RowKit.Below w0.heap.size w0 w' := Ex.awake h.one.1
theorem Tw.mapd1 (h : Tw es w0 p q mm F G w) (id : Int) (hi : Bw id) : Calls Tryd.prog 28 #[.pointer (some ⟨p, 0, none⟩), .int .i64 id] w fun e w' => e = .returned (.bool (wMapd F id)) ∧ Tw es w0 p q mm F G w' := by
  obtain ⟨⟨X, h1⟩, _⟩ := h.one
  exact (h1.mapd id hi).mono fun _ _ ⟨h2, k, h3⟩ => ⟨h2, h3 ▸ h.on (below_drew1 w k)⟩
theorem Tw.mapd2 (h : Tw es w0 p q mm F G w) (id : Int) (hi : Bw id) : Calls Tryd.prog 28 #[.pointer (some ⟨q, 0, none⟩), .int .i64 id] w fun e w' => e = .returned (.bool (wMapd G id)) ∧ Tw es w0 p q mm F G w' := by
  obtain ⟨_, ⟨X, h1⟩⟩ := h.one
  exact (h1.mapd id hi).mono fun _ _ ⟨h2, k, h3⟩ => ⟨h2, h3 ▸ h.on (below_drew1 w k)⟩
theorem Tw.istop1 (h : Tw es w0 p q mm F G w) (id : Int) (hi : Bw id) : Calls Tryd.prog 26 #[.pointer (some ⟨p, 0, none⟩), .int .i64 id] w fun e w' => e = .returned (.bool (wIsTop F id)) ∧ Tw es w0 p q mm F G w' := by
  obtain ⟨⟨X, h1⟩, _⟩ := h.one
  exact (h1.istop id hi).mono fun _ _ ⟨h2, k, h3⟩ => ⟨h2, h3 ▸ h.on (below_drew1 w k)⟩
theorem Tw.istop2 (h : Tw es w0 p q mm F G w) (id : Int) (hi : Bw id) : Calls Tryd.prog 26 #[.pointer (some ⟨q, 0, none⟩), .int .i64 id] w fun e w' => e = .returned (.bool (wIsTop G id)) ∧ Tw es w0 p q mm F G w' := by
  obtain ⟨_, ⟨X, h1⟩⟩ := h.one
  exact (h1.istop id hi).mono fun _ _ ⟨h2, k, h3⟩ => ⟨h2, h3 ▸ h.on (below_drew1 w k)⟩
theorem Tw.has2 (h : Tw es w0 p q mm F G w) (id : Int) (hi : Bw id) : Calls Tryd.prog 25 #[.pointer (some ⟨q, 0, none⟩), .int .i64 id] w fun e w' => e = .returned (.bool (wHas G id)) ∧ Tw es w0 p q mm F G w' := by
  obtain ⟨_, ⟨X, h1⟩⟩ := h.one
  exact (h1.has id hi).mono fun _ _ ⟨h2, h3⟩ => ⟨h2, h3 ▸ h⟩
theorem Tw.waits1 (h : Tw es w0 p q mm F G w) (hm : mm ≤ 900) (id : Int) (hi : Bw id) : Calls Tryd.prog 30 #[.pointer (some ⟨p, 0, none⟩), .int .i64 id] w fun e w' => ∃ a c, e = .returned (.slice a (wSer F id).length c) ∧ Rz w' a (wSer F id).length c (wSer F id) ∧ Tw es w0 p q mm F G w' := by
  obtain ⟨⟨X, h1⟩, _⟩ := h.one
  exact (h1.waits hm id hi).mono fun _ _ ⟨a, c, h2, h3, h4⟩ => ⟨a, c, h2, h3, h.on h4⟩
theorem Tw.waits2 (h : Tw es w0 p q mm F G w) (hm : mm ≤ 900) (id : Int) (hi : Bw id) : Calls Tryd.prog 30 #[.pointer (some ⟨q, 0, none⟩), .int .i64 id] w fun e w' => ∃ a c, e = .returned (.slice a (wSer G id).length c) ∧ Rz w' a (wSer G id).length c (wSer G id) ∧ Tw es w0 p q mm F G w' ∧ Below w.heap.size w w' := by
  obtain ⟨_, ⟨X, h1⟩⟩ := h.one
  exact (h1.waits hm id hi).mono fun _ _ ⟨a, c, h2, h3, h4⟩ => ⟨a, c, h2, h3, h.on h4, h4⟩
theorem wErr_eq {id : Int} {f : Wn → Nat} (h : gt F id = gt G id) : wErr F id f = wErr G id f := by rw [wErr, wErr, h]
theorem wUp_eq {id : Int} {f : Wn → Option Wn} (h : gt F id = gt G id) : gt (wUp F id f) id = gt (wUp G id f) id := by rw [wUp_gt, wUp_gt, if_pos rfl, if_pos rfl, h]
theorem wUp_ne {id x : Int} {f : Wn → Option Wn} (h : x ≠ id) : gt (wUp F id f) x = gt F x := by rw [wUp_gt, if_neg h]
/-- Of what is alike the numbers are alike. -/
theorem nb_self (k : Int) : (k != k) = false := by simp
theorem wSer_le {id : Int} (h : Wfew mm F) : (wSer F id).length ≤ mm := by
  unfold wSer
  cases hg : gt F id with
  | none => simp
  | some x => exact h.ser id x hg
theorem Tw.ser (h : Tw es w0 p q mm F G w) (id : Int) : (wSer F id).length ≤ mm := by
  obtain ⟨⟨X, h1⟩, _⟩ := h.one
  exact wSer_le h1.2.2.1
end Go.Proofs.YtnlaegleekghmaaDoor
