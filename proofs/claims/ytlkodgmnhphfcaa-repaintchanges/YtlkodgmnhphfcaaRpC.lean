/- Damaged surfaces: a slice of them, program's or document's; a row of one's own. -/
import Derived.Test.YtlkodgmnhphfcaaRpA
import Derived.Test.YtlkodgmnhphfcaaRgnP
namespace Go.Proofs.Ytlkodgmnhphfcaa
open Go Go.RowKit

/-- A damaged surface: its number, where its damage lies, and this. -/
structure Dv where
  s : Int
  a : Option Addr
  n : Nat
  c : Nat
  l : List Rc
def dvv (d : Dv) : Array Value := #[.int .i64 d.s, .slice d.a d.n d.c]
/-- What it says, wherever that lies. -/
def ddl (d : Dv) : Int × List Rc := (d.s, d.l)
def dzz : Dv := ⟨0, none, 0, 0, []⟩
structure DOk (w : World) (d : Dv) : Prop where
  ks : I64 d.s
  rc : RdC w d.a d.n d.c d.l
theorem DOk.on {w u : World} {d : Dv} (h : DOk w d) (hb : Below w.heap.size w u) : DOk u d := ⟨h.ks, h.rc.on hb⟩
/-- A slice of such. -/
structure RdD (w : World) (a : Option Addr) (n c : Nat) (ds : List Dv) : Prop where
  len : ds.length = n
  le : n ≤ c
  max : c ≤ maxLen
  hnil : a = none → c = 0
  pl : 0 < n → ∃ b off, a = some ⟨b, off, none⟩ ∧ b < w.heap.size ∧ ∀ j d, ds[j]? = some d → ∀ i v, (dvv d)[i]? = some v → w.cell? ⟨b, off + (j * 2 + i), none⟩ = some v
  ok : ∀ d ∈ ds, DOk w d
theorem RdD.nil (w : World) : RdD w none 0 0 [] := ⟨rfl, Nat.le_refl _, Nat.zero_le _, fun _ => rfl, fun h => absurd h (by omega), by simp⟩
theorem RdD.small {w : World} {a : Option Addr} {n c : Nat} {ds : List Dv} (h : RdD w a n c ds) : n ≤ 9223372036854775807 ∧ c ≤ 9223372036854775807 := by
  have h1 := h.le
  have h2 := h.max
  simp only [maxLen] at h2
  omega
theorem RdD.on {w u : World} {a : Option Addr} {n c : Nat} {ds : List Dv} (h : RdD w a n c ds) (hb : Below w.heap.size w u) : RdD u a n c ds :=
  ⟨h.len, h.le, h.max, h.hnil, fun hn => by
    obtain ⟨b, off, e, h1, h2⟩ := h.pl hn
    exact ⟨b, off, e, Nat.lt_of_lt_of_le h1 hb.size, fun j d hj i v hv => by rw [hb.cell h1]; exact h2 j d hj i v hv⟩, fun d hd => (h.ok d hd).on hb⟩
theorem RdD.el {w : World} {a : Option Addr} {n c : Nat} {ds : List Dv} (h : RdD w a n c ds) {j : Nat} (hj : j < n) : ∃ b off d, a = some ⟨b, off, none⟩ ∧ b < w.heap.size ∧ ds[j]? = some d ∧ DOk w d ∧ w.cell? ⟨b, off + j * 2, none⟩ = some (.int .i64 d.s) ∧ w.cell? ⟨b, off + j * 2 + 1, none⟩ = some (.slice d.a d.n d.c) := by
  obtain ⟨b, off, e, h1, h2⟩ := h.pl (by omega)
  have hl := h.len
  have hg : ds[j]? = some ds[j] := List.getElem?_eq_getElem (by omega)
  have h4 := h2 j _ hg
  exact ⟨b, off, _, e, h1, hg, h.ok _ (List.mem_of_getElem? hg), by simpa using h4 0 (.int .i64 ds[j].s) rfl, by simpa [Nat.add_assoc] using h4 1 (.slice ds[j].a ds[j].n ds[j].c) rfl⟩

def dcs (l : List Dv) : List Value := l.flatMap fun d => (dvv d).toList
theorem dcs_append (a b : List Dv) : dcs (a ++ b) = dcs a ++ dcs b := by simp [dcs]
theorem dcs_at {l : List Dv} {j : Nat} {d : Dv} (hj : l[j]? = some d) {i : Nat} {v : Value} (hi : (dvv d)[i]? = some v) : (dcs l)[j * 2 + i]? = some v := by
  induction l generalizing j with
  | nil => simp at hj
  | cons x l ih =>
    have hc : dcs (x :: l) = (dvv x).toList ++ dcs l := rfl
    rw [hc]
    cases j with
    | zero =>
      simp only [List.getElem?_cons_zero, Option.some.injEq] at hj
      subst hj
      have : i < (dvv x).toList.length := by simpa using (Array.getElem?_eq_some_iff.1 hi).1
      rw [Nat.zero_mul, Nat.zero_add, List.getElem?_append_left this]
      simpa using hi
    | succ j =>
      have h7 : (dvv x).toList.length = 2 := rfl
      rw [List.getElem?_append_right (by rw [h7]; omega), h7, show (j + 1) * 2 + i - 2 = j * 2 + i by omega]
      exact ih (by simpa using hj)
theorem dvv_one (d : Dv) : ∀ u ∈ (dvv d).toList, u.oneCell' = true := by
  intro u hu
  simp only [dvv, List.mem_cons, List.not_mem_nil, or_false] at hu
  rcases hu with rfl | rfl <;> rfl
/-- A row of such of the call's own; none of their damage lies in the row. -/
structure OwD (e : Nat) (w u : World) (v : Value) (l : List Dv) : Prop where
  own : u.ownsRow w.heap.size e 2 v l.length (dcs l)
  bel : Below w.heap.size w u
  ok : ∀ d ∈ l, DOk u d
  ap : ∀ d ∈ l, 0 < d.n → ∀ x, d.a = some x → v.ownBlock ≠ some x.block
theorem OwD.nil (e : Nat) (w : World) : OwD e w w (.slice none 0 0) [] := ⟨World.ownsRow_nil _ _ _ _, Below.refl _ _, by simp, by simp⟩
theorem OwD.on {e : Nat} {w u u' : World} {v : Value} {l : List Dv} (h : OwD e w u v l) (hb : Below u.heap.size u u') : OwD e w u' v l := ⟨ownsRow_below h.own hb, Below.on h.bel hb, fun x hx => (h.ok x hx).on hb, h.ap⟩
theorem El.kp {w u : World} {b o : Nat} {r : Rc} (h : El w b o r) {X : List Nat} (hk : Kp X w u) (hX : b ∉ X) : El u b o r :=
  ⟨Nat.lt_of_lt_of_le h.lt hk.size, hk.cell h.c0 hX, hk.cell h.c1 hX, hk.cell h.c2 hX, hk.cell h.c3 hX⟩
theorem RdC.kp {w u : World} {a : Option Addr} {n c : Nat} {l : List Rc} (h : RdC w a n c l) {X : List Nat} (hk : Kp X w u) (hX : 0 < n → ∀ x, a = some x → x.block ∉ X) : RdC u a n c l :=
  ⟨h.len, h.le, h.max, h.hnil, fun hn => by
    obtain ⟨b, off, e, h1, h2⟩ := h.pl hn
    exact ⟨b, off, e, Nat.lt_of_lt_of_le h1 hk.size, fun j r hr => (h2 j r hr).kp hk (by simpa using hX hn _ e)⟩, h.ok⟩
theorem DOk.kp {w u : World} {d : Dv} (h : DOk w d) {X : List Nat} (hk : Kp X w u) (hX : 0 < d.n → ∀ x, d.a = some x → x.block ∉ X) : DOk u d := ⟨h.ks, h.rc.kp hk hX⟩
theorem OwD.more {e : Nat} {w u u' : World} {v v' : Value} {l : List Dv} {x : Dv} (h : OwD e w u v l) (hx : DOk u x) (hxa : 0 < x.n → ∀ y, x.a = some y → v.ownBlock ≠ some y.block)
    (o2 : u'.ownsRow w.heap.size e 2 v' (l.length + 1) (dcs l ++ (dvv x).toList)) (g : u.grownBy u' v.ownBlock) (p : v'.ownBlock = v.ownBlock ∨ v'.ownBlock = some u.heap.size) : OwD e w u' v' (l ++ [x]) := by
  have hall : ∀ y ∈ l ++ [x], DOk u y ∧ (0 < y.n → ∀ z, y.a = some z → v.ownBlock ≠ some z.block) := fun y hy => by
    rcases List.mem_append.1 hy with hy | hy
    · exact ⟨h.ok y hy, h.ap y hy⟩
    · obtain rfl := List.mem_singleton.1 hy
      exact ⟨hx, hxa⟩
  refine ⟨by rw [List.length_append, dcs_append]; simpa [dcs] using o2, h.bel.grown g h.bel.size (fun k hk => (h.own.lt k hk).1), fun y hy => (hall y hy).1.kp (kp_of_grown g) (fun hn z hz hm => (hall y hy).2 hn z hz (by simpa using hm)), fun y hy hn z hz => ?_⟩
  rcases p with p | p
  · rw [p]
    exact (hall y hy).2 hn z hz
  · intro e2
    rw [p] at e2
    obtain ⟨b, off, e3, h4, _⟩ := (hall y hy).1.rc.pl hn
    rw [hz] at e3
    cases e3
    simp only [Option.some.injEq] at e2
    omega
theorem OwD.rd {e : Nat} {w u : World} {v : Value} {l : List Dv} (h : OwD e w u v l) : ∃ a c, v = .slice a l.length c ∧ RdD u a l.length c l := by
  rcases h.own.2 with ⟨rfl, h0⟩ | ⟨g, cap, cur, rfl, hb, hg, hn, hm, _, _⟩
  · obtain rfl : l = [] := List.eq_nil_of_length_eq_zero h0
    exact ⟨none, 0, rfl, RdD.nil u⟩
  · exact ⟨_, cap, rfl, ⟨rfl, hn, hm, (fun h => by cases h), fun _ => ⟨g, 0, rfl, (h.own.lt g rfl).2, fun j x hj i v hv => by
      have hi : i < 2 := by simpa [dvv] using (Array.getElem?_eq_some_iff.1 hv).1
      have hjl := (List.getElem?_eq_some_iff.1 hj).1
      rw [Nat.zero_add, h.own.cellAt _ (by omega)]
      exact dcs_at hj hv⟩, h.ok⟩⟩
theorem src_dv {P : Program} {T TS : Nat} (hu : P.underlying TS = some (.slice T)) (U : World) (d : Dv) : Src P 2 TS (.slice (some ⟨U.heap.size, 0, none⟩) 1 1) 1 (dvv d).toList (U.alloc (.cells (dvv d) T)) := by
  refine Src.ofSlice _ hu ⟨U.heap.size, 0, none⟩ 1 1 (dvv d).toList rfl (fun j u hu => ?_) (dvv_one d)
  rw [Go.WideShapes.add_plain, Nat.zero_add, Lib.cell_of_heap (heap_alloc_new U _)]
  simpa using hu
/-- A literal of one. -/
theorem rdd_one (U : World) (T : Nat) {d : Dv} (h : DOk U d) : RdD (U.alloc (.cells (dvv d) T)) (some ⟨U.heap.size, 0, none⟩) 1 1 [d] :=
  ⟨rfl, Nat.le_refl _, by decide, (fun h => by cases h), fun _ => ⟨U.heap.size, 0, rfl, by simp, fun j x hj i v hv => by
    match j, hj with
    | 0, hj =>
      cases hj
      rw [Nat.zero_mul, Nat.zero_add, Nat.zero_add, Lib.cell_of_heap (heap_alloc_new U _)]
      exact hv⟩, fun x hx => by
    obtain rfl := List.mem_singleton.1 hx
    exact h.on ((Below.refl _ _).alloc (Nat.le_refl _) _)⟩
theorem i64_wf {n : Int} (h : (Lit.int .i64 n).wf = true) : I64 n := by
  unfold I64
  simpa [Lit.wf, IntKind.min, IntKind.max, IntKind.signed, IntKind.bits] using h
theorem vrc_ok {y : List Int} (h : ∀ z ∈ y, I64 z) : (vrc y).Ok := by
  have k : ∀ i, -9223372036854775808 ≤ nm5 i y ∧ nm5 i y ≤ 9223372036854775807 := fun i => by
    rw [nm5, List.getD_eq_getElem?_getD]
    cases e : y[i]? with
    | none => simp
    | some z => exact h z (List.mem_of_getElem? e)
  exact ⟨k 2, k 3, k 4, k 5⟩
end Go.Proofs.Ytlkodgmnhphfcaa
