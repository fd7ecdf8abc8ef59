/- Points written into a memory, one by one; the four listed errors of a loader's row. -/
import Derived.Test.YtpcepgecbdjdfaaDoorBi
import Derived.Test.YtpcepgecbdjdfaaDoorBh
import Derived.Laws.Rows
import Derived.Test.YtpcepgecbdjdfaaDoorBa
import Derived.Test.YtpcepgecbdjdfaaDoorBf
import Derived.Deep.RegionHeldLaw
namespace Go.Proofs.YtpcepgecbdjdfaaDoor
open Go Go.RowKit

theorem bt_nat (l : List UInt8) (i : Nat) : bt l (i : Int) = (l.getD i 0).toNat := by
  unfold bt
  rw [if_neg (by omega), Int.toNat_natCast]
theorem wd_nat (l : List UInt8) (i : Nat) : wd l (i : Int) = (l.getD i 0).toNat + (l.getD (i + 1) 0).toNat * 256 + (l.getD (i + 2) 0).toNat * 65536 + (l.getD (i + 3) 0).toNat * 16777216 := by
  have e1 := bt_nat l (i + 1)
  have e2 := bt_nat l (i + 2)
  have e3 := bt_nat l (i + 3)
  rw [show ((i + 1 : Nat) : Int) = (i : Int) + 1 by omega] at e1
  rw [show ((i + 2 : Nat) : Int) = (i : Int) + 2 by omega] at e2
  rw [show ((i + 3 : Nat) : Int) = (i : Int) + 3 by omega] at e3
  rw [wd, bt_nat, e1, e2, e3]
theorem wro_getD (L : List UInt8) (k : Nat) (b : List UInt8) (hk : k + b.length ≤ L.length) (i : Nat) : (wro L k b).getD i 0 = if k ≤ i ∧ i < k + b.length then b.getD (i - k) 0 else L.getD i 0 := by
  rw [wro, List.getD, List.getD, List.getD, List.append_assoc]
  have ht : (L.take k).length = k := by rw [List.length_take]; omega
  by_cases h1 : i < k
  · rw [List.getElem?_append_left (by omega), if_neg (by omega), List.getElem?_take_of_lt h1]
  · rw [List.getElem?_append_right (by omega), ht]
    by_cases h2 : i < k + b.length
    · rw [List.getElem?_append_left (by omega), if_pos ⟨by omega, h2⟩]
    · rw [List.getElem?_append_right (by omega), if_neg (by omega), List.getElem?_drop, show k + b.length + (i - k - b.length) = i by omega]
theorem wd_same (L : List UInt8) (k z : Nat) (hk : k + 4 ≤ L.length) (hz : z < 4294967296) : wd (wro L k (w4 z)) (k : Int) = z := by
  have hl : (w4 z).length = 4 := w4_length z
  rw [wd_nat, wro_getD _ _ _ (by omega), wro_getD _ _ _ (by omega), wro_getD _ _ _ (by omega), wro_getD _ _ _ (by omega), if_pos (by omega), if_pos (by omega), if_pos (by omega), if_pos (by omega), Nat.sub_self, show k + 1 - k = 1 by omega, show k + 2 - k = 2 by omega, show k + 3 - k = 3 by omega, w4_get z 0 (by omega), w4_get z 1 (by omega), w4_get z 2 (by omega), w4_get z 3 (by omega)]
  exact dg_all z hz
theorem wd_other (L : List UInt8) (k z j : Nat) (hk : k + 4 ≤ L.length) (h : j + 4 ≤ k) : wd (wro L k (w4 z)) (j : Int) = wd L (j : Int) := by
  have hl : (w4 z).length = 4 := w4_length z
  rw [wd_nat, wd_nat, wro_getD _ _ _ (by omega), wro_getD _ _ _ (by omega), wro_getD _ _ _ (by omega), wro_getD _ _ _ (by omega), if_neg (by omega), if_neg (by omega), if_neg (by omega), if_neg (by omega)]

/-- The first n of the colours l are written into B. -/
structure Wt (l : List Int) (O S p n : Nat) (B : List UInt8) : Prop where
  len : B.length = 1000
  at_ : ∀ k, k < n → ((wd B ((O + S * (k / p) + 4 * (k % p) : Nat) : Int) : Nat) : Int) = l.getD k 0
theorem Wt.next {l : List Int} {O S p j i z : Nat} {B : List UInt8} (h : Wt l O S p (j * p + i) B) (hi : i < p) (hS : 4 * p ≤ S) (hP : O + S * j + 4 * i + 4 ≤ 1000) (hz : l[j * p + i]? = some (z : Int)) (hb : z < 4294967296) : Wt l O S p (j * p + i + 1) (wro B (O + S * j + 4 * i) (w4 z)) := by
  have hl := h.len
  refine ⟨by rw [wro_length (by rw [w4_length]; omega), hl], fun k hk => ?_⟩
  by_cases e : k = j * p + i
  · subst e
    rw [place_div hi, place_mod hi, wd_same _ _ _ (by omega) hb, List.getD, hz]
    rfl
  · have hk2 : k < j * p + i := by omega
    rw [wd_other _ _ _ _ (by omega) ?_, h.at_ k hk2]
    have hp : 0 < p := by omega
    have hm := Nat.mod_lt k hp
    have hd := Nat.div_add_mod k p
    have hdl : k / p ≤ j := by
      have : k < (j + 1) * p := by rw [Nat.add_mul, Nat.one_mul]; omega
      have := (Nat.div_lt_iff_lt_mul hp).2 this
      omega
    rcases Nat.lt_or_ge (k / p) j with h1 | h1
    · have h2 : S * (k / p) + S ≤ S * j := by
        have := Nat.mul_le_mul_left S (show k / p + 1 ≤ j from h1)
        rwa [Nat.mul_add, Nat.mul_one] at this
      omega
    · have h2 : k / p = j := by omega
      rw [h2] at hd ⊢
      have h3 : p * j = j * p := Nat.mul_comm _ _
      omega

/-- ErrArg, ErrFormat, ErrStride, ErrFile. -/
structure E4q (w : World) (es : List Addr) : Prop where
  e3 : E3 w es
  fmt : w.cell? ⟨3, 0, none⟩ = some (erv es 7)
theorem E4q.below {w w' : World} {es : List Addr} (h : E4q w es) (hb : Below w.heap.size w w') : E4q w' es := ⟨h.e3.below hb, (kp_of_below hb []).cell h.fmt (by simp)⟩
def L4q : List (String × DataW Unit × Nat) := [("tableau/api.ErrArg", Rows.laid_tableau_api_ErrArg, 0), ("tableau/api.ErrFormat", Rows.laid_tableau_api_ErrFormat, 3), ("tableau/api.ErrStride", Rows.laid_tableau_api_ErrStride, 2), ("tableau/api.ErrFile", Rows.laid_tableau_api_ErrFile, 1)]
theorem laid4q : ∀ x ∈ L4q, Tryd.prog.globalNamed x.1 = some x.2.2 ∧ (Tryd.prog.globals[x.2.2]?).map (·.type) = some 36 ∧ ∃ t, x.2.1 = .iface "*errors.errorString" (.ptr (.agg [.lit (.string t)])) := by
  intro x hx
  simp only [L4q, List.mem_cons, List.not_mem_nil, or_false] at hx
  rcases hx with rfl | rfl | rfl | rfl
  all_goals exact ⟨by kernel_rfl, by kernel_rfl, _, rfl⟩
theorem errs4q {W : World} (h : laidMetH Tryd.prog (L4q.map fun x => (x.1, x.2.1)) W) : ∃ es, E4q W es := by
  rw [MakeChecks.laidMetH_plain _ _ _ (by kernel_rfl)] at h
  obtain ⟨es, hE⟩ := errs_of_laid L4q laid4q h
  have hlen := hE.len
  match es, hlen with
  | [a, b, c, d], _ => exact ⟨[a, a, a, a, a, a, b, c, d], ⟨(hE.each 0 _ _ rfl rfl).1, (hE.each 2 _ _ rfl rfl).1, (hE.each 3 _ _ rfl rfl).1⟩, (hE.each 1 _ _ rfl rfl).1⟩

/-- What is asked of the canvas behind. -/
theorem lod_ful (z : Int) : lod z 1 = ful z := by
  rw [lod, if_neg (by decide), if_pos rfl, ful_jn]
end Go.Proofs.YtpcepgecbdjdfaaDoor

/- The document's Room. -/
namespace Go.Proofs.YtpcepgecbdjdfaaDoor
open Go Go.RowKit

set_option maxRecDepth 100000 in
theorem big_any (size off h st : Int) (w : World) (hz : J64 size) (ho : 0 ≤ off) (h5 : off ≤ size) (hs : 1 ≤ st) :
    Calls Tryd.prog 31 #[.int .i64 size, .int .i64 off, .int .i64 h, .int .i64 st] w fun e w' => e = .returned (.int .i64 (if size < off + st * h then 8 else 0 : Nat)) ∧ w' = w := by
  have hd := tdiv_in (n := size - off) (h := st) (by omega) (by omega) (by omega)
  have hq := tdivh (n := size - off) (h := st) (st := h) (by omega) (by omega)
  have hn0 : ¬ st = 0 := by omega
  rw [Int.mul_comm h st] at hq
  by_cases h6 : size < off + st * h
  · have e8 : decide ((size - off).tdiv st < h) = true := decide_eq_true (hq.2 (by omega))
    rw [if_pos h6]
    clear hq h6
    go_enter Tryd.func31, Tryd.ntmps31
    go_wp2
    go_ret
    exact ⟨rfl, rfl⟩
  · have e8 : decide ((size - off).tdiv st < h) = false := decide_eq_false (fun q => h6 (by have := hq.1 q; omega))
    rw [if_neg h6]
    clear hq h6
    go_enter Tryd.func31, Tryd.ntmps31
    go_wp2
    go_ret
    exact ⟨rfl, rfl⟩

set_option maxRecDepth 100000 in
theorem rroom_any (size off wd h st fm : Int) (w : World) (hz : J64 size) (ho : J64 off) (_hw : J64 wd) (hh : J64 h) (hs : J64 st) :
    Calls Tryd.prog 8 #[.int .i64 size, .int .i64 off, .int .i64 wd, .int .i64 h, .int .i64 st, .int .i64 fm] w fun e w' => e = .returned (.int .i64 (rmE size off wd h st fm : Nat)) ∧ w' = w := by
  by_cases hf : fm ≠ 0 ∧ fm ≠ 1
  · have HR : Hid (rmE size off wd h st fm = 7) := by rw [Hid, rmE, if_pos hf]
    have e1 : (fm != 0) = true := by simpa using hf.1
    have e2 : (fm != 1) = true := by simpa using hf.2
    clear hf
    go_enter Tryd.func8, Tryd.ntmps8
    go_wp2
    go_ret
    rw [HR.out]
    exact ⟨rfl, rfl⟩
  · have HR : Hid (rmE size off wd h st fm = if wd < 1 ∨ h < 1 ∨ off < 0 ∨ st < 4 * wd ∨ size < off + st * h then 8 else 0) := by rw [Hid, rmE, if_neg hf]
    have h4 := tdiv4_in st hs
    have HF : Hid (¬ (fm ≠ 0 ∧ fm ≠ 1)) := hf
    generalize rmE size off wd h st fm = r at *
    clear hf
    have key : ∀ (_ : Unit), Hid (r = if wd < 1 ∨ h < 1 ∨ off < 0 ∨ st < 4 * wd ∨ size < off + st * h then 8 else 0) → (fm != 0) = true ∧ (fm != 1) = false ∨ (fm != 0) = false → Calls Tryd.prog 8 #[.int .i64 size, .int .i64 off, .int .i64 wd, .int .i64 h, .int .i64 st, .int .i64 fm] w fun e w' => e = .returned (.int .i64 (r : Nat)) ∧ w' = w := by
      intro _ HR hf
      by_cases h1 : wd < 1
      · have e3 : decide (wd < 1) = true := decide_eq_true h1
        rw [if_pos (.inl h1)] at HR
        rcases hf with ⟨e1, e2⟩ | e1 <;>
        · go_enter Tryd.func8, Tryd.ntmps8
          go_wp2
          go_ret
          rw [HR.out]
          exact ⟨rfl, rfl⟩
      · have e3 : decide (wd < 1) = false := decide_eq_false h1
        by_cases h2 : h < 1
        · have e4 : decide (h < 1) = true := decide_eq_true h2
          rw [if_pos (.inr (.inl h2))] at HR
          rcases hf with ⟨e1, e2⟩ | e1 <;>
          · go_enter Tryd.func8, Tryd.ntmps8
            go_wp2
            go_ret
            rw [HR.out]
            exact ⟨rfl, rfl⟩
        · have e4 : decide (h < 1) = false := decide_eq_false h2
          by_cases h3 : off < 0
          · have e5 : decide (off < 0) = true := decide_eq_true h3
            rw [if_pos (.inr (.inr (.inl h3)))] at HR
            rcases hf with ⟨e1, e2⟩ | e1 <;>
            · go_enter Tryd.func8, Tryd.ntmps8
              go_wp2
              go_ret
              rw [HR.out]
              exact ⟨rfl, rfl⟩
          · have e5 : decide (off < 0) = false := decide_eq_false h3
            by_cases h4 : st < 4 * wd
            · have e6 : decide (st.tdiv 4 < wd) = true := decide_eq_true ((tdiv4 st wd (by omega)).2 h4)
              rw [if_pos (.inr (.inr (.inr (.inl h4))))] at HR
              rcases hf with ⟨e1, e2⟩ | e1 <;>
              · go_enter Tryd.func8, Tryd.ntmps8
                go_wp2
                go_ret
                rw [HR.out]
                exact ⟨rfl, rfl⟩
            · have e6 : decide (st.tdiv 4 < wd) = false := decide_eq_false (fun q => h4 ((tdiv4 st wd (by omega)).1 q))
              have hp := mul_pos' (a := st) (b := h) (by omega) (by omega)
              have hp1 : st ≤ st * h := by have := Int.mul_le_mul_of_nonneg_left (a := 1) (b := h) (c := st) (by omega) (by omega); rwa [Int.mul_one] at this
              have hp2 : h ≤ st * h := by have := Int.mul_le_mul_of_nonneg_right (a := 1) (b := st) (c := h) (by omega) (by omega); rwa [Int.one_mul] at this
              by_cases h5 : size < off
              · have e7 : decide (size < off) = true := decide_eq_true h5
                rw [if_pos (.inr (.inr (.inr (.inr (by omega)))))] at HR
                clear hp hp1 hp2
                rcases hf with ⟨e1, e2⟩ | e1 <;>
                · go_enter Tryd.func8, Tryd.ntmps8
                  go_wp2
                  go_ret
                  rw [HR.out]
                  exact ⟨rfl, rfl⟩
              · have e7 : decide (size < off) = false := decide_eq_false h5
                by_cases h6 : size < st
                · have e8 : decide (size < st) = true := decide_eq_true h6
                  rw [if_pos (.inr (.inr (.inr (.inr (by omega)))))] at HR
                  clear hp hp1 hp2
                  rcases hf with ⟨e1, e2⟩ | e1 <;>
                  · go_enter Tryd.func8, Tryd.ntmps8
                    go_wp2
                    go_ret
                    rw [HR.out]
                    exact ⟨rfl, rfl⟩
                · have e8 : decide (size < st) = false := decide_eq_false h6
                  by_cases h7 : size < h
                  · have e9 : decide (size < h) = true := decide_eq_true h7
                    rw [if_pos (.inr (.inr (.inr (.inr (by omega)))))] at HR
                    clear hp hp1 hp2
                    rcases hf with ⟨e1, e2⟩ | e1 <;>
                    · go_enter Tryd.func8, Tryd.ntmps8
                      go_wp2
                      go_ret
                      rw [HR.out]
                      exact ⟨rfl, rfl⟩
                  · have e9 : decide (size < h) = false := decide_eq_false h7
                    have ea : decide (size < 0) = false := decide_eq_false (by omega)
                    have HR : Hid (r = if size < off + st * h then 8 else 0) := by
                      rw [Hid, HR.out]
                      by_cases hx : size < off + st * h
                      · rw [if_pos hx, if_pos (.inr (.inr (.inr (.inr hx))))]
                      · rw [if_neg hx, if_neg (by omega)]
                    by_cases h8 : 65536 < size
                    · have eb : decide (65536 < size) = true := decide_eq_true h8
                      have HB := hid (big_any size off h st w hz (by omega) (by omega) (by omega))
                      rw [← HR.out] at HB
                      clear hp hp1 hp2 HR
                      rcases hf with ⟨e1, e2⟩ | e1 <;>
                      · go_enter Tryd.func8, Tryd.ntmps8
                        go_wp2_with fail
                        refine HB.out.mono ?_
                        rintro e w1 ⟨rfl, rfl⟩
                        go_wp2
                        go_ret
                        exact ⟨rfl, rfl⟩
                    · have eb : decide (65536 < size) = false := decide_eq_false h8
                      have hm : st * h ≤ 65536 * 65536 := Int.mul_le_mul (by omega) (by omega) (by omega) (by omega)
                      by_cases h9 : size < off + st * h
                      · have ec : decide (size < off + st * h) = true := decide_eq_true h9
                        rw [if_pos h9] at HR
                        rcases hf with ⟨e1, e2⟩ | e1 <;>
                        · go_enter Tryd.func8, Tryd.ntmps8
                          go_wp2
                          go_ret
                          rw [HR.out]
                          exact ⟨rfl, rfl⟩
                      · have ec : decide (size < off + st * h) = false := decide_eq_false h9
                        rw [if_neg h9] at HR
                        rcases hf with ⟨e1, e2⟩ | e1 <;>
                        · go_enter Tryd.func8, Tryd.ntmps8
                          go_wp2
                          go_ret
                          rw [HR.out]
                          exact ⟨rfl, rfl⟩
    refine key () HR ?_
    have := HF.out
    by_cases h0 : fm = 0
    · exact .inr (by simp [h0])
    · have h1 : fm = 1 := by omega
      exact .inl ⟨by simp [h1], by simp [h1]⟩
end Go.Proofs.YtpcepgecbdjdfaaDoor

/- Bytes in new memory; rows that are written beside memories. -/
namespace Go.Proofs.YtpcepgecbdjdfaaDoor
open Go Go.RowKit


/-- A row of bytes that may be written. -/
def Wr (x : World) (a : Option Addr) (n : Nat) : Prop := 0 < n → ∃ g C, a = some ⟨g, 0, none⟩ ∧ x.heap[g]? = some (.cells C 5 (0, 0)) ∧ ∀ j, j < n → ∃ z : Int, C[j]? = some (.int .u8 z)

theorem wr_of_owns {x : World} {base n c : Nat} {a : Option Addr} {l : List UInt8} (h : x.ownsRow base 5 1 (.slice a n c) n (bc l)) : Wr x a n := fun hn => by
  rcases h.2 with ⟨_, h0⟩ | ⟨g, cap, cur, hv, _, hg, hnc, _, hs, ht⟩
  · omega
  · cases hv
    refine ⟨g, cur, rfl, hg, fun j hj => ?_⟩
    have hl : (bc l).length = n := by have := h.1; omega
    have e : cur[j]? = (bc l)[j]? := by
      rw [← ht, Nat.mul_one, List.getElem?_take_of_lt hj, Array.getElem?_toList]
    rw [e, bc, List.getElem?_map]
    rw [bc_length] at hl
    rw [List.getElem?_eq_getElem (by omega)]
    exact ⟨_, rfl⟩
theorem wr_of_block {x : World} {g : Nat} {l : List UInt8} (h : x.heap[g]? = some (.cells (bc l).toArray 5 (0, 0))) : Wr x (some ⟨g, 0, none⟩) l.length := fun _ =>
  ⟨g, _, rfl, h, fun j hj => ⟨(l[j].toNat : Int), by simp [bc, List.getElem?_eq_getElem hj]⟩⟩

theorem Wr.set {x : World} {g j n : Nat} (h : Wr x (some ⟨g, 0, none⟩) n) (z : Int) (hj : j < n) : Wr (x.setCell ⟨g, j, none⟩ (.int .u8 z)) (some ⟨g, 0, none⟩) n := fun hn => by
  obtain ⟨g', C, e, hg, hC⟩ := h hn
  cases e
  refine ⟨g, _, rfl, heap_setCell_same _ _ _ _ _ _ hg, fun i hi => ?_⟩
  by_cases hij : i = j
  · subst hij
    obtain ⟨z0, hz⟩ := hC i hj
    have := (Array.getElem?_eq_some_iff.1 hz).1
    exact ⟨z, by simp [this]⟩
  · obtain ⟨z0, hz⟩ := hC i hi
    refine ⟨z0, ?_⟩
    rw [← hz]
    simp [Ne.symm hij]
theorem Wr.at_ {x : World} {g j n : Nat} (h : Wr x (some ⟨g, 0, none⟩) n) (hj : j < n) : ∃ z : Int, x.cell? ⟨g, j, none⟩ = some (.int .u8 z) ∧ ∀ i, x.frozen? ⟨g, i, none⟩ = false := by
  obtain ⟨g', C, e, hg, hC⟩ := h (by omega)
  cases e
  obtain ⟨z, hz⟩ := hC j hj
  exact ⟨z, by rw [Lib.cell_of_heap hg]; exact hz, Lib.frozen_of_heap hg⟩

/-- Apart from all that the memories have. -/
def Far (p b : Nat) (s : Int → Mo) (g : Nat) : Prop := g ≠ p ∧ g ≠ b ∧ ∀ k q, s k = some q → q.1 ≠ g

theorem Ms.set1 {w x : World} {p b : Nat} {s : Int → Mo} (h : Ms w x p b s) {g : Nat} (hg : w.heap.size ≤ g) (hf : Far p b s g) (j : Nat) (v : Value) : Ms w (x.setCell ⟨g, j, none⟩ v) p b s := by
  have hk : Kp [g] x (x.setCell ⟨g, j, none⟩ v) := (Kp.refl [g] x).set ⟨g, j, none⟩ (by simp) v
  exact h.kp (h.mm.kept hk (by simpa using Ne.symm hf.1) (by simpa using Ne.symm hf.2.1) (fun k q e => by simpa using hf.2.2 k q e)) hk (fun i hi => by simp only [List.mem_cons, List.not_mem_nil, or_false] at hi; omega)
end Go.Proofs.YtpcepgecbdjdfaaDoor

/- The document's memories: in, Size, Set. -/
namespace Go.Proofs.YtpcepgecbdjdfaaDoor
open Go Go.RowKit

/-- A memory of the document's: its slice, its bytes. -/
abbrev Do := Option (Value × List UInt8)

def dsl : Do → Value
  | none => .slice none 0 0
  | some x => x.1
def dupd (d : Int → Do) (k : Int) (x : Do) : Int → Do := fun i => if i = k then x else d i
theorem dupd_same (d : Int → Do) (k : Int) (x : Do) : dupd d k x k = x := by simp [dupd]
theorem dupd_other (d : Int → Do) {k i : Int} (h : i ≠ k) (x : Do) : dupd d k x i = d i := by simp [dupd, h]

/-- The document's cells: 256 slices, 256 truths. -/
def dmc (d : Int → Do) : Array Value := Array.ofFn (n := 512) fun j => if j.val < 256 then dsl (d (j.val : Nat)) else .bool (d ((j.val - 256 : Nat) : Int)).isSome

theorem dmc_size (d : Int → Do) : (dmc d).size = 512 := by simp [dmc]
theorem dmc_lo (d : Int → Do) (i : Nat) (h : i < 256) : (dmc d)[i]? = some (dsl (d i)) := by
  rw [dmc, Array.getElem?_ofFn, dif_pos (by omega)]
  simp only [if_pos h]
theorem dmc_hi (d : Int → Do) (i : Nat) (h : i < 256) : (dmc d)[256 + i]? = some (.bool (d i).isSome) := by
  rw [dmc, Array.getElem?_ofFn, dif_pos (by omega)]
  simp only [if_neg (show ¬ 256 + i < 256 by omega), show 256 + i - 256 = i by omega]
theorem dmc_set (d : Int → Do) (i : Nat) (h : i < 256) (x : Value × List UInt8) : ((dmc d).setIfInBounds i x.1).setIfInBounds (256 + i) (.bool true) = dmc (dupd d i (some x)) := by
  apply Array.ext_getElem?
  intro j
  rcases Nat.lt_or_ge j 512 with hj | hj
  · rw [Array.getElem?_setIfInBounds, Array.getElem?_setIfInBounds]
    simp only [Array.size_setIfInBounds, dmc_size]
    by_cases h1 : 256 + i = j
    · subst h1
      rw [if_pos rfl, if_pos hj, dmc_hi _ i h, dupd_same]
      rfl
    · rw [if_neg h1]
      by_cases h2 : i = j
      · subst h2
        rw [if_pos rfl, if_pos hj, dmc_lo _ i h, dupd_same]
        rfl
      · rw [if_neg h2, dmc, dmc, Array.getElem?_ofFn, Array.getElem?_ofFn, dif_pos hj, dif_pos hj]
        simp only
        by_cases h3 : j < 256
        · rw [if_pos h3, if_pos h3, dupd_other d (by omega)]
        · rw [if_neg h3, if_neg h3, dupd_other d (by omega)]
  · rw [Array.getElem?_eq_none (by simp [dmc_size]; omega), Array.getElem?_eq_none (by rw [dmc_size]; omega)]
theorem dmc_put (d : Int → Do) (i : Nat) (h : i < 256) (hs : (d i).isSome = true) (x : Value × List UInt8) : (dmc d).setIfInBounds i x.1 = dmc (dupd d i (some x)) := by
  rw [← dmc_set d i h x]
  apply Array.ext_getElem?
  intro j
  by_cases h1 : 256 + i = j
  · subst h1
    rw [Array.getElem?_setIfInBounds_self_of_lt (by simp [dmc_size]; omega), Array.getElem?_setIfInBounds_ne (by omega), dmc_hi d i h, hs]
  · rw [Array.getElem?_setIfInBounds_ne (xs := (dmc d).setIfInBounds i x.1) h1]

/-- The document's memories at q are d. -/
structure Dm (base : Nat) (w : World) (q : Nat) (d : Int → Do) : Prop where
  lo : base ≤ q
  var : w.heap[q]? = some (.cells (dmc d) 34 (0, 0))
  dom : ∀ k, (d k).isSome = true → 1 ≤ k ∧ k ≤ 255
  row : ∀ k x, d k = some x → w.ownsRow base 5 1 x.1 x.2.length (bc x.2) ∧ (∀ j, x.1.ownBlock = some j → j ≠ q) ∧ x.2.length ≤ 65536

theorem Dm.kept {base : Nat} {w w' : World} {q : Nat} {d : Int → Do} {X : List Nat} (h : Dm base w q d) (hk : Kp X w w') (hq : q ∉ X) (hr : ∀ k x j, d k = some x → x.1.ownBlock = some j → j ∉ X) : Dm base w' q d :=
  ⟨h.lo, hk.var h.var hq, h.dom, fun k x e => by
    obtain ⟨r1, r2, r3⟩ := h.row k x e
    exact ⟨hk.row r1 (fun j hj => hr k x j e hj), r2, r3⟩⟩
theorem Dm.on {base : Nat} {w w' : World} {q : Nat} {d : Int → Do} (h : Dm base w q d) (hb : Below w.heap.size w w') : Dm base w' q d := h.kept (kp_of_below hb []) (by simp) (fun _ _ _ _ _ => by simp)
theorem Dm.lt {base : Nat} {w : World} {q : Nat} {d : Int → Do} (h : Dm base w q d) : q < w.heap.size := (Array.getElem?_eq_some_iff.1 h.var).1
theorem Dm.cl {base : Nat} {w : World} {q : Nat} {d : Int → Do} (h : Dm base w q d) (i : Nat) (hi : i < 256) : w.cell? ⟨q, i, none⟩ = some (dsl (d i)) := by rw [Lib.cell_of_heap h.var]; exact dmc_lo d i hi
theorem Dm.ch {base : Nat} {w : World} {q : Nat} {d : Int → Do} (h : Dm base w q d) (i : Nat) (hi : i < 256) : w.cell? ⟨q, 256 + i, none⟩ = some (.bool (d i).isSome) := by rw [Lib.cell_of_heap h.var]; exact dmc_hi d i hi

/-- The same bytes in both. -/
def Ag (s : Int → Mo) (d : Int → Do) : Prop := ∀ k, (s k).map (·.2) = (d k).map (·.2)

theorem Ag.isSome {s : Int → Mo} {d : Int → Do} (h : Ag s d) (k : Int) : (d k).isSome = (s k).isSome := by
  have := h k
  cases h1 : s k <;> cases h2 : d k <;> simp [h1, h2] at this ⊢
theorem Ag.rd {base : Nat} {w : World} {q : Nat} {s : Int → Mo} {d : Int → Do} (h : Ag s d) (hD : Dm base w q d) (k : Int) : ∃ ao m c, dsl (d k) = .slice ao m c ∧ Rd w ao m c (by_ (s k)) ∧ m ≤ 65536 := by
  have h1 := h k
  cases e : d k with
  | none =>
    rw [e] at h1
    cases e2 : s k with
    | none => exact ⟨none, 0, 0, rfl, Rd.nil w, by omega⟩
    | some r => rw [e2] at h1; simp at h1
  | some x =>
    rw [e] at h1
    cases e2 : s k with
    | none => rw [e2] at h1; simp at h1
    | some r =>
      rw [e2] at h1
      have hx : r.2 = x.2 := by simpa using h1
      obtain ⟨r1, r2, r3⟩ := hD.row k x e
      obtain ⟨a, c, hv, hr, _⟩ := rd_of_owns r1
      exact ⟨a, x.2.length, c, hv, by rw [show by_ (some r) = r.2 from rfl, hx]; exact hr, r3⟩
theorem Ag.upd {s : Int → Mo} {d : Int → Do} (h : Ag s d) (k : Int) (g : Nat) (v : Value) (l : List UInt8) : Ag (mupd s k (some (g, l))) (dupd d k (some (v, l))) := fun i => by
  by_cases e : i = k
  · rw [e, mupd_same, dupd_same]; rfl
  · rw [mupd_other s e, dupd_other d e]; exact h i

/-- Only new blocks beside the old ones. -/
def Fr (w : World) (d d' : Int → Do) : Prop := ∀ k x j, d' k = some x → x.1.ownBlock = some j → d k = some x ∨ w.heap.size ≤ j

theorem dmc_zero : dmc (fun _ => none) = Array.replicate 256 (.slice none 0 0) ++ Array.replicate 256 (.bool false) := by
  apply Array.ext
  · simp [dmc]
  · intro i h1 h2
    simp only [dmc, Array.getElem_ofFn, Array.getElem_append, Array.size_replicate, Array.getElem_replicate]
    split <;> rfl

theorem zM (w : World) : (zeroValue 34).run Tryd.prog w = .ok (.agg (dmc fun _ => none)) w := by
  rw [dmc_zero]
  kernel_rfl

variable {base : Nat} {w : World} {q : Nat} {s : Int → Mo} {d : Int → Do}

set_option maxRecDepth 100000 in
theorem rin_any (hD : Dm base w q d) (hag : Ag s d) (k : Int) :
    Calls Tryd.prog 33 #[.pointer (some ⟨q, 0, none⟩), .int .i64 k] w fun e w' => e = .returned (.bool (s k).isSome) ∧ w' = w := by
  rw [← hag.isSome k]
  have no : (¬ (1 ≤ k ∧ k ≤ 255)) → (d k).isSome = false := fun h => by
    cases e : (d k).isSome with
    | false => rfl
    | true => exact absurd (hD.dom k e) h
  have hlt := hD.lt
  by_cases h1 : 1 ≤ k
  · have e1 : decide (1 ≤ k) = true := decide_eq_true h1
    by_cases h2 : k ≤ 255
    · have e2 : decide (k ≤ 255) = true := decide_eq_true h2
      obtain ⟨i, rfl⟩ : ∃ i : Nat, k = i := ⟨k.toNat, by omega⟩
      have c0 := hD.ch i (by omega)
      generalize (d (i : Int)).isSome = t at *
      clear hD hag
      go_enter Tryd.func33, Tryd.ntmps33
      go_wp2
      go_ret
      exact ⟨rfl, rfl⟩
    · have e2 : decide (k ≤ 255) = false := decide_eq_false h2
      rw [no (by omega)]
      clear hD hag no
      go_enter Tryd.func33, Tryd.ntmps33
      go_wp2
      go_ret
      exact ⟨rfl, rfl⟩
  · have e1 : decide (1 ≤ k) = false := decide_eq_false h1
    rw [no (by omega)]
    clear hD hag no
    go_enter Tryd.func33, Tryd.ntmps33
    go_wp2
    go_ret
    exact ⟨rfl, rfl⟩

end Go.Proofs.YtpcepgecbdjdfaaDoor

/- The document's memories: Set, Write. -/
namespace Go.Proofs.YtpcepgecbdjdfaaDoor
open Go Go.RowKit

theorem bc_take (l : List UInt8) (k : Nat) : (bc l).take k = bc (l.take k) := by rw [bc, bc, List.map_take]
theorem bc_drop (l : List UInt8) (k : Nat) : (bc l).drop k = bc (l.drop k) := by rw [bc, bc, List.map_drop]

/-- 'copy' into a row of the call's own. -/
theorem copy_own (u : World) (base g n c : Nat) (l : List UInt8) (hO : u.ownsRow base 5 1 (.slice (some ⟨g, 0, none⟩) n c) n (bc l)) (o dl dc : Nat) (hl : o + dl ≤ n) (a : Option Addr) (m c' : Nat) (b : List UInt8) (hr : Rd u a m c' b) :
    ∃ U k, (∀ ty : TypeId, (Builtin.copy_ #[24, 24] ty #[.slice (some ⟨g, o, none⟩) dl dc, .slice a m c']).run Tryd.prog u = .ok (goInt k) U) ∧ U.ownsRow base 5 1 (.slice (some ⟨g, 0, none⟩) n c) n (bc (wro l o (b.take dl))) ∧ Kp [g] u U := by
  have hlen := hr.len
  have hll : l.length = n := by have := hO.1; rw [bc_length] at this; omega
  cases a with
  | none =>
    have h0 := hr.hnil rfl
    have h1 := hr.le
    obtain rfl : m = 0 := by omega
    subst h0
    obtain rfl : b = [] := List.eq_nil_of_length_eq_zero hlen
    refine ⟨u, 0, fun ty => run_copy_nil (P := Tryd.prog) u _ _ _ 5 _ _ _ Tryd.underlying24 (by rw [sizeU8]; rfl), ?_, Kp.refl _ _⟩
    rw [List.take_nil, wro_nil]
    exact hO
  | some x =>
    rcases hO.2 with ⟨hv, _⟩ | ⟨g', cap, cur, hv, hb, hg, hnc, hcm, hs, ht⟩
    · cases hv
    cases hv
    have hcs : (bc (b.take dl)).length = Nat.min m dl := by rw [bc_length, List.length_take, hlen]; exact Nat.min_comm _ _
    have hmd : Nat.min m dl ≤ dl := Nat.min_le_right m dl
    have hrun : ∀ ty, (Builtin.copy_ #[24, 24] ty #[.slice (some ⟨g, o, none⟩) dl dc, .slice (some x) m c']).run Tryd.prog u = _ := fun ty => run_copy_row (P := Tryd.prog) u 24 24 ty 5 g o dl dc x m c' cur 5 (bc (b.take dl)) Tryd.underlying24 sizeU8 hg hcs (fun j v hj => hr.cells x rfl j v (by
      have hj' : j < (bc (b.take dl)).length := by
        rcases Nat.lt_or_ge j (bc (b.take dl)).length with h' | h'
        · exact h'
        · rw [List.getElem?_eq_none h'] at hj; cases hj
      rw [bc_length, List.length_take] at hj'
      rw [bc, List.getElem?_map, List.getElem?_take_of_lt (by omega)] at hj
      rw [bc, List.getElem?_map]
      exact hj)) (by rw [hs, hcs, Nat.mul_one]; exact Nat.le_trans (Nat.add_le_add_left hmd o) (by omega)) (bc_one _)
    refine ⟨_, _, hrun, ?_, kp_setRow _ _ _⟩
    have hcl : cur.toList.length = c := by rw [Array.length_toList, hs, Nat.mul_one]
    refine ⟨?_, .inr ⟨g, c, _, rfl, hb, setRow_heap u g cur _ 5 _ hg, hnc, hcm, ?_, ?_⟩⟩
    · rw [bc_length, wro_length (by rw [List.length_take]; omega), hll, Nat.mul_one]
    · simp only [List.size_toArray, List.length_append, List.length_take, List.length_drop, hcl]
      rw [hcs]
      have : o + Nat.min m dl ≤ c := by omega
      omega
    · have ht' : cur.toList.take n = bc l := by rw [← ht, Nat.mul_one]
      have e1 : cur.toList.take o = (bc l).take o := by rw [← ht', List.take_take, Nat.min_eq_left (by omega)]
      have e2 : (cur.toList.drop (o + (bc (b.take dl)).length)).take (n - (o + (bc (b.take dl)).length)) = (bc l).drop (o + (bc (b.take dl)).length) := by
        rw [← ht', List.drop_take]
      have hcs' : (bc (b.take dl)).length ≤ dl := by rw [hcs]; exact hmd
      have e3 : ((cur.toList.take o ++ bc (b.take dl) ++ cur.toList.drop (o + (bc (b.take dl)).length)).toArray).toList.take (n * 1) = (cur.toList.take o ++ bc (b.take dl)) ++ (cur.toList.drop (o + (bc (b.take dl)).length)).take (n - (o + (bc (b.take dl)).length)) := by
        show (cur.toList.take o ++ bc (b.take dl) ++ cur.toList.drop (o + (bc (b.take dl)).length)).take (n * 1) = _
        rw [Nat.mul_one, List.take_append, List.take_of_length_le (by rw [List.length_append, List.length_take]; omega), List.length_append, List.length_take, hcl, Nat.min_eq_left (by omega)]
      rw [e3, e2, e1, wro, bc_append, bc_append, bc_length, bc_take, bc_drop]

variable {base : Nat} {w : World} {q : Nat} {s : Int → Mo} {d : Int → Do}

/-- What the document's Set and Write answer: numbers, and new memories. -/
def Dnew (base : Nat) (w : World) (q : Nat) (d : Int → Do) (w' : World) (d' : Int → Do) : Prop := Dm base w' q d' ∧ Kp [q] w w' ∧ Fr w d d'

theorem dnew_same {w' : World} (hD : Dm base w q d) (hb : Below w.heap.size w w') : Dnew base w q d w' d := ⟨hD.on hb, kp_of_below hb _, fun _ _ _ h _ => .inl h⟩

theorem Dm.put {U : World} (hD : Dm base w q d) (i : Nat) (hi : 1 ≤ i ∧ i ≤ 255) (v : Value) (L : List UInt8) (hL : L.length ≤ 65536) (hO : U.ownsRow base 5 1 v L.length (bc L)) (hU : Below w.heap.size w U) (hv : ∀ j, v.ownBlock = some j → w.heap.size ≤ j) (U' : World) (hk : Kp [q] U U') (hvar : U'.heap[q]? = some (.cells (dmc (dupd d i (some (v, L)))) 34 (0, 0))) : Dnew base w q d U' (dupd d i (some (v, L))) := by
  have hq := hD.lt
  refine ⟨⟨hD.lo, hvar, fun k e => ?_, fun k x e => ?_⟩, (kp_of_below hU [q]).trans hk (fun _ h _ => h), fun k x j e hj => ?_⟩
  · by_cases hk : k = i
    · omega
    · rw [dupd_other d hk] at e; exact hD.dom k e
  · by_cases hki : k = i
    · rw [hki, dupd_same] at e
      cases e
      exact ⟨hk.row hO (fun j hj hm => by have := hv j hj; simp only [List.mem_cons, List.not_mem_nil, or_false] at hm; omega), fun j hj => by have := hv j hj; omega, hL⟩
    · rw [dupd_other d hki] at e
      obtain ⟨r1, r2, r3⟩ := hD.row k x e
      exact ⟨hk.row (ownsRow_below r1 hU) (fun j hj => by simpa using r2 j hj), r2, r3⟩
  · by_cases hki : k = i
    · rw [hki, dupd_same] at e
      cases e
      exact .inr (hv j hj)
    · rw [dupd_other d hki] at e
      exact .inl e

set_option maxRecDepth 100000 in
theorem rset_arg (hD : Dm base w q d) (k n : Int) (hk : k < 1 ∨ 255 < k ∨ n < 0 ∨ 65536 < n) :
    Calls Tryd.prog 13 #[.pointer (some ⟨q, 0, none⟩), .int .i64 k, .int .i64 n] w fun e w' => e = .returned (.int .i64 1) ∧ Dnew base w q d w' d := by
  have HT := hid (dnew_same hD (Below.refl _ _))
  clear hD
  by_cases h1 : k < 1
  · have e1 : decide (k < 1) = true := decide_eq_true h1
    go_enter Tryd.func13, Tryd.ntmps13
    go_wp2
    go_ret
    exact ⟨rfl, HT.out⟩
  · have e1 : decide (k < 1) = false := decide_eq_false h1
    by_cases h2 : 255 < k
    · have e2 : decide (255 < k) = true := decide_eq_true h2
      go_enter Tryd.func13, Tryd.ntmps13
      go_wp2
      go_ret
      exact ⟨rfl, HT.out⟩
    · have e2 : decide (255 < k) = false := decide_eq_false h2
      by_cases h3 : n < 0
      · have e3 : decide (n < 0) = true := decide_eq_true h3
        go_enter Tryd.func13, Tryd.ntmps13
        go_wp2
        go_ret
        exact ⟨rfl, HT.out⟩
      · have e3 : decide (n < 0) = false := decide_eq_false h3
        have e4 : decide (65536 < n) = true := decide_eq_true (by omega)
        go_enter Tryd.func13, Tryd.ntmps13
        go_wp2
        go_ret
        exact ⟨rfl, HT.out⟩

theorem owns_block {u : World} {g : Nat} {l : List UInt8} (h : u.heap[g]? = some (.cells (bc l).toArray 5 (0, 0))) (hb : base ≤ g) (hl : l.length ≤ 65536) : u.ownsRow base 5 1 (.slice (some ⟨g, 0, none⟩) l.length l.length) l.length (bc l) :=
  ⟨by rw [bc_length, Nat.mul_one], .inr ⟨g, l.length, _, rfl, hb, h, Nat.le_refl _, by simp only [maxLen]; omega, by rw [List.size_toArray, bc_length, Nat.mul_one], by show (bc l).take (l.length * 1) = _; rw [Nat.mul_one, ← bc_length]; exact List.take_length⟩⟩

set_option maxRecDepth 100000 in
set_option maxHeartbeats 1000000 in
theorem rset_ok (hD : Dm base w q d) (hag : Ag s d) (hbase : base ≤ w.heap.size) (i n : Nat) (hk : 1 ≤ i ∧ i ≤ 255) (hn : n ≤ 65536) :
    Calls Tryd.prog 13 #[.pointer (some ⟨q, 0, none⟩), .int .i64 i, .int .i64 n] w fun e w' => e = .returned (.int .i64 0) ∧ ∃ v, Dnew base w q d w' (dupd d i (some (v, rsz (by_ (s i)) n))) := by
  obtain ⟨w1, hmk, hb1, hg1⟩ := make_any w n (by omega)
  have hD1 := hD.on hb1
  obtain ⟨ao, m, c, hv, hrd, hm⟩ := hag.rd hD1 i
  obtain ⟨U, mm, hcp, hU, hkU, _⟩ := copy_row w1 w.heap.size 0 n n (List.replicate n 0) hg1 ao m c _ hrd (by simp)
  have hbU : Below w.heap.size w U := hb1.trans (hkU.below hb1.size (fun k hk => by simp only [List.mem_cons, List.not_mem_nil, or_false] at hk; omega))
  have eU : wro (List.replicate n 0) 0 ((by_ (s i)).take n) = rsz (by_ (s i)) n := by
    rw [wro, rsz, List.take_zero, List.nil_append, Nat.zero_add, List.length_take, List.drop_replicate]
    congr 2
    omega
  rw [eU] at hU
  have hlt := hD.lt
  have hDU := hD.on hbU
  have c0 := hD1.cl i (by omega)
  rw [hv] at c0
  have cU := hDU.cl i (by omega)
  rw [hv] at cU
  have cH := hDU.ch i (by omega)
  have fU : ∀ j, U.frozen? ⟨q, j, none⟩ = false := Lib.frozen_of_heap hDU.var
  have hUl : q < U.heap.size := hDU.lt
  have HF : Hid (∃ v, Dnew base w q d ((U.setCell ⟨q, i, none⟩ (.slice (some ⟨w.heap.size, 0, none⟩) n n)).setCell ⟨q, 256 + i, none⟩ (.bool true)) (dupd d i (some (v, rsz (by_ (s i)) n)))) := by
    have hO := owns_block hU hbase (by rw [rsz_length]; omega)
    refine ⟨.slice (some ⟨w.heap.size, 0, none⟩) n n, hD.put i hk _ _ (by rw [rsz_length]; omega) (by rw [rsz_length] at hO ⊢; exact hO) hbU (fun j hj => by simp only [Value.ownBlock, Option.some.injEq] at hj; omega) _ (((Kp.refl [q] U).set ⟨q, i, none⟩ (by simp) _).set ⟨q, 256 + i, none⟩ (by simp) _) ?_⟩
    rw [heap_setCell_same _ _ _ _ _ _ (heap_setCell_same _ _ _ _ _ _ hDU.var), ← dmc_set d i (by omega) (_, _)]
  have e1 : decide ((i : Int) < 1) = false := decide_eq_false (by omega)
  have e2 : decide (255 < (i : Int)) = false := decide_eq_false (by omega)
  have e3 : decide ((n : Int) < 0) = false := decide_eq_false (by omega)
  have e4 : decide (65536 < (n : Int)) = false := decide_eq_false (by omega)
  clear hD hD1 hDU hv hrd hU hkU hbU hg1 hb1 eU hm hag
  go_enter Tryd.func13, Tryd.ntmps13
  go_wp2
  go_ret
  exact ⟨rfl, HF.out⟩
end Go.Proofs.YtpcepgecbdjdfaaDoor

/- The document's memories: Write, Read. -/
namespace Go.Proofs.YtpcepgecbdjdfaaDoor
open Go Go.RowKit

theorem rset_any {base : Nat} {w : World} {q : Nat} {s : Int → Mo} {d : Int → Do} (hD : Dm base w q d) (hag : Ag s d) (hbase : base ≤ w.heap.size) (k n : Int) :
    Calls Tryd.prog 13 #[.pointer (some ⟨q, 0, none⟩), .int .i64 k, .int .i64 n] w fun e w' => e = .returned (.int .i64 (setE k n : Nat)) ∧ ∃ d', Dnew base w q d w' d' ∧ ∀ g, Ag (if setE k n = 0 then mupd s k (some (g, rsz (by_ (s k)) n.toNat)) else s) d' := by
  by_cases hk : k < 1 ∨ 255 < k ∨ n < 0 ∨ 65536 < n
  · have e1 : setE k n = 1 := by rw [setE, if_pos hk]
    rw [e1]
    refine (rset_arg hD k n hk).mono ?_
    rintro e w' ⟨rfl, h⟩
    exact ⟨rfl, d, h, fun _ => by rw [if_neg (by decide)]; exact hag⟩
  · have e1 : setE k n = 0 := by rw [setE, if_neg hk]
    rw [e1]
    obtain ⟨i, rfl⟩ : ∃ i : Nat, k = i := ⟨k.toNat, by omega⟩
    obtain ⟨m, rfl⟩ : ∃ m : Nat, n = m := ⟨n.toNat, by omega⟩
    refine (rset_ok hD hag hbase i m (by omega) (by omega)).mono ?_
    rintro e w' ⟨rfl, v, h⟩
    exact ⟨rfl, _, h, fun g => by rw [if_pos rfl, Int.toNat_natCast]; exact hag.upd _ _ _ _⟩

theorem rd_dropm {w : World} {a : Option Addr} {n c : Nat} {l : List UInt8} (h : Rd w a n c l) (k : Nat) (hk : k ≤ n) : Rd w (Option.map (fun x => x.add k) a) (n - k) (c - k) (l.drop k) :=
  ⟨by rw [List.length_drop, h.len], by have := h.le; omega, by have := h.max; omega, (fun hn => by
    have h0 : a = none := by simpa using hn
    have := h.hnil h0
    omega), fun x hx j u hu => by
    obtain ⟨y, hy, rfl⟩ := Option.map_eq_some_iff.1 hx
    rw [Go.Deep.add_add]
    refine h.cells y hy (k + j) u ?_
    rw [bc, List.getElem?_map, List.getElem?_drop] at hu
    rw [bc, List.getElem?_map]
    exact hu⟩
theorem rd_zero (w : World) (a : Option Addr) : Rd w a 0 0 [] :=
  ⟨rfl, Nat.le_refl _, Nat.zero_le _, fun _ => rfl, fun x _ j u hu => by simp [bc] at hu⟩
theorem rd_take {w : World} {a : Option Addr} {n c : Nat} {l : List UInt8} (h : Rd w a n c l) (k : Nat) (hk : k ≤ n) : Rd w a k c (l.take k) :=
  ⟨by rw [List.length_take, h.len]; omega, by have := h.le; omega, h.max, h.hnil, fun x hx j u hu => by
    refine h.cells x hx j u ?_
    have hj : j < (l.take k).length := by
      rcases Nat.lt_or_ge j (l.take k).length with h' | h'
      · exact h'
      · rw [List.getElem?_eq_none (by rw [bc_length]; exact h')] at hu; cases hu
    rw [List.length_take] at hj
    rw [bc, List.getElem?_map, List.getElem?_take_of_lt (by omega)] at hu
    rw [bc, List.getElem?_map]
    exact hu⟩

variable {base : Nat} {w : World} {q : Nat} {s : Int → Mo} {d : Int → Do}

/-- 'x[at:]' filled by copy, of a row of one's own (or nil). -/
theorem copy_tail (u : World) (base n : Nat) (a1 : Option Addr) (c1 : Nat) (l : List UInt8) (hO : u.ownsRow base 5 1 (.slice a1 n c1) n (bc l)) (j : Nat) (a : Option Addr) (m c : Nat) (b : List UInt8) (hr : Rd u a m c b) (hj : j + m ≤ n) :
    ∃ U k, (∀ ty : TypeId, (Builtin.copy_ #[24, 24] ty #[.slice (Option.map (fun x => x.add j) a1) (n - j) (c1 - j), .slice a m c]).run Tryd.prog u = .ok (goInt k) U) ∧
      (c1 = j → ∀ ty : TypeId, (Builtin.copy_ #[24, 24] ty #[.slice a1 (n - j) 0, .slice a m c]).run Tryd.prog u = .ok (goInt k) U) ∧
      U.ownsRow base 5 1 (.slice a1 n c1) n (bc (wro l j b)) ∧ ∀ B, B ≤ u.heap.size → B ≤ base → Below B u U := by
  have hlen := hr.len
  rcases hO.2 with ⟨hv, h0⟩ | ⟨g, cap, cur, hv, hb, hg, hnc, hcm, hs, ht⟩
  · cases hv
    obtain rfl : m = 0 := by omega
    obtain rfl : b = [] := List.eq_nil_of_length_eq_zero hlen
    refine ⟨u, 0, fun ty => run_copy_none (P := Tryd.prog) u _ _ ty 5 _ _ _ _ _ _ Tryd.underlying24 sizeU8 (Nat.zero_min _), fun _ ty => run_copy_none (P := Tryd.prog) u _ _ ty 5 _ _ _ _ _ _ Tryd.underlying24 sizeU8 (Nat.zero_min _), by rw [wro_nil]; exact hO, fun B _ _ => Below.refl _ _⟩
  · cases hv
    obtain ⟨U, k, h1, h2, h3⟩ := copy_own u base g n c1 l hO j (n - j) (c1 - j) (by omega) a m c b hr
    rw [List.take_of_length_le (by omega)] at h2
    have e1 : Option.map (fun x : Addr => x.add j) (some ⟨g, 0, none⟩) = some ⟨g, j, none⟩ := by
      rw [Option.map_some, Go.WideShapes.add_plain, Nat.zero_add]
    refine ⟨U, k, fun ty => by rw [e1]; exact h1 ty, fun hc ty => ?_, h2, fun B hB hBb => h3.below hB (fun i hi => by simp only [List.mem_cons, List.not_mem_nil, or_false] at hi; omega)⟩
    have h0 : n - j = 0 := by omega
    have q1 := h1 ty
    rw [h0, run_copy_none (P := Tryd.prog) u 24 24 ty 5 _ _ _ _ _ _ Tryd.underlying24 sizeU8 (Nat.min_zero _)] at q1
    rw [h0, run_copy_none (P := Tryd.prog) u 24 24 ty 5 _ _ _ _ _ _ Tryd.underlying24 sizeU8 (Nat.min_zero _)]
    exact q1

set_option maxRecDepth 100000 in
set_option maxHeartbeats 1000000 in
theorem rwrite_ok (hD : Dm base w q d) (hag : Ag s d) (hbase : base ≤ w.heap.size) (i j : Nat) (a : Option Addr) (n c : Nat) (l : List UInt8) (hr : Rd w a n c l) (r : Nat × List UInt8) (hq : s i = some r) (hin : j + n ≤ r.2.length) :
    Calls Tryd.prog 14 #[.pointer (some ⟨q, 0, none⟩), .int .i64 i, .int .i64 j, .slice a n c] w fun e w' => e = .returned (.int .i64 0) ∧ ∃ v, Dnew base w q d w' (dupd d i (some (v, wro r.2 j l))) := by
  obtain ⟨i0, hi, hz0, hz1, hz2⟩ := info_parts infoU8
  have HI := hid (rin_any hD hag i)
  have hk := hD.dom i (by rw [hag.isSome i, hq]; rfl)
  have hsome : (d i).isSome = true := by rw [hag.isSome i, hq]; rfl
  obtain ⟨ao, m, cm, hv, hrd, hm⟩ := hag.rd hD i
  rw [hq, show by_ (some r) = r.2 from rfl] at hrd
  rw [hq, Option.isSome_some] at HI
  have hlm := hrd.len
  have hlen := hr.len
  have c0 := hD.cl i (by omega)
  rw [hv] at c0
  have HS := hid (hrd.src (P := Tryd.prog) Tryd.underlying24)
  have hlt := hD.lt
  have HA : Hid (∀ v1 w1, w1.ownsRow w.heap.size 5 1 v1 (0 + m) ([] ++ bc r.2) → w.grownBy w1 (Value.ownBlock (.slice none 0 0)) → ∃ a1 c1 U kk, v1 = .slice a1 m c1 ∧ m ≤ c1 ∧ (∀ ty : TypeId, (Builtin.copy_ #[24, 24] ty #[.slice (Option.map (fun x => x.add j) a1) (m - j) (c1 - j), .slice a n c]).run Tryd.prog w1 = .ok (goInt kk) U) ∧
      (c1 = j → ∀ ty : TypeId, (Builtin.copy_ #[24, 24] ty #[.slice a1 (m - j) 0, .slice a n c]).run Tryd.prog w1 = .ok (goInt kk) U) ∧ U.cell? ⟨q, i, none⟩ = some (.slice ao m cm) ∧ (∀ j, U.frozen? ⟨q, j, none⟩ = false) ∧ q < U.heap.size ∧ Hid (∃ v, Dnew base w q d (U.setCell ⟨q, i, none⟩ (.slice a1 m c1)) (dupd d i (some (v, wro r.2 j l))))) := fun v1 w1 o1 g1 => by
    rw [Nat.zero_add, List.nil_append] at o1
    obtain ⟨a1, c1, rfl, hr1, hlo⟩ := rd_of_owns o1
    have hb1 : Below w.heap.size w w1 := (Below.refl _ _).grown g1 (Nat.le_refl _) (fun k hk => by cases hk)
    obtain ⟨U, kk, f1, f2, f3, f4⟩ := copy_tail w1 w.heap.size m a1 c1 r.2 o1 j a n c l (hr.below hb1 (rd_low hr)) (by omega)
    have hbU : Below w.heap.size w U := hb1.trans (f4 _ hb1.size (Nat.le_refl _))
    have hDU := hD.on hbU
    have hwl : (wro r.2 j l).length = r.2.length := wro_length (by omega)
    refine ⟨a1, c1, U, kk, rfl, hr1.le, f1, f2, by rw [hDU.cl i (by omega), hv], Lib.frozen_of_heap hDU.var, hDU.lt, ?_⟩
    refine ⟨.slice a1 m c1, hD.put i (by omega) _ _ (by rw [hwl]; omega) ?_ hbU (fun k hk => f3.lt k hk |>.1) _ ((Kp.refl [q] U).set ⟨q, i, none⟩ (by simp) _) ?_⟩
    · rw [hwl, hlm]
      exact ownsRow_low f3 hbase
    · rw [heap_setCell_same _ _ _ _ _ _ hDU.var, ← dmc_put d i (by omega) hsome (_, _)]
  have e1 : decide ((j : Int) < 0) = false := decide_eq_false (by omega)
  have e2 : decide ((m : Int) < j) = false := decide_eq_false (by omega)
  have e3 : decide ((m : Int) - j < n) = false := decide_eq_false (by omega)
  clear hD hag hr hq hv hrd hsome
  go_enter Tryd.func14, Tryd.ntmps14
  go_wp2_with fail
  refine HI.out.mono ?_
  rintro e w1 ⟨rfl, rfl⟩
  go_wp2_with (at_builtin; refine wpList_append_own_at _ rfl (.const (.slice none 0 0)) (.tmp 46) 24 24 rfl _ 5 i0 (.int .u8 0) 1 1 Tryd.underlying24 hi hz0 hz1 hz2 rfl _ 0 [] rfl (World.ownsRow_nil _ _ _ _) _ _ _ rfl HS.out (by simp only [maxLen]; omega) (fits1 (by omega)) (Nat.le_refl _) ?_; intro v1 w2 o1 g1 hv1; obtain ⟨a1, c1, U, kk, rfl, hc1, f1, f2, d0, df, dl, HF⟩ := HA.out _ _ o1 g1; clear o1 g1 hv1 HA c0 HS)
  · have hcj : c1 = j := by omega
    rw [hcj] at HF
    go_ret
    exact ⟨rfl, HF.out⟩
  · go_ret
    exact ⟨rfl, HF.out⟩
end Go.Proofs.YtpcepgecbdjdfaaDoor

/- The document's memories: Write whatever the arguments, Read. -/
namespace Go.Proofs.YtpcepgecbdjdfaaDoor
open Go Go.RowKit
variable {base : Nat} {w : World} {q : Nat} {s : Int → Mo} {d : Int → Do}

theorem inn_false {N : Nat} {j n : Int} (h : ¬ minn N j n = true) : j < 0 ∨ n < 0 ∨ (N : Int) < j ∨ (N : Int) - j < n := by
  simp only [minn, Bool.and_eq_true, decide_eq_true_eq] at h
  omega

set_option maxRecDepth 100000 in
theorem rwrite_no (hD : Dm base w q d) (hag : Ag s d) (k j : Int) (hj : -9223372036854775808 ≤ j ∧ j ≤ 9223372036854775807) (a : Option Addr) (n c : Nat) (r : Nat × List UInt8) (hq : s k = some r) (hin : j < 0 ∨ (r.2.length : Int) < j ∨ (r.2.length : Int) - j < n) :
    Calls Tryd.prog 14 #[.pointer (some ⟨q, 0, none⟩), .int .i64 k, .int .i64 j, .slice a n c] w fun e w' => e = .returned (.int .i64 8) ∧ Dnew base w q d w' d := by
  have HF := hid (dnew_same hD (Below.refl _ _))
  have HI := hid (rin_any hD hag k)
  have hk := hD.dom k (by rw [hag.isSome k, hq]; rfl)
  obtain ⟨ao, m, cm, hv, hrd, hm⟩ := hag.rd hD k
  have hlm := hrd.len
  rw [hq] at hlm
  rw [hq, Option.isSome_some] at HI
  obtain ⟨i, rfl⟩ : ∃ i : Nat, k = i := ⟨k.toNat, by omega⟩
  have c0 := hD.cl i (by omega)
  rw [hv] at c0
  have hlt := hD.lt
  rw [show r.2.length = m from hlm] at hin
  clear hD hag hq hv hrd hlm
  by_cases h1 : j < 0
  · have e1 : decide (j < 0) = true := decide_eq_true h1
    go_enter Tryd.func14, Tryd.ntmps14
    go_wp2_with fail
    refine HI.out.mono ?_
    rintro e w1 ⟨rfl, rfl⟩
    go_wp2
    go_ret
    exact ⟨rfl, HF.out⟩
  · have e1 : decide (j < 0) = false := decide_eq_false h1
    by_cases h2 : (m : Int) < j
    · have e2 : decide ((m : Int) < j) = true := decide_eq_true h2
      go_enter Tryd.func14, Tryd.ntmps14
      go_wp2_with fail
      refine HI.out.mono ?_
      rintro e w1 ⟨rfl, rfl⟩
      go_wp2
      go_ret
      exact ⟨rfl, HF.out⟩
    · have e2 : decide ((m : Int) < j) = false := decide_eq_false h2
      have e3 : decide ((m : Int) - j < n) = true := decide_eq_true (by omega)
      have e4 : -9223372036854775808 ≤ (m : Int) - j ∧ (m : Int) - j ≤ 9223372036854775807 := by omega
      go_enter Tryd.func14, Tryd.ntmps14
      go_wp2_with fail
      refine HI.out.mono ?_
      rintro e w1 ⟨rfl, rfl⟩
      go_wp2
      go_ret
      exact ⟨rfl, HF.out⟩

set_option maxRecDepth 100000 in
theorem rwrite_none (hD : Dm base w q d) (hag : Ag s d) (k j : Int) (a : Option Addr) (n c : Nat) (hq : s k = none) :
    Calls Tryd.prog 14 #[.pointer (some ⟨q, 0, none⟩), .int .i64 k, .int .i64 j, .slice a n c] w fun e w' => e = .returned (.int .i64 9) ∧ Dnew base w q d w' d := by
  have HF := hid (dnew_same hD (Below.refl _ _))
  have HI := hid (rin_any hD hag k)
  rw [hq, Option.isSome_none] at HI
  clear hD hag hq
  go_enter Tryd.func14, Tryd.ntmps14
  go_wp2_with fail
  refine HI.out.mono ?_
  rintro e w1 ⟨rfl, rfl⟩
  go_wp2
  go_ret
  exact ⟨rfl, HF.out⟩

theorem rwrite_any (hD : Dm base w q d) (hag : Ag s d) (hbase : base ≤ w.heap.size) (k j : Int) (hj : -9223372036854775808 ≤ j ∧ j ≤ 9223372036854775807) (a : Option Addr) (n c : Nat) (l : List UInt8) (hr : Rd w a n c l) :
    Calls Tryd.prog 14 #[.pointer (some ⟨q, 0, none⟩), .int .i64 k, .int .i64 j, .slice a n c] w fun e w' => e = .returned (.int .i64 (wrE (s k) j n : Nat)) ∧ ∃ d', Dnew base w q d w' d' ∧ Ag (wrS s k j l) d' := by
  have hlen := hr.len
  cases hq : s k with
  | none =>
    refine (rwrite_none hD hag k j a n c hq).mono ?_
    rintro e w' ⟨rfl, h⟩
    exact ⟨rfl, d, h, by rw [wrS, hq]; exact hag⟩
  | some r =>
    by_cases hin : minn r.2.length j n = true
    · have h3 := minn_true hin
      have hk := hD.dom k (by rw [hag.isSome k, hq]; rfl)
      obtain ⟨i, rfl⟩ : ∃ i : Nat, k = i := ⟨k.toNat, by omega⟩
      obtain ⟨j, rfl⟩ : ∃ m : Nat, j = m := ⟨j.toNat, by omega⟩
      refine (rwrite_ok hD hag hbase i j a n c l hr r hq (by omega)).mono ?_
      rintro e w' ⟨rfl, v, h⟩
      refine ⟨by rw [wrE]; simp only [hin, if_true]; rfl, _, h, ?_⟩
      rw [wrS, hq]
      simp only [hlen, hin, if_true, Int.toNat_natCast]
      exact hag.upd _ _ _ _
    · have h4 := inn_false hin
      refine (rwrite_no hD hag k j hj a n c r hq (by omega)).mono ?_
      rintro e w' ⟨rfl, h⟩
      refine ⟨by rw [wrE]; simp only [hin]; rfl, d, h, ?_⟩
      rw [wrS, hq]
      simp only [hlen, hin]
      exact hag

/-- What the document's Read answers. -/
def DRead (w : World) (m : Mo) (j n : Int) (e : Ending) (w' : World) : Prop :=
  ∃ a k c, e = .returned (.tuple #[.slice a k c, .bool (rdOk m j n)]) ∧ Below w.heap.size w w' ∧ Rd w' a k c (if rdOk m j n = true then ((by_ m).drop j.toNat).take n.toNat else []) ∧ k ≤ 65536



end Go.Proofs.YtpcepgecbdjdfaaDoor

/- The document's memories: Word. -/
namespace Go.Proofs.YtpcepgecbdjdfaaDoor
open Go Go.RowKit
variable {base : Nat} {w : World} {q : Nat} {s : Int → Mo} {d : Int → Do}

/-- The first t bytes from j on as a number. -/
def pw (l : List UInt8) (j : Int) : Nat → Nat
  | 0 => 0
  | t + 1 => pw l j t + bt l (j + t) * 256 ^ t
theorem pw_four (l : List UInt8) (j : Int) : pw l j 4 = wd l j := by
  simp only [pw, wd, Nat.pow_zero, Nat.mul_one, Nat.pow_one, Nat.zero_add, show (256 : Nat) ^ 2 = 65536 from rfl, show (256 : Nat) ^ 3 = 16777216 from rfl]
  rw [show j + ((0 : Nat) : Int) = j by omega]
  rfl
theorem pw_lt (l : List UInt8) (j : Int) : ∀ t, pw l j t < 256 ^ t
  | 0 => by simp [pw]
  | t + 1 => by
    have h1 := pw_lt l j t
    have h2 := bt_lt l (j + t)
    rw [pw, Nat.pow_succ]
    have h3 : bt l (j + t) * 256 ^ t ≤ 255 * 256 ^ t := Nat.mul_le_mul_right _ (by omega)
    omega
theorem bt_out (l : List UInt8) (i : Int) (h : i < 0 ∨ (l.length : Int) ≤ i) : bt l i = 0 := by
  rcases h with h | h
  · rw [bt, if_pos h]
  · exact bt_far l i h
theorem pw_out (l : List UInt8) (j : Int) (t : Nat) (h : j + t < 0 ∨ (l.length : Int) ≤ j + t) : pw l j (t + 1) = pw l j t := by
  rw [pw, bt_out l _ h, Nat.zero_mul, Nat.add_zero]
theorem pw_in (l : List UInt8) (j : Int) (t z : Nat) (h : j + t = z) : pw l j (t + 1) = pw l j t + (l.getD z 0).toNat * 256 ^ t := by
  rw [pw, h, bt, if_neg (by omega), Int.toNat_natCast]

set_option maxRecDepth 100000 in
theorem rword_none (hD : Dm base w q d) (hag : Ag s d) (k j : Int) (hq : s k = none) :
    Calls Tryd.prog 38 #[.pointer (some ⟨q, 0, none⟩), .int .i64 k, .int .i64 j] w fun e w' => e = .returned (.int .u32 0) ∧ w' = w := by
  have HI := hid (rin_any hD hag k)
  rw [hq, Option.isSome_none] at HI
  clear hD hag hq
  go_enter Tryd.func38, Tryd.ntmps38
  go_wp2
  refine wp_loop_rounds 1 ?_
  rw [rounds_succ]
  go_wp2_with fail
  refine HI.out.mono ?_
  rintro e w1 ⟨rfl, rfl⟩
  go_wp2
  go_ret
  exact ⟨rfl, rfl⟩

set_option maxRecDepth 100000 in
set_option maxHeartbeats 4000000 in
theorem rword_some (hD : Dm base w q d) (hag : Ag s d) (k j : Int) (hj : -9223372036854775808 ≤ j ∧ j ≤ 9223372036854775807) (r : Nat × List UInt8) (hq : s k = some r) :
    Calls Tryd.prog 38 #[.pointer (some ⟨q, 0, none⟩), .int .i64 k, .int .i64 j] w fun e w' => e = .returned (.int .u32 (wd r.2 j : Nat)) ∧ w' = w := by
  have HI := hid (rin_any hD hag k)
  have hk := hD.dom k (by rw [hag.isSome k, hq]; rfl)
  obtain ⟨ao, m, cm, hv, hrd, hm⟩ := hag.rd hD k
  rw [hq, show by_ (some r) = r.2 from rfl] at hrd
  rw [hq, Option.isSome_some] at HI
  have hlm := hrd.len
  have hcm := hrd.le
  obtain ⟨i, rfl⟩ : ∃ i : Nat, k = i := ⟨k.toNat, by omega⟩
  have c0 := hD.cl i (by omega)
  rw [hv] at c0
  have hlt := hD.lt
  have HR := hid hrd
  generalize r.2 = l at *
  have HP := hid (pw_four l j)
  clear hD hag hq hv hrd
  go_enter Tryd.func38, Tryd.ntmps38
  go_wp2
  go_loopw [7, 8] (fun v i wr => ∃ t : Nat, t ≤ 4 ∧ i = .int .i64 t ∧ v = .int .u32 (pw l j t : Nat) ∧ wr = w) (fun _ i _ => 4 - (numOf i).toNat)
  case atStart => exact ⟨0, by omega, rfl, rfl, rfl⟩
  case round =>
    obtain ⟨t, ht, rfl, rfl, rfl⟩ := hrel
    obtain rfl | rfl | rfl | rfl | rfl : t = 0 ∨ t = 1 ∨ t = 2 ∨ t = 3 ∨ t = 4 := by omega
    · have hlo := pw_lt l j 0
      by_cases hin : 0 ≤ j + 0 ∧ j + 0 < m
      · have e1 : decide (-0 ≤ j) = true := decide_eq_true (by omega)
        have e2 : decide (j < (m : Int) - 0) = true := decide_eq_true (by omega)
        obtain ⟨z, hz⟩ : ∃ z : Nat, j + 0 = (z : Int) := ⟨(j + 0).toNat, by omega⟩
        obtain ⟨b0, off, rfl, hb0, c1⟩ := HR.out.at_ z (by omega)
        have hn : pw l j 1 = pw l j 0 + (l.getD z 0).toNat * 1 := pw_in l j 0 z hz
        have HN := hid hn
        have hB : (l.getD z 0).toNat < 256 := UInt8.toNat_lt _
        have HLO : Hid (pw l j 0 < 1) := hlo
        generalize (l.getD z 0).toNat = B at *
        generalize pw l j 0 = V at *
        clear hn hlo
        have hV : V < 1 := HLO.out
        have hzz := hz
        go_wp2_with fail
        refine HI.out.mono ?_
        rintro e w1 ⟨rfl, rfl⟩
        go_wp2
        -- MARK0
        go_roundw
        case rel => exact ⟨1, by omega, by go_num, congrArg (Value.int .u32) (by rw [HN.out]; omega), trivial⟩
        case measure => simp [numOf]
      · have hn := pw_out l j 0 (by omega)
        have HN := hid hn
        clear hn hlo
        by_cases h1 : -0 ≤ j
        · have e1 : decide (-0 ≤ j) = true := decide_eq_true h1
          have e2 : decide (j < (m : Int) - 0) = false := decide_eq_false (by omega)
          go_wp2_with fail
          refine HI.out.mono ?_
          rintro e w1 ⟨rfl, rfl⟩
          go_wp2
          go_roundw
          case rel => exact ⟨1, by omega, by go_num, congrArg (fun x : Nat => Value.int .u32 x) HN.out.symm, trivial⟩
          case measure => simp [numOf]
        · have e1 : decide (-0 ≤ j) = false := decide_eq_false h1
          go_wp2_with fail
          refine HI.out.mono ?_
          rintro e w1 ⟨rfl, rfl⟩
          go_wp2
          go_roundw
          case rel => exact ⟨1, by omega, by go_num, congrArg (fun x : Nat => Value.int .u32 x) HN.out.symm, trivial⟩
          case measure => simp [numOf]
    · have hlo := pw_lt l j 1
      by_cases hin : 0 ≤ j + 1 ∧ j + 1 < m
      · have e1 : decide (-1 ≤ j) = true := decide_eq_true (by omega)
        have e2 : decide (j < (m : Int) - 1) = true := decide_eq_true (by omega)
        obtain ⟨z, hz⟩ : ∃ z : Nat, j + 1 = (z : Int) := ⟨(j + 1).toNat, by omega⟩
        obtain ⟨b0, off, rfl, hb0, c1⟩ := HR.out.at_ z (by omega)
        have hn : pw l j 2 = pw l j 1 + (l.getD z 0).toNat * 256 := pw_in l j 1 z hz
        have HN := hid hn
        have hB : (l.getD z 0).toNat < 256 := UInt8.toNat_lt _
        have HLO : Hid (pw l j 1 < 256) := hlo
        generalize (l.getD z 0).toNat = B at *
        generalize pw l j 1 = V at *
        clear hn hlo
        have hV : V < 256 := HLO.out
        have hzz := hz
        go_wp2_with fail
        refine HI.out.mono ?_
        rintro e w1 ⟨rfl, rfl⟩
        go_wp2
        -- MARK1
        go_roundw
        case rel => exact ⟨2, by omega, by go_num, congrArg (Value.int .u32) (by rw [HN.out]; omega), trivial⟩
        case measure => simp [numOf]
      · have hn := pw_out l j 1 (by omega)
        have HN := hid hn
        clear hn hlo
        by_cases h1 : -1 ≤ j
        · have e1 : decide (-1 ≤ j) = true := decide_eq_true h1
          have e2 : decide (j < (m : Int) - 1) = false := decide_eq_false (by omega)
          go_wp2_with fail
          refine HI.out.mono ?_
          rintro e w1 ⟨rfl, rfl⟩
          go_wp2
          go_roundw
          case rel => exact ⟨2, by omega, by go_num, congrArg (fun x : Nat => Value.int .u32 x) HN.out.symm, trivial⟩
          case measure => simp [numOf]
        · have e1 : decide (-1 ≤ j) = false := decide_eq_false h1
          go_wp2_with fail
          refine HI.out.mono ?_
          rintro e w1 ⟨rfl, rfl⟩
          go_wp2
          go_roundw
          case rel => exact ⟨2, by omega, by go_num, congrArg (fun x : Nat => Value.int .u32 x) HN.out.symm, trivial⟩
          case measure => simp [numOf]
    · have hlo := pw_lt l j 2
      by_cases hin : 0 ≤ j + 2 ∧ j + 2 < m
      · have e1 : decide (-2 ≤ j) = true := decide_eq_true (by omega)
        have e2 : decide (j < (m : Int) - 2) = true := decide_eq_true (by omega)
        obtain ⟨z, hz⟩ : ∃ z : Nat, j + 2 = (z : Int) := ⟨(j + 2).toNat, by omega⟩
        obtain ⟨b0, off, rfl, hb0, c1⟩ := HR.out.at_ z (by omega)
        have hn : pw l j 3 = pw l j 2 + (l.getD z 0).toNat * 65536 := pw_in l j 2 z hz
        have HN := hid hn
        have hB : (l.getD z 0).toNat < 256 := UInt8.toNat_lt _
        have HLO : Hid (pw l j 2 < 65536) := hlo
        generalize (l.getD z 0).toNat = B at *
        generalize pw l j 2 = V at *
        clear hn hlo
        have hV : V < 65536 := HLO.out
        have hzz := hz
        go_wp2_with fail
        refine HI.out.mono ?_
        rintro e w1 ⟨rfl, rfl⟩
        go_wp2
        -- MARK2
        go_roundw
        case rel => exact ⟨3, by omega, by go_num, congrArg (Value.int .u32) (by rw [HN.out]; omega), trivial⟩
        case measure => simp [numOf]
      · have hn := pw_out l j 2 (by omega)
        have HN := hid hn
        clear hn hlo
        by_cases h1 : -2 ≤ j
        · have e1 : decide (-2 ≤ j) = true := decide_eq_true h1
          have e2 : decide (j < (m : Int) - 2) = false := decide_eq_false (by omega)
          go_wp2_with fail
          refine HI.out.mono ?_
          rintro e w1 ⟨rfl, rfl⟩
          go_wp2
          go_roundw
          case rel => exact ⟨3, by omega, by go_num, congrArg (fun x : Nat => Value.int .u32 x) HN.out.symm, trivial⟩
          case measure => simp [numOf]
        · have e1 : decide (-2 ≤ j) = false := decide_eq_false h1
          go_wp2_with fail
          refine HI.out.mono ?_
          rintro e w1 ⟨rfl, rfl⟩
          go_wp2
          go_roundw
          case rel => exact ⟨3, by omega, by go_num, congrArg (fun x : Nat => Value.int .u32 x) HN.out.symm, trivial⟩
          case measure => simp [numOf]
    · have hlo := pw_lt l j 3
      by_cases hin : 0 ≤ j + 3 ∧ j + 3 < m
      · have e1 : decide (-3 ≤ j) = true := decide_eq_true (by omega)
        have e2 : decide (j < (m : Int) - 3) = true := decide_eq_true (by omega)
        obtain ⟨z, hz⟩ : ∃ z : Nat, j + 3 = (z : Int) := ⟨(j + 3).toNat, by omega⟩
        obtain ⟨b0, off, rfl, hb0, c1⟩ := HR.out.at_ z (by omega)
        have hn : pw l j 4 = pw l j 3 + (l.getD z 0).toNat * 16777216 := pw_in l j 3 z hz
        have HN := hid hn
        have hB : (l.getD z 0).toNat < 256 := UInt8.toNat_lt _
        have HLO : Hid (pw l j 3 < 16777216) := hlo
        generalize (l.getD z 0).toNat = B at *
        generalize pw l j 3 = V at *
        clear hn hlo
        have hV : V < 16777216 := HLO.out
        have hzz := hz
        go_wp2_with fail
        refine HI.out.mono ?_
        rintro e w1 ⟨rfl, rfl⟩
        go_wp2
        -- MARK3
        go_roundw
        case rel => exact ⟨4, by omega, by go_num, congrArg (Value.int .u32) (by rw [HN.out]; omega), trivial⟩
        case measure => simp [numOf]
      · have hn := pw_out l j 3 (by omega)
        have HN := hid hn
        clear hn hlo
        by_cases h1 : -3 ≤ j
        · have e1 : decide (-3 ≤ j) = true := decide_eq_true h1
          have e2 : decide (j < (m : Int) - 3) = false := decide_eq_false (by omega)
          go_wp2_with fail
          refine HI.out.mono ?_
          rintro e w1 ⟨rfl, rfl⟩
          go_wp2
          go_roundw
          case rel => exact ⟨4, by omega, by go_num, congrArg (fun x : Nat => Value.int .u32 x) HN.out.symm, trivial⟩
          case measure => simp [numOf]
        · have e1 : decide (-3 ≤ j) = false := decide_eq_false h1
          go_wp2_with fail
          refine HI.out.mono ?_
          rintro e w1 ⟨rfl, rfl⟩
          go_wp2
          go_roundw
          case rel => exact ⟨4, by omega, by go_num, congrArg (fun x : Nat => Value.int .u32 x) HN.out.symm, trivial⟩
          case measure => simp [numOf]
    · go_wp2
      go_ret
      rw [HP.out]
      exact ⟨rfl, rfl⟩

theorem rword_any (hD : Dm base w q d) (hag : Ag s d) (k j : Int) (hj : -9223372036854775808 ≤ j ∧ j ≤ 9223372036854775807) :
    Calls Tryd.prog 38 #[.pointer (some ⟨q, 0, none⟩), .int .i64 k, .int .i64 j] w fun e w' => e = .returned (.int .u32 (wd (by_ (s k)) j : Nat)) ∧ w' = w := by
  cases hq : s k with
  | none =>
    have e : wd (by_ none) j = 0 := by
      have : ∀ i, bt [] i = 0 := fun i => by unfold bt; split <;> rfl
      simp only [wd, by_, this]
    rw [e]
    exact rword_none hD hag k j hq
  | some r => exact rword_some hD hag k j hj r hq
end Go.Proofs.YtpcepgecbdjdfaaDoor

/- The document's Load. Written by paint/mk_pti.py. -/
namespace Go.Proofs.YtpcepgecbdjdfaaDoor
open Go Go.RowKit

theorem own_shape {u : World} {base e size n : Nat} {v : Value} {xs : List Value} (h : u.ownsRow base e size v n xs) : ∃ a c, v = .slice a n c := by
  rcases h.2 with ⟨rfl, rfl⟩ | ⟨g, cap, cur, rfl, _⟩
  · exact ⟨none, 0, rfl⟩
  · exact ⟨_, cap, rfl⟩
/-- What the document's loop has so far: the image at q with the points l. -/
structure Lw (U x : World) (q : Nat) (id : Int) (W H : Nat) (v : Value) (l : List Int) : Prop where
  own : x.ownsRow U.heap.size 58 1 v l.length (l.map e32)
  kp : Kp [q] U x
  bk : Bk x q 47 #[.int .i64 id, .int .i64 W, .int .i64 H, v]
  col : ∀ z ∈ l, Col z
  lt : q < U.heap.size
theorem Lw.ap {U x : World} {q : Nat} {id : Int} {W H : Nat} {v : Value} {l : List Int} (h : Lw U x q id W H v l) : v.ownBlock ≠ some q := fun e => by
  have := (h.own.lt q e).1
  have := h.lt
  omega
theorem Lw.more {U x y : World} {q : Nat} {id : Int} {W H : Nat} {v v' : Value} {l : List Int} {z : Int} (h : Lw U x q id W H v l) (hx : Below x.heap.size x y) {y' : World} (hz : Col z) (o2 : y'.ownsRow U.heap.size 58 1 v' (l.length + 1) (l.map e32 ++ [e32 z])) (g : y.grownBy y' v.ownBlock) :
    Lw U (y'.setCell ⟨q, 3, none⟩ v') q id W H v' (l ++ [z]) := by
  have hb : Bk y' q 47 #[.int .i64 id, .int .i64 W, .int .i64 H, v] := (h.bk.on hx).kp (kp_of_grown g) (by
    intro hm
    exact h.ap (by simpa using hm))
  have hap : v'.ownBlock ≠ some q := fun e => by
    have := (o2.lt q e).1
    have := h.lt
    omega
  refine ⟨?_, ?_, hb.set 3 v', fun y hy => ?_, h.lt⟩
  · rw [List.length_append, List.map_append]
    exact ownsRow_set o2 ⟨q, 3, none⟩ hap v'
  · have h1 : Kp [q] U y' := (h.kp.trans (kp_of_below hx []) (by simp)).trans (kp_of_grown g) (fun k hk hk2 => by
      have h2 : v.ownBlock = some k := by simpa using hk
      have := (h.own.lt k h2).1
      omega)
    exact h1.set ⟨q, 3, none⟩ (by simp) v'
  · rcases List.mem_append.1 hy with hy | hy
    · exact h.col y hy
    · rw [List.mem_singleton.1 hy]; exact hz

theorem info_rim1 : (Tryd.prog.info? 47).map (·.size) = some 4 := by kernel_rfl
set_option maxRecDepth 100000 in
set_option maxHeartbeats 8000000 in
theorem rpload_any (base : Nat) (w : World) (qd : Nat) (s : Int → Mo) (d : Int → Do) (hD : Dm base w qd d) (hag : Ag s d)
    (id key off wd_ h st fm : Int) (_hk : I64 key) (ho : I64 off) (hw : I64 wd_) (hh : I64 h) (hs : I64 st) (hf : I64 fm) :
    Calls Tryd.prog 16 #[.int .i64 id, .agg #[.int .i64 key, .int .i64 off, .int .i64 wd_, .int .i64 h, .int .i64 st, .int .i64 fm], .pointer (some ⟨qd, 0, none⟩)] w (LdR w id (by_ (s key)) off wd_ h st fm) := by
  rw [I64] at ho hw hh hs hf
  have hA := bel_new w (.cells #[.int .i64 key, .int .i64 off, .int .i64 wd_, .int .i64 h, .int .i64 st, .int .i64 fm] 23)
  have hI := bk_new w #[.int .i64 key, .int .i64 off, .int .i64 wd_, .int .i64 h, .int .i64 st, .int .i64 fm] 23
  obtain ⟨U0, hU0⟩ : ∃ U0, U0 = w.alloc (.cells #[.int .i64 key, .int .i64 off, .int .i64 wd_, .int .i64 h, .int .i64 st, .int .i64 fm] 23) := ⟨_, rfl⟩
  have hs0 : U0.heap.size = w.heap.size + 1 := by rw [hU0, size_new]
  rw [← hU0] at hA hI
  have hB := bel_new U0 (.cells #[.int .i64 0, .int .i64 0, .int .i64 0, .slice none 0 0] 47)
  have hM := bk_new U0 #[.int .i64 0, .int .i64 0, .int .i64 0, .slice none 0 0] 47
  rw [hs0] at hM
  obtain ⟨U1, hU1⟩ : ∃ U1, U1 = U0.alloc (.cells #[.int .i64 0, .int .i64 0, .int .i64 0, .slice none 0 0] 47) := ⟨_, rfl⟩
  have hs1 : U1.heap.size = w.heap.size + 1 + 1 := by rw [hU1, size_new, hs0]
  rw [← hU1] at hB hM
  have hB2 := bel_new U1 (.cells #[.int .i64 id, .int .i64 0, .int .i64 0, .slice none 0 0] 47)
  have hX := bk_new U1 #[.int .i64 id, .int .i64 0, .int .i64 0, .slice none 0 0] 47
  rw [hs1] at hX
  obtain ⟨U, hU⟩ : ∃ U, U = U1.alloc (.cells #[.int .i64 id, .int .i64 0, .int .i64 0, .slice none 0 0] 47) := ⟨_, rfl⟩
  have hsU : U.heap.size = w.heap.size + 1 + 1 + 1 := by rw [hU, size_new, hs1]
  rw [← hU] at hB2 hX
  have hbU := Below.on (Below.on hA hB) hB2
  have HI := hid ((hI.on hB).on hB2)
  have HM := hid (hM.on hB2)
  have HX := hid hX
  have HBU := hid hbU
  have HD := hid (hD.on hbU)
  have HDW : Hid (qd < w.heap.size ∧ ∀ k x j, d k = some x → x.1.ownBlock = some j → j < w.heap.size) := ⟨hD.lt, fun k x j h1 h2 => ((hD.row k x h1).1.lt j h2).2⟩
  have CR := hid (rroom_any 65536 off wd_ h st fm U (by decide) ho hw hh hs)
  have HU : Hid (U = ((w.alloc (.cells #[.int .i64 key, .int .i64 off, .int .i64 wd_, .int .i64 h, .int .i64 st, .int .i64 fm] 23)).alloc (.cells #[.int .i64 0, .int .i64 0, .int .i64 0, .slice none 0 0] 47)).alloc (.cells #[.int .i64 id, .int .i64 0, .int .i64 0, .slice none 0 0] 47)) := by rw [Hid, hU, hU1, hU0]
  obtain ⟨R, hR⟩ : ∃ R, R = LdR w id (by_ (s key)) off wd_ h st fm := ⟨_, rfl⟩
  rw [← hR]
  have t1 := HI.out.cell 1
  have t2 := HI.out.cell 2
  have t3 := HI.out.cell 3
  have t4 := HI.out.cell 4
  have t5 := HI.out.cell 5
  have x0 := HX.out.cell 0
  have x1 := HX.out.cell 1
  have x2 := HX.out.cell 2
  have x3 := HX.out.cell 3
  have HMF := hid HM.out.fz
  have m0 := HM.out.cell 0
  have m1 := HM.out.cell 1
  have m2 := HM.out.cell 2
  have m3 := HM.out.cell 3
  cases hr : rmE 65536 off wd_ h st fm with
  | succ k =>
    rw [hr] at CR
    have HF : Hid (∀ x, Below w.heap.size w x → R (.returned (.agg #[.int .i64 id, .int .i64 0, .int .i64 0, .slice none 0 0])) x) := fun x hb => by
      rw [hR]
      exact ⟨0, 0, none, 0, 0, [], rfl, hb, RdI.nil _ _, (fun y hy => by cases hy), by rw [hr, if_neg (by omega)]; exact ⟨rfl, rfl, rfl⟩⟩
    have hk1 : (((k + 1 : Nat) : Int) != 0) = true := by simp; omega
    obtain ⟨K1, hK1⟩ : ∃ K1 : Int, ((k + 1 : Nat) : Int) = K1 := ⟨_, rfl⟩
    rw [hK1] at CR hk1
    clear hR hD hA hB hB2 hI hM hX hU hU0 hU1 hs0 hs1 hbU hr hK1
    go_enter Tryd.func16, Tryd.ntmps16
    go_wp2_with fail
    rw [← HU.out]
    refine CR.out.mono ?_
    rintro e u1 ⟨rfl, hu1⟩
    obtain rfl : U = u1 := hu1.symm
    have f0 := HMF.out
    clear HU
    go_wp2
    refine bodyPost_ret (results_cell_row rfl _ _ (w.heap.size + 1) _ _ _ _ rfl ((((HM.out.set 0 _).set 1 _).set 2 _).set 3 _).obj Tryd.underlying47 rfl info_rim1) rfl ?_
    exact HF.out _ ((((HBU.out.setCell (p := ⟨w.heap.size + 1, 0, none⟩) (by show w.heap.size ≤ w.heap.size + 1; omega) _).setCell (p := ⟨w.heap.size + 1, 1, none⟩) (by show w.heap.size ≤ w.heap.size + 1; omega) _).setCell (p := ⟨w.heap.size + 1, 2, none⟩) (by show w.heap.size ≤ w.heap.size + 1; omega) _).setCell (p := ⟨w.heap.size + 1, 3, none⟩) (by show w.heap.size ≤ w.heap.size + 1; omega) _)
  | zero =>
    rw [hr] at CR
    obtain ⟨O, W, H, S, rfl, rfl, rfl, rfl, hW, hH, hS, hO, hfm⟩ := rm_nat hr
    have hWn : W * H ≤ 16384 := by
      have h1 : 4 * W * H ≤ S * H := Nat.mul_le_mul_right H hS
      rw [Nat.mul_assoc] at h1
      omega
    have hSb : S ≤ S * H := Nat.le_mul_of_pos_right S hH
    have HSJ : Hid (∀ j, j < H → S * j + S ≤ S * H) := fun j hj => by
      have := Nat.mul_le_mul_left S (show j + 1 ≤ H from hj)
      rwa [Nat.mul_add, Nat.mul_one] at this
    have hHb : H ≤ 65536 := by
      have := Nat.le_mul_of_pos_left H (show 0 < S by omega)
      omega
    obtain ⟨T, hTT⟩ : ∃ T, S * H = T := ⟨_, rfl⟩
    rw [hTT] at hSb hO HSJ
    obtain ⟨N, hN⟩ : ∃ N, W * H = N := ⟨_, rfl⟩
    rw [hN] at hWn
    have HNN : Hid (H * W = N) := by rw [Hid, Nat.mul_comm, hN]
    obtain ⟨B, hBB⟩ : ∃ B, by_ (s key) = B := ⟨_, rfl⟩
    have HB := hid hBB
    rw [hBB] at hR
    have HF : Hid (∀ x a c, Below w.heap.size w x → RdI .u32 x a N c (ldL B O S W fm N) → (∀ y, a = some y → w.heap.size ≤ y.block) → R (.returned (.agg #[.int .i64 id, .int .i64 W, .int .i64 H, .slice a N c])) x) := fun x a c hb hr2 hn => by
      rw [hR]
      refine ⟨W, H, a, N, c, _, rfl, hb, hr2, hn, ?_⟩
      rw [hr, if_pos rfl]
      exact ⟨rfl, rfl, by simp only [Int.toNat_natCast]; rw [hN]⟩
    have hIL : Hid (∀ j c, j < H → c < W → j * W + c < N) := fun j c hj hc => by
      rw [← HNN.out]
      have := Nat.mul_le_mul_right W (show j + 1 ≤ H from hj)
      rw [Nat.add_mul, Nat.one_mul] at this
      omega
    obtain ⟨i0, hi, hz0, hz1, hz2⟩ := info32p
    have HAG := hid hag
    clear hR hD hA hB hB2 hI hM hX hU hU0 hU1 hs0 hs1 hbU hr hTT hN hBB HMF hag
    go_enter Tryd.func16, Tryd.ntmps16
    go_wp2_with fail
    rw [← HU.out]
    refine CR.out.mono ?_
    rintro e u1 ⟨rfl, hu1⟩
    obtain rfl : U = u1 := hu1.symm
    clear HU CR t1 t2 t3 t4 t5 x0 x1 x2 x3 m0 m1 m2 m3
    go_upto_region 4 with fail
    obtain ⟨q, hq⟩ : ∃ q, w.heap.size + 1 + 1 = q := ⟨_, rfl⟩
    have HQ := hid hq
    have hqU : q < U.heap.size := by omega
    have hqi : w.heap.size ≠ q := by omega
    rw [hq] at HX ⊢
    have HDQ : Hid (qd ≠ q ∧ ∀ k x j, d k = some x → x.1.ownBlock = some j → j ≠ q) := ⟨fun e => by have := HDW.out.1; omega, fun k x j h1 h2 e => by have := HDW.out.2 k x j h1 h2; omega⟩
    have HXD : Hid (Bk U.drew q 47 #[.int .i64 id, .int .i64 0, .int .i64 0, .slice none 0 0]) := ⟨HX.out.obj⟩
    have HWD : Hid (RowKit.Below U.heap.size U U.drew) := (Below.refl _ _).drew
    refine wp_region_held_drew (S := fun x => Bk x w.heap.size 23 #[.int .i64 key, .int .i64 O, .int .i64 W, .int .i64 H, .int .i64 S, .int .i64 fm]) (by kernel_rfl) ?hh (fun hHeld => ?_)
    case hh => exact (⟨HI.out.obj⟩)
    generalize World.drew _ = W0 at hHeld HXD HWD ⊢
    try dsimp only at hHeld
    refine wpAnyH_take (i := 0) (v := ?_) rfl (by kernel_rfl) (by kernel_rfl) (by kernel_rfl) (fun _ _ _ h => h) (Or.inl ⟨by kernel_rfl, ?hy0⟩) (by assumption) ?_
    case hy0 => (intro wI hSw; (try dsimp only at hSw); have k2 := hSw.cell 2; have k3 := hSw.cell 3; go_simp; try with_reducible rfl)
    try simp only [Act.put, List.getElem_toArray, List.getElem_cons_zero, List.setIfInBounds_toArray, List.set_cons_zero, List.set_cons_succ]
    refine wpAnyH_take (i := 1) (v := ?_) rfl (by kernel_rfl) (by kernel_rfl) (by kernel_rfl) (fun _ _ _ h => h) (Or.inl ⟨by kernel_rfl, ?hy1⟩) (by assumption) ?_
    case hy1 => (intro wI hSw; (try dsimp only at hSw); have k2 := hSw.cell 2; have k3 := hSw.cell 3; go_simp; try with_reducible rfl)
    try simp only [Act.put, List.getElem_toArray, List.getElem_cons_zero, List.getElem_cons_succ, List.setIfInBounds_toArray, List.set_cons_zero, List.set_cons_succ]
    refine wpAnyH_take (i := 2) (v := ?_) rfl (by kernel_rfl) (by kernel_rfl) (by kernel_rfl) (fun _ _ _ h => h) (Or.inl ⟨by kernel_rfl, ?hy2⟩) (by assumption) ?_
    case hy2 => (intro wI hSw; (try dsimp only at hSw); have k2 := hSw.cell 2; have k3 := hSw.cell 3; go_simp; try with_reducible rfl)
    try simp only [Act.put, List.getElem_toArray, List.getElem_cons_zero, List.getElem_cons_succ, List.setIfInBounds_toArray, List.set_cons_zero, List.set_cons_succ]
    refine wpAnyH_take (i := 3) (v := ?_) rfl (by kernel_rfl) (by kernel_rfl) (by kernel_rfl) (fun _ _ _ h => h) (Or.inl ⟨by kernel_rfl, ?hy3⟩) (by assumption) ?_
    case hy3 => (intro wI hSw; (try dsimp only at hSw); have k2 := hSw.cell 2; have k3 := hSw.cell 3; go_simp; try with_reducible rfl)
    try simp only [Act.put, List.getElem_toArray, List.getElem_cons_zero, List.getElem_cons_succ, List.setIfInBounds_toArray, List.set_cons_zero, List.set_cons_succ]
    refine wpAnyH_take (i := 4) (v := ?_) rfl (by kernel_rfl) (by kernel_rfl) (by kernel_rfl) (fun _ _ _ h => h) (Or.inl ⟨by kernel_rfl, ?hy4⟩) (by assumption) ?_
    case hy4 => (intro wI hSw; (try dsimp only at hSw); have k2 := hSw.cell 2; have k3 := hSw.cell 3; go_simp; try with_reducible rfl)
    try simp only [Act.put, List.getElem_toArray, List.getElem_cons_zero, List.getElem_cons_succ, List.setIfInBounds_toArray, List.set_cons_zero, List.set_cons_succ]
    refine wpAnyH_ready (rs := [5]) (by kernel_rfl) (by simp) ?_
    refine AllReadyH.cons rfl (fun K hK => ?_) AllReadyH.nil
    have fz := HXD.out.fz
    have c1 := HXD.out.cell 1
    have HX5 : Hid (Bk (W0.setCell ⟨q, 1, none⟩ (.int .i64 W)) q 47 #[.int .i64 id, .int .i64 W, .int .i64 0, .slice none 0 0]) := HXD.out.set 1 (.int .i64 W)
    have HK5 : Hid (Kp [q] U (W0.setCell ⟨q, 1, none⟩ (.int .i64 W))) := (kp_of_below HWD.out [q]).set ⟨q, 1, none⟩ (by simp) _
    have hH5 := hHeld.other hqi 1 (.int .i64 W)
    go_simp
    refine hK.out _ _ hH5 (fun _ => ?_)
    clear hK K hHeld fz c1
    have hHeld := hH5
    clear hH5
    generalize W0.setCell ⟨q, 1, none⟩ (.int .i64 W) = W5 at HX5 HK5 hHeld ⊢
    try simp only [Act.put, List.getElem_toArray, List.getElem_cons_zero, List.getElem_cons_succ, List.setIfInBounds_toArray, List.set_cons_zero, List.set_cons_succ]
    refine wpAnyH_take (i := 6) (v := ?_) rfl (by kernel_rfl) (by kernel_rfl) (by kernel_rfl) (fun _ _ _ h => h) (Or.inl ⟨by kernel_rfl, ?hy6⟩) (by assumption) ?_
    case hy6 => (intro wI hSw; (try dsimp only at hSw); have k2 := hSw.cell 2; have k3 := hSw.cell 3; go_simp; try with_reducible rfl)
    try simp only [Act.put, List.getElem_toArray, List.getElem_cons_zero, List.getElem_cons_succ, List.setIfInBounds_toArray, List.set_cons_zero, List.set_cons_succ]
    refine wpAnyH_ready (rs := [7]) (by kernel_rfl) (by simp) ?_
    refine AllReadyH.cons rfl (fun K hK => ?_) AllReadyH.nil
    have fz := HX5.out.fz
    have c2 := HX5.out.cell 2
    have HX7 : Hid (Bk (W5.setCell ⟨q, 2, none⟩ (.int .i64 H)) q 47 #[.int .i64 id, .int .i64 W, .int .i64 H, .slice none 0 0]) := HX5.out.set 2 (.int .i64 H)
    have HK7 : Hid (Kp [q] U (W5.setCell ⟨q, 2, none⟩ (.int .i64 H))) := HK5.out.set ⟨q, 2, none⟩ (by simp) _
    have hH7 := hHeld.other hqi 2 (.int .i64 H)
    go_simp
    refine hK.out _ _ hH7 (fun _ => ?_)
    clear hK K hHeld fz c2 hH7
    generalize W5.setCell ⟨q, 2, none⟩ (.int .i64 H) = W7 at HX7 HK7 ⊢
    try simp only [Act.put, List.getElem_toArray, List.getElem_cons_zero, List.getElem_cons_succ, List.setIfInBounds_toArray, List.set_cons_zero, List.set_cons_succ]
    refine wpAnyH_done (by kernel_rfl) ?_ _
    have HL : Hid (Lw U W7 q id W H (.slice none 0 0) []) := ⟨World.ownsRow_nil _ _ _ _, HK7.out, HX7.out, by simp, hqU⟩
    clear HX HXD HWD HX5 HK5 HX7 HK7
    go_wp2
    go_loopw [8] (fun i wr => ∃ (j : Nat) (v : Value), i = .int .i64 j ∧ j ≤ H ∧ Lw U wr q id W H v (ldL B O S W fm (j * W))) (fun i _ => H - (numOf i).toNat)
    case atStart => exact ⟨0, _, rfl, by omega, by rw [Nat.zero_mul]; exact HL.out⟩
    case round =>
      obtain ⟨j, v, rfl, hj, hL⟩ := hrel
      have HL1 := hid hL
      have HI1 := hid (HI.out.kp hL.kp (by simpa using hqi))
      have t3 := HI1.out.cell 3
      clear hL HL
      by_cases hgo : j < H
      · have e1 : decide ((j : Int) < H) = true := decide_eq_true (by omega)
        go_wp2
        clear t3 HI1
        go_loopw [9] (fun i wr => ∃ (c : Nat) (v : Value), i = .int .i64 c ∧ c ≤ W ∧ Lw U wr q id W H v (ldL B O S W fm (j * W + c))) (fun i _ => W - (numOf i).toNat)
        case atStart => exact ⟨0, v, rfl, by omega, HL1.out⟩
        case round =>
          obtain ⟨c, v2, rfl, hc, hL⟩ := hrel
          have HL2 := hid hL
          have HI2 := hid (HI.out.kp hL.kp (by simpa using hqi))
          have t2 := HI2.out.cell 2
          clear hL HL1
          by_cases hgc : c < W
          · have e2 : decide ((c : Int) < W) = true := decide_eq_true (by omega)
            have hsj := HSJ.out j hgo
            obtain ⟨sj, hsj2⟩ : ∃ sj, S * j = sj := ⟨_, rfl⟩
            rw [hsj2] at hsj
            have p1 : (S : Int) * (j : Int) = (sj : Int) := by rw [← hsj2, Int.natCast_mul]
            obtain ⟨P, hP⟩ : ∃ P, O + sj + 4 * c = P := ⟨_, rfl⟩
            have hPb : P ≤ 65536 := by omega
            have HPT : Hid (ldP B O S W fm (j * W + c) = lod (wd B (P : Int) : Nat) fm) := by
              rw [Hid, ldP_at hgc, hsj2, hP]
            obtain ⟨k, hkk⟩ : ∃ k, j * W + c = k := ⟨_, rfl⟩
            have hkN := hIL.out j c hgo hgc
            have HKK : Hid (j * W + (c + 1) = k + 1) := by rw [Hid, ← hkk]; omega
            rw [hkk] at HL2 HPT hkN
            have hl9 : (ldL B O S W fm k).length = k := ldL_length
            have HD2 := hid (HD.out.kept HL2.out.kp (by simpa using HDQ.out.1) (fun k x j h1 h2 => by simpa using HDQ.out.2 k x j h1 h2))
            have g1 : IntKind.i64.wrap (sj : Int) = (sj : Int) := by rw [IntKind.wrap_i64]; omega
            have g2 : IntKind.i64.wrap ((O : Int) + (sj : Int)) = (O : Int) + (sj : Int) := by rw [IntKind.wrap_i64]; omega
            have g3 : IntKind.i64.wrap (4 * (c : Int)) = 4 * (c : Int) := by rw [IntKind.wrap_i64]; omega
            have g4 : IntKind.i64.wrap ((O : Int) + (sj : Int) + 4 * (c : Int)) = (P : Int) := by rw [IntKind.wrap_i64]; omega
            clear hsj2 hkk
            go_upto_region 11 with fail
            clear t2
            have HW : Hid (RowKit.Below wr.heap.size wr wr.drew) := (Below.refl _ _).drew
            refine wp_region_gate_drew (g := 22) (S := fun x => Bk x w.heap.size 23 #[.int .i64 key, .int .i64 O, .int .i64 W, .int .i64 H, .int .i64 S, .int .i64 fm] ∧ Bk x q 47 #[.int .i64 id, .int .i64 W, .int .i64 H, v2]) (by kernel_rfl) ?hh (fun hHeld => ?_)
            case hh => exact (⟨⟨HI2.out.obj⟩, ⟨HL2.out.bk.obj⟩⟩)
            generalize World.drew _ = W0 at hHeld HW ⊢
            try dsimp only at hHeld
            refine wpAnyG_take (i := 0) (v := ?_) rfl (by kernel_rfl) (by kernel_rfl) (by kernel_rfl) (by kernel_rfl) (fun _ _ _ h => h) (Or.inl ⟨by kernel_rfl, ?hy0⟩) (by assumption) ?_
            case hy0 => (intro wI hSw; (try dsimp only at hSw); have k0 := hSw.1.cell 0; have k1 := hSw.1.cell 1; have k4 := hSw.1.cell 4; have k5 := hSw.1.cell 5; have x3 := hSw.2.cell 3; go_simp; try with_reducible rfl)
            try simp only [Act.put, List.getElem_toArray, List.getElem_cons_zero, List.setIfInBounds_toArray, List.set_cons_zero, List.set_cons_succ]
            refine wpAnyG_take (i := 1) (v := ?_) rfl (by kernel_rfl) (by kernel_rfl) (by kernel_rfl) (by kernel_rfl) (fun _ _ _ h => h) (Or.inl ⟨by kernel_rfl, ?hy1⟩) (by assumption) ?_
            case hy1 => (intro wI hSw; (try dsimp only at hSw); have k0 := hSw.1.cell 0; have k1 := hSw.1.cell 1; have k4 := hSw.1.cell 4; have k5 := hSw.1.cell 5; have x3 := hSw.2.cell 3; go_simp; try with_reducible rfl)
            try simp only [Act.put, List.getElem_toArray, List.getElem_cons_zero, List.getElem_cons_succ, List.setIfInBounds_toArray, List.set_cons_zero, List.set_cons_succ]
            refine wpAnyG_take (i := 2) (v := ?_) rfl (by kernel_rfl) (by kernel_rfl) (by kernel_rfl) (by kernel_rfl) (fun _ _ _ h => h) (Or.inl ⟨by kernel_rfl, ?hy2⟩) (by assumption) ?_
            case hy2 => (intro wI hSw; (try dsimp only at hSw); have k0 := hSw.1.cell 0; have k1 := hSw.1.cell 1; have k4 := hSw.1.cell 4; have k5 := hSw.1.cell 5; have x3 := hSw.2.cell 3; go_simp; try with_reducible rfl)
            try simp only [Act.put, List.getElem_toArray, List.getElem_cons_zero, List.getElem_cons_succ, List.setIfInBounds_toArray, List.set_cons_zero, List.set_cons_succ]
            refine wpAnyG_take (i := 3) (v := ?_) rfl (by kernel_rfl) (by kernel_rfl) (by kernel_rfl) (by kernel_rfl) (fun _ _ _ h => h) (Or.inl ⟨by kernel_rfl, ?hy3⟩) (by assumption) ?_
            case hy3 => (intro wI hSw; (try dsimp only at hSw); have k0 := hSw.1.cell 0; have k1 := hSw.1.cell 1; have k4 := hSw.1.cell 4; have k5 := hSw.1.cell 5; have x3 := hSw.2.cell 3; go_simp; try with_reducible rfl)
            try simp only [Act.put, List.getElem_toArray, List.getElem_cons_zero, List.getElem_cons_succ, List.setIfInBounds_toArray, List.set_cons_zero, List.set_cons_succ]
            refine wpAnyG_take (i := 4) (v := ?_) rfl (by kernel_rfl) (by kernel_rfl) (by kernel_rfl) (by kernel_rfl) (fun _ _ _ h => h) (Or.inl ⟨by kernel_rfl, ?hy4⟩) (by assumption) ?_
            case hy4 => (intro wI hSw; (try dsimp only at hSw); have k0 := hSw.1.cell 0; have k1 := hSw.1.cell 1; have k4 := hSw.1.cell 4; have k5 := hSw.1.cell 5; have x3 := hSw.2.cell 3; go_simp; try with_reducible rfl)
            try simp only [Act.put, List.getElem_toArray, List.getElem_cons_zero, List.getElem_cons_succ, List.setIfInBounds_toArray, List.set_cons_zero, List.set_cons_succ]
            refine wpAnyG_take (i := 5) (v := ?_) rfl (by kernel_rfl) (by kernel_rfl) (by kernel_rfl) (by kernel_rfl) (fun _ _ _ h => h) (Or.inl ⟨by kernel_rfl, ?hy5⟩) (by assumption) ?_
            case hy5 => (intro wI hSw; (try dsimp only at hSw); have k0 := hSw.1.cell 0; have k1 := hSw.1.cell 1; have k4 := hSw.1.cell 4; have k5 := hSw.1.cell 5; have x3 := hSw.2.cell 3; go_simp; try with_reducible rfl)
            try simp only [Act.put, List.getElem_toArray, List.getElem_cons_zero, List.getElem_cons_succ, List.setIfInBounds_toArray, List.set_cons_zero, List.set_cons_succ]
            refine wpAnyG_take (i := 6) (v := ?_) rfl (by kernel_rfl) (by kernel_rfl) (by kernel_rfl) (by kernel_rfl) (fun _ _ _ h => h) (Or.inl ⟨by kernel_rfl, ?hy6⟩) (by assumption) ?_
            case hy6 => (intro wI hSw; (try dsimp only at hSw); have k0 := hSw.1.cell 0; have k1 := hSw.1.cell 1; have k4 := hSw.1.cell 4; have k5 := hSw.1.cell 5; have x3 := hSw.2.cell 3; go_simp; try with_reducible rfl)
            try simp only [Act.put, List.getElem_toArray, List.getElem_cons_zero, List.getElem_cons_succ, List.setIfInBounds_toArray, List.set_cons_zero, List.set_cons_succ]
            refine wpAnyG_take (i := 7) (v := ?_) rfl (by kernel_rfl) (by kernel_rfl) (by kernel_rfl) (by kernel_rfl) (fun _ _ _ h => h) (Or.inl ⟨by kernel_rfl, ?hy7⟩) (by assumption) ?_
            case hy7 => (intro wI hSw; (try dsimp only at hSw); have k0 := hSw.1.cell 0; have k1 := hSw.1.cell 1; have k4 := hSw.1.cell 4; have k5 := hSw.1.cell 5; have x3 := hSw.2.cell 3; go_simp; try with_reducible rfl)
            try simp only [Act.put, List.getElem_toArray, List.getElem_cons_zero, List.getElem_cons_succ, List.setIfInBounds_toArray, List.set_cons_zero, List.set_cons_succ]
            refine wpAnyG_take (i := 8) (v := ?_) rfl (by kernel_rfl) (by kernel_rfl) (by kernel_rfl) (by kernel_rfl) (fun _ _ _ h => h) (Or.inl ⟨by kernel_rfl, ?hy8⟩) (by assumption) ?_
            case hy8 => (intro wI hSw; (try dsimp only at hSw); have k0 := hSw.1.cell 0; have k1 := hSw.1.cell 1; have k4 := hSw.1.cell 4; have k5 := hSw.1.cell 5; have x3 := hSw.2.cell 3; go_simp; try with_reducible rfl)
            try simp only [Act.put, List.getElem_toArray, List.getElem_cons_zero, List.getElem_cons_succ, List.setIfInBounds_toArray, List.set_cons_zero, List.set_cons_succ]
            refine wpAnyG_take (i := 9) (v := ?_) rfl (by kernel_rfl) (by kernel_rfl) (by kernel_rfl) (by kernel_rfl) (fun _ _ _ h => h) (Or.inl ⟨by kernel_rfl, ?hy9⟩) (by assumption) ?_
            case hy9 => (intro wI hSw; (try dsimp only at hSw); have k0 := hSw.1.cell 0; have k1 := hSw.1.cell 1; have k4 := hSw.1.cell 4; have k5 := hSw.1.cell 5; have x3 := hSw.2.cell 3; go_simp; try with_reducible rfl)
            try simp only [Act.put, List.getElem_toArray, List.getElem_cons_zero, List.getElem_cons_succ, List.setIfInBounds_toArray, List.set_cons_zero, List.set_cons_succ]
            refine wpAnyG_take (i := 10) (v := ?_) rfl (by kernel_rfl) (by kernel_rfl) (by kernel_rfl) (by kernel_rfl) (fun _ _ _ h => h) (Or.inl ⟨by kernel_rfl, ?hy10⟩) (by assumption) ?_
            case hy10 => (intro wI hSw; (try dsimp only at hSw); have k0 := hSw.1.cell 0; have k1 := hSw.1.cell 1; have k4 := hSw.1.cell 4; have k5 := hSw.1.cell 5; have x3 := hSw.2.cell 3; go_simp; try with_reducible rfl)
            try simp only [Act.put, List.getElem_toArray, List.getElem_cons_zero, List.getElem_cons_succ, List.setIfInBounds_toArray, List.set_cons_zero, List.set_cons_succ]
            refine wpAnyG_take (i := 11) (v := ?_) rfl (by kernel_rfl) (by kernel_rfl) (by kernel_rfl) (by kernel_rfl) (fun _ _ _ h => h) (Or.inl ⟨by kernel_rfl, ?hy11⟩) (by assumption) ?_
            case hy11 => (intro wI hSw; (try dsimp only at hSw); have k0 := hSw.1.cell 0; have k1 := hSw.1.cell 1; have k4 := hSw.1.cell 4; have k5 := hSw.1.cell 5; have x3 := hSw.2.cell 3; go_simp; try with_reducible rfl)
            try simp only [Act.put, List.getElem_toArray, List.getElem_cons_zero, List.getElem_cons_succ, List.setIfInBounds_toArray, List.set_cons_zero, List.set_cons_succ]
            refine wpAnyG_take (i := 12) (v := ?_) rfl (by kernel_rfl) (by kernel_rfl) (by kernel_rfl) (by kernel_rfl) (fun _ _ _ h => h) (Or.inl ⟨by kernel_rfl, ?hy12⟩) (by assumption) ?_
            case hy12 => (intro wI hSw; (try dsimp only at hSw); have k0 := hSw.1.cell 0; have k1 := hSw.1.cell 1; have k4 := hSw.1.cell 4; have k5 := hSw.1.cell 5; have x3 := hSw.2.cell 3; go_simp; try with_reducible rfl)
            try simp only [Act.put, List.getElem_toArray, List.getElem_cons_zero, List.getElem_cons_succ, List.setIfInBounds_toArray, List.set_cons_zero, List.set_cons_succ]
            refine wpAnyG_take (i := 13) (v := ?_) rfl (by kernel_rfl) (by kernel_rfl) (by kernel_rfl) (by kernel_rfl) (fun _ _ _ h => h) (Or.inl ⟨by kernel_rfl, ?hy13⟩) (by assumption) ?_
            case hy13 => (intro wI hSw; (try dsimp only at hSw); have k0 := hSw.1.cell 0; have k1 := hSw.1.cell 1; have k4 := hSw.1.cell 4; have k5 := hSw.1.cell 5; have x3 := hSw.2.cell 3; go_simp; try with_reducible rfl)
            try simp only [Act.put, List.getElem_toArray, List.getElem_cons_zero, List.getElem_cons_succ, List.setIfInBounds_toArray, List.set_cons_zero, List.set_cons_succ]
            refine wpAnyG_take (i := 14) (v := ?_) rfl (by kernel_rfl) (by kernel_rfl) (by kernel_rfl) (by kernel_rfl) (fun _ _ _ h => h) (Or.inl ⟨by kernel_rfl, ?hy14⟩) (by assumption) ?_
            case hy14 => (intro wI hSw; (try dsimp only at hSw); have k0 := hSw.1.cell 0; have k1 := hSw.1.cell 1; have k4 := hSw.1.cell 4; have k5 := hSw.1.cell 5; have x3 := hSw.2.cell 3; go_simp; try with_reducible rfl)
            try simp only [Act.put, List.getElem_toArray, List.getElem_cons_zero, List.getElem_cons_succ, List.setIfInBounds_toArray, List.set_cons_zero, List.set_cons_succ]
            refine wpAnyG_take (i := 16) (v := ?_) rfl (by kernel_rfl) (by kernel_rfl) (by kernel_rfl) (by kernel_rfl) (fun _ _ _ h => h) (Or.inl ⟨by kernel_rfl, ?hy16⟩) (by assumption) ?_
            case hy16 => (intro wI hSw; (try dsimp only at hSw); have k0 := hSw.1.cell 0; have k1 := hSw.1.cell 1; have k4 := hSw.1.cell 4; have k5 := hSw.1.cell 5; have x3 := hSw.2.cell 3; go_simp; try with_reducible rfl)
            try simp only [Act.put, List.getElem_toArray, List.getElem_cons_zero, List.getElem_cons_succ, List.setIfInBounds_toArray, List.set_cons_zero, List.set_cons_succ]
            refine wpAnyG_take (i := 17) (v := ?_) rfl (by kernel_rfl) (by kernel_rfl) (by kernel_rfl) (by kernel_rfl) (fun _ _ _ h => h) (Or.inl ⟨by kernel_rfl, ?hy17⟩) (by assumption) ?_
            case hy17 => (intro wI hSw; (try dsimp only at hSw); have k0 := hSw.1.cell 0; have k1 := hSw.1.cell 1; have k4 := hSw.1.cell 4; have k5 := hSw.1.cell 5; have x3 := hSw.2.cell 3; go_simp; try with_reducible rfl)
            try simp only [Act.put, List.getElem_toArray, List.getElem_cons_zero, List.getElem_cons_succ, List.setIfInBounds_toArray, List.set_cons_zero, List.set_cons_succ]
            refine wpAnyG_ready (rs := [15]) (by kernel_rfl) (by simp) ?_
            refine AllReadyG.cons rfl (fun K hK => ?_) AllReadyG.nil
            go_simp
            go_wp2_with fail
            refine (rword_any (HD2.out.on HW.out) HAG.out key (P : Int) (by omega)).mono ?_
            rintro e uu ⟨rfl, hu2⟩
            obtain rfl := hu2.symm
            rw [HB.out]
            refine hK.out _ _ hHeld (fun _ => ?_)
            clear hK K
            try simp only [Act.put, List.getElem_toArray, List.getElem_cons_zero, List.getElem_cons_succ, List.setIfInBounds_toArray, List.set_cons_zero, List.set_cons_succ]
            refine wpAnyG_ready (rs := [18]) (by kernel_rfl) (by simp) ?_
            refine AllReadyG.cons rfl (fun K hK => ?_) AllReadyG.nil
            go_simp
            go_wp2_with fail
            refine (rload_any _ fm (wd_col B P) hf _).mono ?_
            rintro e uu ⟨rfl, hu2⟩
            obtain rfl := hu2.symm
            rw [← HPT.out]
            refine hK.out _ _ hHeld (fun _ => ?_)
            clear hK K
            try simp only [Act.put, List.getElem_toArray, List.getElem_cons_zero, List.getElem_cons_succ, List.setIfInBounds_toArray, List.set_cons_zero, List.set_cons_succ]
            refine wpAnyG_ready (rs := [19]) (by kernel_rfl) (by simp) ?_
            refine AllReadyG.cons rfl (fun K hK => ?_) AllReadyG.nil
            have hb9 := bel_new W0 (.cells #[.int .u32 (ldP B O S W fm k)] 58)
            have HS9 := hid (src1W W0 (ldP B O S W fm k))
            have HW9 := hid (Below.on HW.out hb9)
            have HO9 := hid (ownsRow_below HL2.out.own HW9.out)
            have hH9 := And.intro (hHeld.1.on hb9) (hHeld.2.on hb9)
            go_simp
            refine hK.out _ _ hH9 (fun _ => ?_)
            clear hK K hHeld hb9
            have hHeld := hH9
            clear hH9
            try simp only [Act.put, List.getElem_toArray, List.getElem_cons_zero, List.getElem_cons_succ, List.setIfInBounds_toArray, List.set_cons_zero, List.set_cons_succ]
            refine wpAnyG_ready (rs := [20]) (by kernel_rfl) (by simp) ?_
            refine AllReadyG.cons rfl (fun K hK => ?_) AllReadyG.nil
            refine step_appP _ (by kernel_rfl) (.tmp 48) (.tmp 66) 41 41 rfl U.heap.size 58 i0 (.int .u32 0) 1 4 Tryd.underlying41 hi hz0 hz1 hz2 rfl _ _ _ (by simp [Act.eval]) HO9.out _ _ _ (by simp [Act.eval]) HS9.out (by simp only [maxLen]; omega) (fits4 (by omega)) (by have h1 := HL2.out.kp.size; have h2 := HW9.out.size; omega) ?_
            intro v6 W20 o6 g6 _
            obtain ⟨a6, c6, rfl⟩ := own_shape o6
            have hH6 := And.intro (hHeld.1.kp (kp_of_grown g6) (fun hm => by have h2 : v2.ownBlock = some w.heap.size := (by simpa using hm); have := (HL2.out.own.lt _ h2).1; omega)) (hHeld.2.kp (kp_of_grown g6) (fun hm => HL2.out.ap (by simpa using hm)))
            have HM6 := hid (HL2.out.more HW9.out ldP_col o6 g6)
            clear o6 g6 HO9 HS9 HW9
            refine hK.out _ _ hH6 (fun _ => ?_)
            clear hK K hHeld
            have hHeld := hH6
            clear hH6
            try simp only [Act.put, List.getElem_toArray, List.getElem_cons_zero, List.getElem_cons_succ, List.setIfInBounds_toArray, List.set_cons_zero, List.set_cons_succ]
            refine wpAnyG_take (i := 21) (v := ?_) rfl (by kernel_rfl) (by kernel_rfl) (by kernel_rfl) (by kernel_rfl) (fun _ _ _ h => h) (Or.inl ⟨by kernel_rfl, ?hy21⟩) (by assumption) ?_
            case hy21 => (intro wI hSw; (try dsimp only at hSw); have k0 := hSw.1.cell 0; have k1 := hSw.1.cell 1; have k4 := hSw.1.cell 4; have k5 := hSw.1.cell 5; have x3 := hSw.2.cell 3; go_simp; try with_reducible rfl)
            try simp only [Act.put, List.getElem_toArray, List.getElem_cons_zero, List.getElem_cons_succ, List.setIfInBounds_toArray, List.set_cons_zero, List.set_cons_succ]
            have hG := hHeld
            clear hHeld
            have hHeld : True := trivial
            refine wpAnyG_gateOp rfl (by kernel_rfl) (fun K hK => ?_)
            have fz := hG.2.fz
            have c3 := hG.2.cell 3
            go_simp
            refine hK.out _ _ trivial (fun _ => ?_)
            clear hK K fz c3 hG
            try simp only [Act.put, List.getElem_toArray, List.getElem_cons_zero, List.getElem_cons_succ, List.setIfInBounds_toArray, List.set_cons_zero, List.set_cons_succ]
            refine wpAnyH_done (by kernel_rfl) ?_ _
            rw [← ldL_succ, hl9] at HM6
            go_wp2
            go_roundw
            case rel => exact ⟨c + 1, _, by go_num, by omega, by rw [HKK.out]; exact HM6.out⟩
            case measure => simp [numOf]; omega
          · have e2 : decide ((c : Int) < W) = false := decide_eq_false (by omega)
            obtain rfl : W = c := by omega
            go_wp2
            go_roundw
            case rel => exact ⟨j + 1, v2, by go_num, by omega, by rw [Nat.add_mul, Nat.one_mul]; exact HL2.out⟩
            case measure => simp [numOf]; omega
      · have e1 : decide ((j : Int) < H) = false := decide_eq_false (by omega)
        obtain rfl : H = j := by omega
        rw [HNN.out] at HL1
        obtain ⟨a9, c9, rfl, hR9, hn9⟩ := rdw_of_owns HL1.out.own HL1.out.col
        have hl9 : (ldL B O S W fm N).length = N := ldL_length
        rw [hl9] at hR9 HL1
        have HM9 := hid (HM.out.kp HL1.out.kp (by simp only [List.mem_cons, List.not_mem_nil, or_false]; omega))
        have HB9 := hid (bel_kp HBU.out HL1.out.kp HBU.out.size (fun k hk => by simp only [List.mem_cons, List.not_mem_nil, or_false] at hk; omega))
        have HR9 := hid hR9
        have HN9 : Hid (∀ y, a9 = some y → U.heap.size ≤ y.block) := fun y hy => (hn9 y hy).1
        have hqm : w.heap.size + 1 ≠ q := by omega
        have f0 := HM9.out.fz
        have m0 := HM9.out.cell 0
        have m1 := HM9.out.cell 1
        have m2 := HM9.out.cell 2
        have m3 := HM9.out.cell 3
        have x0 := HL1.out.bk.cell 0
        have x1 := HL1.out.bk.cell 1
        have x2 := HL1.out.bk.cell 2
        have x3 := HL1.out.bk.cell 3
        have HG : Hid (∀ v0 v1 v2 v3 V, V = ((((wr.setCell ⟨w.heap.size + 1, 0, none⟩ v0).setCell ⟨w.heap.size + 1, 1, none⟩ v1).setCell ⟨w.heap.size + 1, 2, none⟩ v2).setCell ⟨w.heap.size + 1, 3, none⟩ v3) → R (.returned (.agg #[.int .i64 id, .int .i64 W, .int .i64 H, .slice a9 N c9])) V) := fun v0 v1 v2 v3 V hV => by
          have hk : Kp [w.heap.size + 1] wr V := by
            rw [hV]
            exact ((((Kp.refl [w.heap.size + 1] wr).set ⟨w.heap.size + 1, 0, none⟩ (by simp) v0).set ⟨w.heap.size + 1, 1, none⟩ (by simp) v1).set ⟨w.heap.size + 1, 2, none⟩ (by simp) v2).set ⟨w.heap.size + 1, 3, none⟩ (by simp) v3
          refine HF.out V a9 c9 (bel_kp HB9.out hk HB9.out.size fun k hk => ?_) (HR9.out.kp hk fun _ x hx hm => ?_) (fun y hy => by have := HN9.out y hy; omega)
          · rw [List.mem_singleton.1 hk]
            omega
          · have h1 := HN9.out x hx
            have h2 := List.mem_singleton.1 hm
            omega
        clear hR9 hn9
        go_wp2
        refine bodyPost_ret (results_cell_row rfl _ _ (w.heap.size + 1) _ _ _ _ rfl ((((HM9.out.set 0 _).set 1 _).set 2 _).set 3 _).obj Tryd.underlying47 rfl info_rim1) rfl ?_
        exact HG.out _ _ _ _ _ rfl
end Go.Proofs.YtpcepgecbdjdfaaDoor
