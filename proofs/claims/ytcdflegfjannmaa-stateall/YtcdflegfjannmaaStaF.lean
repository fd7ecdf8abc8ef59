/- States in memory: few, None, Same, First; the document's None. Written by state/mk_staf.py. -/
import Derived.Test.YtcdflegfjannmaaStaE
namespace Go.Proofs.Ytcdflegfjannmaa
open Go Go.RowKit

theorem ret_bool {a b : Bool} (h : a = b) : Ending.returned (.bool a) = Ending.returned (.bool b) := by rw [h]
/-- A slice with what it reads. -/
structure Sl where
  a : Option Addr
  n : Nat
  c : Nat
  l : List (List Int)
/-- A state's value, with what its slices read. -/
structure Sx where
  at_ : Bool
  buf : Int
  dm : Sl
  fr : Sl
  inp : Bool
  all : Bool
  rg : Sl
  ord : Bool
  od : Sl
  pl : Sl
def Sx.q (x : Sx) : Sq := ⟨x.at_, x.buf, x.dm.l, x.fr.l, x.inp, x.all, x.rg.l, x.ord, x.od.l, x.pl.l⟩
structure Sx.Ok (w : World) (x : Sx) : Prop where
  dm : RdM 4 w x.dm.a x.dm.n x.dm.c x.dm.l
  fr : RdM 1 w x.fr.a x.fr.n x.fr.c x.fr.l
  rg : RdM 4 w x.rg.a x.rg.n x.rg.c x.rg.l
  od : RdM 1 w x.od.a x.od.n x.od.c x.od.l
  pl : RdM 3 w x.pl.a x.pl.n x.pl.c x.pl.l
theorem Sx.Ok.on {w u : World} {x : Sx} (h : x.Ok w) (hb : Below w.heap.size w u) : x.Ok u := ⟨h.dm.on hb, h.fr.on hb, h.rg.on hb, h.od.on hb, h.pl.on hb⟩
/-- Nothing at all. -/
def sl0 : Sl := ⟨none, 0, 0, []⟩
def sx0 : Sx := ⟨false, 0, sl0, sl0, false, false, sl0, false, sl0, sl0⟩
theorem sx0_q : sx0.q = sq0 := rfl
theorem sx0_ok (w : World) : sx0.Ok w := ⟨RdM.nil _ _, RdM.nil _ _, RdM.nil _ _, RdM.nil _ _, RdM.nil _ _⟩
/-- How long its slices are. -/
def Sx.Len (x : Sx) (k : Nat) : Prop := x.dm.n ≤ k ∧ x.fr.n ≤ k ∧ x.rg.n ≤ k ∧ x.od.n ≤ k ∧ x.pl.n ≤ k

/-- A state in a block. -/
structure Bs (u : World) (p : Nat) (x : Sx) : Prop where
  bk : Bk u p 26 #[.bool x.at_, .int .i64 x.buf, .slice x.dm.a x.dm.n x.dm.c, .slice x.fr.a x.fr.n x.fr.c, .bool x.inp, .bool x.all, .slice x.rg.a x.rg.n x.rg.c, .bool x.ord, .slice x.od.a x.od.n x.od.c, .slice x.pl.a x.pl.n x.pl.c]
theorem Bs.all {u : World} {p : Nat} {x : Sx} (h : Bs u p x) : u.cell? ⟨p, 0, none⟩ = some (.bool x.at_) ∧ u.cell? ⟨p, 1, none⟩ = some (.int .i64 x.buf) ∧ u.cell? ⟨p, 2, none⟩ = some (.slice x.dm.a x.dm.n x.dm.c) ∧ u.cell? ⟨p, 3, none⟩ = some (.slice x.fr.a x.fr.n x.fr.c) ∧ u.cell? ⟨p, 4, none⟩ = some (.bool x.inp) ∧ u.cell? ⟨p, 5, none⟩ = some (.bool x.all) ∧ u.cell? ⟨p, 6, none⟩ = some (.slice x.rg.a x.rg.n x.rg.c) ∧ u.cell? ⟨p, 7, none⟩ = some (.bool x.ord) ∧ u.cell? ⟨p, 8, none⟩ = some (.slice x.od.a x.od.n x.od.c) ∧ u.cell? ⟨p, 9, none⟩ = some (.slice x.pl.a x.pl.n x.pl.c) :=
  ⟨h.bk.cell 0, h.bk.cell 1, h.bk.cell 2, h.bk.cell 3, h.bk.cell 4, h.bk.cell 5, h.bk.cell 6, h.bk.cell 7, h.bk.cell 8, h.bk.cell 9⟩
theorem Bs.lt {u : World} {p : Nat} {x : Sx} (h : Bs u p x) : p < u.heap.size := h.bk.lt
theorem Bs.fz {u : World} {p : Nat} {x : Sx} (h : Bs u p x) (k : Nat) : u.frozen? ⟨p, k, none⟩ = false := h.bk.fz k
theorem Bs.on {u v : World} {p : Nat} {x : Sx} (h : Bs u p x) (hb : Below u.heap.size u v) : Bs v p x := ⟨h.bk.on hb⟩
theorem Bs.other {u : World} {p q : Nat} {x : Sx} (h : Bs u p x) (hn : p ≠ q) (k : Nat) (v : Value) : Bs (u.setCell ⟨q, k, none⟩ v) p x := ⟨h.bk.other hn k v⟩
theorem bs_new (w : World) (x : Sx) : Bs (w.alloc (.cells #[.bool x.at_, .int .i64 x.buf, .slice x.dm.a x.dm.n x.dm.c, .slice x.fr.a x.fr.n x.fr.c, .bool x.inp, .bool x.all, .slice x.rg.a x.rg.n x.rg.c, .bool x.ord, .slice x.od.a x.od.n x.od.c, .slice x.pl.a x.pl.n x.pl.c] 26)) w.heap.size x := ⟨bk_new w _ _⟩
/-- What two boxes hold behind a call. -/
theorem sbox1 {w u : World} (x : Sx) (hb : Below (w.alloc (.cells #[.bool x.at_, .int .i64 x.buf, .slice x.dm.a x.dm.n x.dm.c, .slice x.fr.a x.fr.n x.fr.c, .bool x.inp, .bool x.all, .slice x.rg.a x.rg.n x.rg.c, .bool x.ord, .slice x.od.a x.od.n x.od.c, .slice x.pl.a x.pl.n x.pl.c] 26)).heap.size (w.alloc (.cells #[.bool x.at_, .int .i64 x.buf, .slice x.dm.a x.dm.n x.dm.c, .slice x.fr.a x.fr.n x.fr.c, .bool x.inp, .bool x.all, .slice x.rg.a x.rg.n x.rg.c, .bool x.ord, .slice x.od.a x.od.n x.od.c, .slice x.pl.a x.pl.n x.pl.c] 26)) u) : Bs u w.heap.size x ∧ Below w.heap.size w u := ⟨(bs_new w x).on hb, Below.on (bel_new _ _) hb⟩
theorem sbox2 {w u : World} (x y : Sx) (hb : Below ((w.alloc (.cells #[.bool x.at_, .int .i64 x.buf, .slice x.dm.a x.dm.n x.dm.c, .slice x.fr.a x.fr.n x.fr.c, .bool x.inp, .bool x.all, .slice x.rg.a x.rg.n x.rg.c, .bool x.ord, .slice x.od.a x.od.n x.od.c, .slice x.pl.a x.pl.n x.pl.c] 26)).alloc (.cells #[.bool y.at_, .int .i64 y.buf, .slice y.dm.a y.dm.n y.dm.c, .slice y.fr.a y.fr.n y.fr.c, .bool y.inp, .bool y.all, .slice y.rg.a y.rg.n y.rg.c, .bool y.ord, .slice y.od.a y.od.n y.od.c, .slice y.pl.a y.pl.n y.pl.c] 26)).heap.size ((w.alloc (.cells #[.bool x.at_, .int .i64 x.buf, .slice x.dm.a x.dm.n x.dm.c, .slice x.fr.a x.fr.n x.fr.c, .bool x.inp, .bool x.all, .slice x.rg.a x.rg.n x.rg.c, .bool x.ord, .slice x.od.a x.od.n x.od.c, .slice x.pl.a x.pl.n x.pl.c] 26)).alloc (.cells #[.bool y.at_, .int .i64 y.buf, .slice y.dm.a y.dm.n y.dm.c, .slice y.fr.a y.fr.n y.fr.c, .bool y.inp, .bool y.all, .slice y.rg.a y.rg.n y.rg.c, .bool y.ord, .slice y.od.a y.od.n y.od.c, .slice y.pl.a y.pl.n y.pl.c] 26)) u) : Bs u w.heap.size x ∧ Bs u (w.heap.size + 1) y ∧ Below w.heap.size w u := by
  obtain ⟨h1, h2⟩ := sbox1 y hb
  obtain ⟨h3, h4⟩ := sbox1 x h2
  rw [size_new] at h1
  exact ⟨h3, h1, h4⟩
theorem infoSt : (Try.prog.info? 26).map (·.size) = some 10 := by kernel_rfl

/-- Whether two states are the same. -/
def sm (a b : Sq) : Bool := a.at_ == b.at_ && (a.buf == b.buf && (a.inp == b.inp && (a.all == b.all && (a.ord == b.ord && (leqs a.dm b.dm && (leqs a.fr b.fr && (leqs a.rg b.rg && (leqs a.od b.od && leqs a.pl b.pl))))))))
theorem sm_same (a : Sq) : sm a a = true := by simp [sm, leqs_same]
theorem sm_eq (a b : Sq) : sm a b = (a.at_ == b.at_ && (a.buf == b.buf && (a.inp == b.inp && (a.all == b.all && (a.ord == b.ord && (leqs a.dm b.dm && (leqs a.fr b.fr && (leqs a.rg b.rg && (leqs a.od b.od && leqs a.pl b.pl))))))))) := rfl
theorem ise (n : Nat) (l : List (List Int)) (h : l.length = n) : l.isEmpty = ((n : Int) == 0) := by
  cases l with
  | nil => simp at h; subst h; rfl
  | cons x l =>
    simp only [List.length_cons] at h
    rw [← h, Bool.eq_iff_iff]
    simp
    omega

theorem few_eq {x : Sx} {w : World} (ok : x.Ok w) : few x.q = (decide ((x.dm.n : Int) ≤ 60) && (decide ((x.fr.n : Int) ≤ 60) && (decide ((x.rg.n : Int) ≤ 60) && (decide ((x.od.n : Int) ≤ 60) && decide ((x.pl.n : Int) ≤ 60))))) := by
  have hk : ∀ n : Nat, decide (n ≤ 60) = decide ((n : Int) ≤ 60) := fun n => decide_eq_decide.2 (by omega)
  simp only [few, Sx.q, ok.dm.len, ok.fr.len, ok.rg.len, ok.od.len, ok.pl.len, hk]
theorem few_len {x : Sx} {w : World} (ok : x.Ok w) (h : few x.q = true) : x.Len 60 := by
  rw [few_eq ok] at h
  simp only [Bool.and_eq_true, decide_eq_true_eq] at h
  unfold Sx.Len
  omega

set_option maxRecDepth 100000 in
set_option maxHeartbeats 1000000 in
theorem few_any (x : Sx) (w : World) (ok : x.Ok w) : Calls Try.prog 7 #[.agg #[.bool x.at_, .int .i64 x.buf, .slice x.dm.a x.dm.n x.dm.c, .slice x.fr.a x.fr.n x.fr.c, .bool x.inp, .bool x.all, .slice x.rg.a x.rg.n x.rg.c, .bool x.ord, .slice x.od.a x.od.n x.od.c, .slice x.pl.a x.pl.n x.pl.c]] w fun e w' => e = .returned (.bool (few x.q)) ∧ Below w.heap.size w w' := by
  have Ef := hid (few_eq ok)
  have s2 := ok.dm.small.1
  have s3 := ok.fr.small.1
  have s6 := ok.rg.small.1
  have s8 := ok.od.small.1
  have s9 := ok.pl.small.1
  clear ok
  go_enter Try.func7, Try.ntmps7
  cases h2 : (decide ((x.dm.n : Int) ≤ 60))
  · go_wp2
    go_ret
    exact ⟨ret_bool (by simp only [Ef.out, h2]; rfl), bel_new _ _⟩
  · cases h3 : (decide ((x.fr.n : Int) ≤ 60))
    · go_wp2
      go_ret
      exact ⟨ret_bool (by simp only [Ef.out, h2, h3]; rfl), bel_new _ _⟩
    · cases h6 : (decide ((x.rg.n : Int) ≤ 60))
      · go_wp2
        go_ret
        exact ⟨ret_bool (by simp only [Ef.out, h2, h3, h6]; rfl), bel_new _ _⟩
      · cases h8 : (decide ((x.od.n : Int) ≤ 60))
        · go_wp2
          go_ret
          exact ⟨ret_bool (by simp only [Ef.out, h2, h3, h6, h8]; rfl), bel_new _ _⟩
        · cases h9 : (decide ((x.pl.n : Int) ≤ 60))
          · go_wp2
            go_ret
            exact ⟨ret_bool (by simp only [Ef.out, h2, h3, h6, h8, h9]; rfl), bel_new _ _⟩
          · go_wp2
            go_ret
            exact ⟨ret_bool (by simp only [Ef.out, h2, h3, h6, h8, h9]; rfl), bel_new _ _⟩

theorem non_eq {x : Sx} {w : World} (ok : x.Ok w) : non x.q = (!x.at_ && (!x.inp && (!x.ord && (((x.dm.n : Int) == 0) && (((x.fr.n : Int) == 0) && ((x.pl.n : Int) == 0)))))) := by
  simp only [non, Sx.q, ise _ _ ok.dm.len, ise _ _ ok.fr.len, ise _ _ ok.pl.len]

set_option maxRecDepth 100000 in
set_option maxHeartbeats 1000000 in
theorem none_any (x : Sx) (w : World) (ok : x.Ok w) : Calls Try.prog 17 #[.agg #[.bool x.at_, .int .i64 x.buf, .slice x.dm.a x.dm.n x.dm.c, .slice x.fr.a x.fr.n x.fr.c, .bool x.inp, .bool x.all, .slice x.rg.a x.rg.n x.rg.c, .bool x.ord, .slice x.od.a x.od.n x.od.c, .slice x.pl.a x.pl.n x.pl.c]] w fun e w' => e = .returned (.bool (non x.q)) ∧ Below w.heap.size w w' := by
  have Ef := hid (non_eq ok)
  have s2 := ok.dm.small.1
  have s3 := ok.fr.small.1
  have s9 := ok.pl.small.1
  clear ok
  go_enter Try.func17, Try.ntmps17
  cases h0 : (x.at_)
  · cases h4 : (x.inp)
    · cases h7 : (x.ord)
      · cases h2 : ((x.dm.n : Int) == 0)
        · go_wp2
          go_ret
          exact ⟨ret_bool (by simp [Ef.out, h0, h4, h7, h2]), bel_new _ _⟩
        · cases h3 : ((x.fr.n : Int) == 0)
          · go_wp2
            go_ret
            exact ⟨ret_bool (by simp [Ef.out, h0, h4, h7, h2, h3]), bel_new _ _⟩
          · cases h9 : ((x.pl.n : Int) == 0)
            · go_wp2
              go_ret
              exact ⟨ret_bool (by simp [Ef.out, h0, h4, h7, h2, h3, h9]), bel_new _ _⟩
            · go_wp2
              go_ret
              exact ⟨ret_bool (by simp [Ef.out, h0, h4, h7, h2, h3, h9]), bel_new _ _⟩
      · go_wp2
        go_ret
        exact ⟨ret_bool (by simp [Ef.out, h0, h4, h7]), bel_new _ _⟩
    · go_wp2
      go_ret
      exact ⟨ret_bool (by simp [Ef.out, h0, h4]), bel_new _ _⟩
  · go_wp2
    go_ret
    exact ⟨ret_bool (by simp [Ef.out, h0]), bel_new _ _⟩

set_option maxRecDepth 100000 in
set_option maxHeartbeats 1000000 in
theorem rnone_any (x : Sx) (w : World) (ok : x.Ok w) : Calls Try.prog 18 #[.agg #[.bool x.at_, .int .i64 x.buf, .slice x.dm.a x.dm.n x.dm.c, .slice x.fr.a x.fr.n x.fr.c, .bool x.inp, .bool x.all, .slice x.rg.a x.rg.n x.rg.c, .bool x.ord, .slice x.od.a x.od.n x.od.c, .slice x.pl.a x.pl.n x.pl.c]] w fun e w' => e = .returned (.bool (non x.q)) ∧ Below w.heap.size w w' := by
  have Ef := hid (non_eq ok)
  have s2 := ok.dm.small.1
  have s3 := ok.fr.small.1
  have s9 := ok.pl.small.1
  clear ok
  go_enter Try.func18, Try.ntmps18
  cases h0 : (x.at_)
  · cases h2 : ((x.dm.n : Int) == 0)
    · go_wp2
      go_ret
      exact ⟨ret_bool (by simp [Ef.out, h0, h2]), bel_new _ _⟩
    · cases h3 : ((x.fr.n : Int) == 0)
      · go_wp2
        go_ret
        exact ⟨ret_bool (by simp [Ef.out, h0, h2, h3]), bel_new _ _⟩
      · cases h4 : (x.inp)
        · cases h7 : (x.ord)
          · cases h9 : ((x.pl.n : Int) == 0)
            · go_wp2
              go_ret
              exact ⟨ret_bool (by simp [Ef.out, h0, h2, h3, h4, h7, h9]), bel_new _ _⟩
            · go_wp2
              go_ret
              exact ⟨ret_bool (by simp [Ef.out, h0, h2, h3, h4, h7, h9]), bel_new _ _⟩
          · go_wp2
            go_ret
            exact ⟨ret_bool (by simp [Ef.out, h0, h2, h3, h4, h7]), bel_new _ _⟩
        · go_wp2
          go_ret
          exact ⟨ret_bool (by simp [Ef.out, h0, h2, h3, h4]), bel_new _ _⟩
  · go_wp2
    go_ret
    exact ⟨ret_bool (by simp [Ef.out, h0]), bel_new _ _⟩
end Go.Proofs.Ytcdflegfjannmaa
