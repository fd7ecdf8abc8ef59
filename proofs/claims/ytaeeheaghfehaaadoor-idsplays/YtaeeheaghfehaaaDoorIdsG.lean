/- The document's Add and Of; two lists of numbers held against one another. -/
import Derived.Test.YtaeeheaghfehaaaDoorIdsF
import Derived.BigQuiet
namespace Go.Proofs.YtaeeheaghfehaaaDoor
open Go Go.RowKit

set_option maxRecDepth 100000 in
theorem radd_any (base : Nat) (w : World) (q : Nat) (s : Int → Int × Int) (hT : Dt base w q s) (id f v : Int) :
    Calls Tryd.prog 15 #[.pointer (some ⟨q, 0, none⟩), .int .i64 id, .int .i64 f, .int .i64 v] w fun e w' => e = .returned (.int .i64 (addE s id f v : Nat)) ∧ Dt base w' q (addS s id f v) ∧ Kp [q] w w' := by
  by_cases ha : f < 1 ∨ 17 < f ∨ v < 1
  · have hE : addE s id f v = 1 := by rw [addE, if_pos ha]
    have HT : Hid (Dt base w q (addS s id f v) ∧ Kp [q] w w) := ⟨by rw [addS, hE, if_neg (by omega)]; exact hT, Kp.refl _ _⟩
    rw [hE]
    clear hT
    by_cases h1 : f < 1
    · have e1 : decide (f < 1) = true := decide_eq_true h1
      go_enter Tryd.func15, Tryd.ntmps15
      go_wp2
      go_ret
      exact ⟨rfl, HT.out⟩
    · have e1 : decide (f < 1) = false := decide_eq_false h1
      by_cases h2 : 17 < f
      · have e2 : decide (17 < f) = true := decide_eq_true h2
        go_enter Tryd.func15, Tryd.ntmps15
        go_wp2
        go_ret
        exact ⟨rfl, HT.out⟩
      · have e2 : decide (17 < f) = false := decide_eq_false h2
        have e3 : decide (v < 1) = true := decide_eq_true (by omega)
        go_enter Tryd.func15, Tryd.ntmps15
        go_wp2
        go_ret
        exact ⟨rfl, HT.out⟩
  · have e1 : decide (f < 1) = false := decide_eq_false (by omega)
    have e2 : decide (17 < f) = false := decide_eq_false (by omega)
    have e3 : decide (v < 1) = false := decide_eq_false (by omega)
    by_cases hk : id ≤ 1 ∨ 255 < id ∨ (s id).1 ≠ 0
    · have hE : addE s id f v = 5 := by rw [addE, if_neg ha, if_pos hk]
      have HT : Hid (Dt base w q (addS s id f v) ∧ Kp [q] w w) := ⟨by rw [addS, hE, if_neg (by omega)]; exact hT, Kp.refl _ _⟩
      rw [hE]
      by_cases h1 : id < 2
      · have e4 : decide (id < 2) = true := decide_eq_true h1
        clear hT
        go_enter Tryd.func15, Tryd.ntmps15
        go_wp2
        go_ret
        exact ⟨rfl, HT.out⟩
      · have e4 : decide (id < 2) = false := decide_eq_false h1
        by_cases h2 : 255 < id
        · have e5 : decide (255 < id) = true := decide_eq_true h2
          clear hT
          go_enter Tryd.func15, Tryd.ntmps15
          go_wp2
          go_ret
          exact ⟨rfl, HT.out⟩
        · have e5 : decide (255 < id) = false := decide_eq_false h2
          obtain ⟨i, rfl⟩ : ∃ i : Nat, id = i := ⟨id.toNat, by omega⟩
          have c0 := hT.even i (by omega)
          have hp := hT.gd.pos i
          have l0 := hT.lt
          have e6 : decide (0 < (s i).1) = true := decide_eq_true (by omega)
          clear hT
          go_enter Tryd.func15, Tryd.ntmps15
          go_wp2
          go_ret
          exact ⟨rfl, HT.out⟩
    · have hE : addE s id f v = 0 := by rw [addE, if_neg ha, if_neg hk]
      obtain ⟨i, rfl⟩ : ∃ i : Nat, id = i := ⟨id.toNat, by omega⟩
      have c0 := hT.even i (by omega)
      have c1 := hT.odd i (by omega)
      have l0 := hT.lt
      have f0 : ∀ j, w.frozen? ⟨q, j, none⟩ = false := Lib.frozen_of_heap hT.var
      rw [show (s i).1 = 0 by omega] at c0
      have e4 : decide ((i : Int) < 2) = false := decide_eq_false (by omega)
      have e5 : decide (255 < (i : Int)) = false := decide_eq_false (by omega)
      have HT : Hid (Dt base ((w.setCell ⟨q, i * 2, none⟩ (.int .i64 f)).setCell ⟨q, i * 2 + 1, none⟩ (.int .i64 v)) q (addS s i f v) ∧ Kp [q] w ((w.setCell ⟨q, i * 2, none⟩ (.int .i64 f)).setCell ⟨q, i * 2 + 1, none⟩ (.int .i64 v))) := by
        refine ⟨?_, kp_two _ _ _ _ _ _⟩
        rw [addS, hE, if_pos rfl]
        exact hT.set i (by omega) (f, v) (hT.gd.upd (by omega) (by simp only; omega))
      have hlt : 2 ≤ i ∧ i < 256 := by omega
      rw [hE]
      clear hT hk ha
      go_enter Tryd.func15, Tryd.ntmps15
      go_wp2
      go_ret
      exact ⟨rfl, HT.out⟩

/-- The document's list: of an interface, or (0) of all. -/
def rOf (s : Int → Int × Int) (face : Int) : List Int := (keysOf s).filter fun k => decide ((s k).1 = face ∨ face = 0)
def rOfU (s : Int → Int × Int) (face : Int) (j : Nat) : List Int := (idl.take j).filter fun k => decide ((s k).1 ≠ 0 ∧ ((s k).1 = face ∨ face = 0))

theorem rOf_eq (s : Int → Int × Int) (face : Int) : rOf s face = rOfU s face 255 := by
  rw [rOf, rOfU, keysOf, List.filter_filter, show idl.take 255 = idl from List.take_of_length_le (by rw [idl_len]; omega)]
  congr 1
  funext k
  rw [Bool.eq_iff_iff]
  simp [and_comm]
theorem rOf_zero (s : Int → Int × Int) : rOf s 0 = keysOf s := by
  rw [rOf, List.filter_eq_self]
  intro k _
  simp
theorem rOf_face (s : Int → Int × Int) {face : Int} (h : face ≠ 0) : rOf s face = ofOf s face := by
  rw [rOf, ofOf]
  congr 1
  funext k
  simp [h]
theorem ofOf_zero (s : Int → Int × Int) : ofOf s 0 = [] := by
  rw [ofOf, List.filter_eq_nil_iff]
  intro k hk
  rw [keysOf, List.mem_filter] at hk
  simpa using hk.2
theorem idl_at (j : Nat) (h : j < 255) : idl[j]? = some ((j : Int) + 1) := by
  rw [idl, List.getElem?_map, List.getElem?_range h]
  rfl

set_option maxRecDepth 100000 in
set_option maxHeartbeats 1000000 in
theorem rof_any (base : Nat) (w : World) (q : Nat) (s : Int → Int × Int) (hT : Dt base w q s) (face : Int) :
    Calls Tryd.prog 19 #[.pointer (some ⟨q, 0, none⟩), .int .i64 face] w fun e w' => ∃ v, e = .returned v ∧ w'.ownsRow w.heap.size 3 1 v (rOf s face).length ((rOf s face).map encZ) ∧ Below w.heap.size w w' := by
  obtain ⟨i0, hi, hz0, hz1, hz2⟩ := info_parts infoInt
  have HT := hid hT
  have HO : Hid (rOf s face = rOfU s face 255) := rOf_eq s face
  clear hT
  go_enter Tryd.func19, Tryd.ntmps19
  go_wp2
  go_loopw [5, 6] (fun v i wr => ∃ j k : Nat, i = .int .i64 k ∧ k = j + 1 ∧ j ≤ 255 ∧ wr.ownsRow w.heap.size 3 1 v (rOfU s face j).length ((rOfU s face j).map encZ) ∧ Below w.heap.size w wr)
    (fun _ i _ => 256 - (numOf i).toNat)
  case atStart => exact ⟨0, 1, rfl, rfl, by omega, by simpa [rOfU] using World.ownsRow_nil _ _ _ _, Below.refl _ _⟩
  case round =>
    obtain ⟨j, k, rfl, hk, hj, hr, hb⟩ := hrel
    by_cases hgo : j < 255
    · have e1 : decide ((k : Int) ≤ 255) = true := decide_eq_true (by omega)
      have hD := HT.out.on hb
      have c0 := hD.even k (by omega)
      have hp := hD.gd.pos k
      have l0 := hD.lt
      have HS := hid (take_succ_filter idl (fun k => decide ((s k).1 ≠ 0 ∧ ((s k).1 = face ∨ face = 0))) j _ (idl_at j hgo))
      have hlen : (rOfU s face j).length ≤ 255 := Nat.le_trans (List.length_filter_le _ _) (by rw [List.length_take]; omega)
      have HR := hid hr
      have HB := hid hb
      rw [show ((j : Int) + 1) = k by omega] at HS
      obtain ⟨F, hF⟩ : ∃ F, F = (s k).1 := ⟨_, rfl⟩
      rw [← hF] at hp c0 HS
      change Hid (rOfU s face (j + 1) = rOfU s face j ++ _) at HS
      have HK := hid hk
      have hk1 : 1 ≤ k ∧ k ≤ 255 := by omega
      have hb2 : k + 1 = j + 1 + 1 ∧ j + 1 ≤ 255 := by omega
      have HBB := hid hb2
      clear hr hb hD hF hk hb2
      generalize rOfU s face j = fl at HR HS hlen
      generalize hnx : rOfU s face (j + 1) = nx at HS
      by_cases hf : F ≠ 0 ∧ (F = face ∨ face = 0)
      · have HS2 : Hid (nx = fl ++ [(k : Int)]) := by rw [Hid, HS.out, if_pos (decide_eq_true hf)]
        have e2 : decide (0 < F) = true := decide_eq_true (by omega)
        have HA : Hid (∀ v' w', w'.ownsRow w.heap.size 3 1 v' (fl.length + 1) (fl.map encZ ++ [.int .i64 (k : Int)]) → (wr.alloc (.cells #[.int .i64 (k : Int)] 3)).grownBy w' u5.ownBlock → w'.ownsRow w.heap.size 3 1 v' nx.length (nx.map encZ) ∧ Below w.heap.size w w') := fun v' w' o g => by
          rw [HS2.out]
          refine ⟨by simpa using o, (HB.out.alloc HB.out.size _).grown g (by rw [World.size_alloc]; have := HB.out.size; omega) (fun k hk => (HR.out.lt k hk).1)⟩
        have HSR : Hid (Src Tryd.prog 1 41 (.slice (some ⟨wr.heap.size, 0, none⟩) 1 1) 1 [.int .i64 (k : Int)] (wr.alloc (.cells #[.int .i64 (k : Int)] 3))) :=
          Src.ofSlice (P := Tryd.prog) _ Tryd.underlying41 ⟨wr.heap.size, 0, none⟩ 1 1 [.int .i64 (k : Int)] rfl (fun q u hu => by
            match q, hu with
            | 0, hu => cases hu; simp [Addr.add]
            | q + 1, hu => simp at hu) (by simp [Value.oneCell'])
        have HOW := hid (HR.out.alloc (.cells #[.int .i64 (k : Int)] 3))
        have hsz2 : w.heap.size ≤ (wr.alloc (.cells #[.int .i64 (k : Int)] 3)).heap.size := by rw [World.size_alloc]; have := HB.out.size; omega
        clear HR HS HB
        by_cases h3 : F = face
        · have e3 : (F == face) = true := by simpa using h3
          go_wp2_with (at_builtin; refine wpList_append_own_src _ rfl (.tmp 30) (.tmp 32) 41 41 rfl w.heap.size 3 i0 (.int .i64 0) 1 8 Tryd.underlying41 hi hz0 hz1 hz2 rfl _ _ _ rfl HOW.out _ _ _ rfl HSR.out (by simp only [maxLen]; omega) (fits8 (by omega)) hsz2 ?_; intro v3 w3 o3 g3; obtain ⟨o4, b4⟩ := HA.out _ _ o3 g3; clear o3 g3 HA HOW HSR)
          -- HERE
          go_wp2
          go_roundw
          case rel => exact ⟨j + 1, k + 1, by go_num, HBB.out.1, HBB.out.2, by rw [hnx]; exact o4, b4⟩
          case measure => simp [numOf]; omega
        · have e3 : (F == face) = false := by simpa using h3
          have e4 : (face == 0) = true := by simpa using (show face = 0 by omega)
          go_wp2_with (at_builtin; refine wpList_append_own_src _ rfl (.tmp 30) (.tmp 32) 41 41 rfl w.heap.size 3 i0 (.int .i64 0) 1 8 Tryd.underlying41 hi hz0 hz1 hz2 rfl _ _ _ rfl HOW.out _ _ _ rfl HSR.out (by simp only [maxLen]; omega) (fits8 (by omega)) hsz2 ?_; intro v3 w3 o3 g3; obtain ⟨o4, b4⟩ := HA.out _ _ o3 g3; clear o3 g3 HA HOW HSR)
          go_wp2
          go_roundw
          case rel => exact ⟨j + 1, k + 1, by go_num, HBB.out.1, HBB.out.2, by rw [hnx]; exact o4, b4⟩
          case measure => simp [numOf]; omega
      · have HS2 : Hid (nx = fl) := by rw [Hid, HS.out, if_neg (by rw [decide_eq_false hf]; decide), List.append_nil]
        clear HS
        by_cases h0 : F = 0
        · have e2 : decide (0 < F) = false := decide_eq_false (by omega)
          go_wp2
          go_roundw
          case rel => exact ⟨j + 1, k + 1, by go_num, HBB.out.1, HBB.out.2, by rw [hnx, HS2.out]; exact HR.out, HB.out⟩
          case measure => simp [numOf]; omega
        · have e2 : decide (0 < F) = true := decide_eq_true (by omega)
          have e3 : (F == face) = false := by simpa using (show ¬ F = face from fun h => hf ⟨h0, .inl h⟩)
          have e4 : (face == 0) = false := by simpa using (show ¬ face = 0 from fun h => hf ⟨h0, .inr h⟩)
          go_wp2
          go_roundw
          case rel => exact ⟨j + 1, k + 1, by go_num, HBB.out.1, HBB.out.2, by rw [hnx, HS2.out]; exact HR.out, HB.out⟩
          case measure => simp [numOf]; omega
    · obtain rfl : j = 255 := by omega
      rw [← HO.out] at hr
      have e1 : decide ((k : Int) ≤ 255) = false := decide_eq_false (by omega)
      clear hk
      have HR := hid hr
      have HB := hid hb
      clear hr hb
      go_wp2
      go_ret
      exact ⟨_, rfl, HR.out, HB.out⟩

/-- A slice whose first n cells are the numbers l. -/
structure RdZ (w : World) (a : Option Addr) (n : Nat) (l : List Int) : Prop where
  len : l.length = n
  hnil : a = none → n = 0
  cells : ∀ x, a = some x → ∃ g, x = ⟨g, 0, none⟩ ∧ g < w.heap.size ∧ ∀ j z, l[j]? = some z → w.cell? ⟨g, j, none⟩ = some (.int .i64 z)

theorem RdZ.on {w u : World} {a : Option Addr} {n : Nat} {l : List Int} (h : RdZ w a n l) (hb : Below w.heap.size w u) : RdZ u a n l :=
  ⟨h.len, h.hnil, fun x hx => by
    obtain ⟨g, h1, h2, h3⟩ := h.cells x hx
    exact ⟨g, h1, Nat.lt_of_lt_of_le h2 hb.size, fun j z hz => by rw [hb.cell h2]; exact h3 j z hz⟩⟩
theorem rdz_nil (w : World) : RdZ w none 0 [] := ⟨rfl, fun _ => rfl, fun _ h => by cases h⟩
theorem rdz_of {w : World} {base e n : Nat} {v : Value} {zs : List Int} (h : w.ownsRow base e 1 v n (zs.map encZ)) : ∃ a c, v = .slice a n c ∧ RdZ w a n zs := by
  obtain ⟨a, c, rfl, hl, _, _, hn, hc⟩ := ints_of_owns h
  exact ⟨a, c, rfl, hl, hn, fun x hx => by
    obtain ⟨g, h1, _, h2, h3⟩ := hc x hx
    exact ⟨g, h1, h2, h3⟩⟩

set_option maxRecDepth 100000 in
set_option maxHeartbeats 1000000 in
theorem same_any (a : Option Addr) (n c : Nat) (a' : Option Addr) (c' : Nat) (l : List Int) (w : World) (hr : RdZ w a n l) (hr' : RdZ w a' n l) (hn : n ≤ 1000000) :
    Calls Tryd.prog 20 #[.slice a n c, .slice a' n c'] w fun e w' => e = .returned (.bool true) ∧ Below w.heap.size w w' := by
  have HR := hid hr
  have HR' := hid hr'
  have n1 : ((n : Int) != n) = false := by simp
  clear hr hr'
  go_enter Tryd.func20, Tryd.ntmps20
  go_wp2
  go_loopw [5] (fun i wr => ∃ j : Nat, j ≤ n ∧ i = .int .i64 j ∧ ∃ r, wr = w.drewN r) (fun i _ => n - (numOf i).toNat)
  case atStart => exact ⟨0, Nat.zero_le _, rfl, 0, rfl⟩
  case round =>
    obtain ⟨j, hj, rfl, r, rfl⟩ := hrel
    by_cases hlt : j < n
    · obtain ⟨x, rfl⟩ : ∃ x, a = some x := by
        cases a with
        | none => have := HR.out.hnil rfl; omega
        | some x => exact ⟨x, rfl⟩
      obtain ⟨x', rfl⟩ : ∃ x, a' = some x := by
        cases a' with
        | none => have := HR'.out.hnil rfl; omega
        | some x => exact ⟨x, rfl⟩
      obtain ⟨g, rfl, hg, hc⟩ := HR.out.cells x rfl
      obtain ⟨g', rfl, hg', hc'⟩ := HR'.out.cells x' rfl
      have hlen := HR.out.len
      obtain ⟨z, hz⟩ : ∃ z, l[j]? = some z := ⟨_, List.getElem?_eq_getElem (by omega)⟩
      have c0 := hc j z hz
      have d0 := hc' j z hz
      have n2 : (z != z) = false := by simp
      clear hz hc hc' hlen
      have hlt' : (j : Int) < n := by omega
      go_wp2
      go_quiet (fail)
      go_wp2
      go_roundw
      case rel => exact ⟨j + 1, by omega, by go_num, _, rfl⟩
      case measure => simp [numOf]; omega
    · go_wp2
      go_ret
      exact ⟨rfl, below_drewN (Below.refl _ _) _⟩
end Go.Proofs.YtaeeheaghfehaaaDoor
