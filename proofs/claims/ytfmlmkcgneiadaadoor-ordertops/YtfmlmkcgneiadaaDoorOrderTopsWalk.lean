/- OrderTops: for every slice of numbers the call returns true; nothing that was there has turned. -/
import Derived.Test.YtfmlmkcgneiadaaDoorOrdI
namespace Go.Proofs.YtfmlmkcgneiadaaDoor.orderTops
open Go Go.RowKit

/-- Each once, by its last time. -/
def lst : List Int → List Int
  | [] => []
  | x :: l => if x ∈ l then lst l else x :: lst l
theorem lst_snoc (k : Int) : ∀ l : List Int, lst (l ++ [k]) = dr k (lst l) ++ [k]
  | [] => by simp [lst, dr]
  | x :: l => by
    rw [List.cons_append, lst, lst, lst_snoc k l]
    by_cases hx : x = k
    · subst hx
      rw [if_pos (by simp)]
      by_cases hm : x ∈ l
      · rw [if_pos hm]
      · rw [if_neg hm, dr_cons, if_pos rfl]
    · by_cases hm : x ∈ l
      · rw [if_pos (by simp [hm]), if_pos hm]
      · rw [if_neg (by simp [hm, hx]), if_neg hm, dr_cons, if_neg hx]
        rfl
theorem lst_length : ∀ l : List Int, (lst l).length ≤ l.length
  | [] => Nat.le_refl _
  | x :: l => by
    rw [lst]
    have := lst_length l
    split
    · rw [List.length_cons]; omega
    · rw [List.length_cons, List.length_cons]; omega
theorem lst_take {l : List Int} {j : Nat} {x : Int} (h : l[j]? = some x) : lst (l.take (j + 1)) = dr x (lst (l.take j)) ++ [x] := by
  rw [List.take_add_one, h]
  exact lst_snoc x _

/-- The list put on top so far, as it is read. -/
structure Tp (w : World) (l : List Int) (v : Value) (wr : World) : Prop where
  ex : ∃ a c, v = .slice a l.length c ∧ Rz wr a l.length c l ∧ Below w.heap.size w wr

set_option maxRecDepth 100000 in
set_option maxHeartbeats 4000000 in
theorem core (a : Option Addr) (n c : Nat) (l : List Int) (w : World) (h : Rz w a n c l) (es : List Addr) (hE : Errs w gerrs es) :
    Calls Tryd.prog 5 #[.slice a n c] w fun e w' => e = .returned (.bool true) ∧ Below w.heap.size w w' := by
  obtain ⟨i0, hi, hz0, hz1, hz2⟩ := infoZp
  have hs := h.small
  have hle := h.le
  obtain ⟨p, hp, hP⟩ := pl_of hE
  have HP : Hid (∀ u, Below w.heap.size w u → Pl u p) := fun u hu => hP.on hu
  have HE : Hid (∀ u, Below w.heap.size w u → Errs u gerrs es) := fun u hu => hE.below hu
  obtain ⟨l1, hl1⟩ : ∃ l1, l1 = l.take 40 := ⟨_, rfl⟩
  have hlen : l1.length = min 40 n := by rw [hl1, List.length_take, h.len]
  have hr1 : Rz w a l1.length c l1 := by
    have := h.take (min 40 n) (by omega)
    have e : l.take (min 40 n) = l1 := by
      rw [hl1]
      by_cases h40 : n ≤ 40
      · rw [Nat.min_eq_right h40, List.take_of_length_le (by rw [h.len]; omega), List.take_of_length_le (by rw [h.len]; omega)]
      · rw [Nat.min_eq_left (by omega)]
    rw [e] at this
    rwa [hlen]
  have h40 : l1.length ≤ 40 := by omega
  have HR1 := hid hr1
  clear hp hP hE h hl1 hr1
  go_enter Tryd.func5, Tryd.ntmps5
  go_upto_if 11 with fail
  go_cut [0] (fun v wc => v = .slice a l1.length c ∧ wc = w)
  case first =>
    by_cases hbig : 40 < n
    · have e1 : decide ((40 : Int) < n) = true := decide_eq_true (by omega)
      have e2 : l1.length = 40 := by omega
      have HE2 := hid e2
      clear e2 hlen HR1
      go_wp2_with fail
      go_meet
      exact ⟨by rw [HE2.out], rfl⟩
    · have e1 : decide ((40 : Int) < n) = false := decide_eq_false (by omega)
      have e2 : l1.length = n := by omega
      have HE2 := hid e2
      clear e2 hlen HR1
      go_wp2_with fail
      go_meet
      exact ⟨by rw [HE2.out], rfl⟩
  case rest =>
    obtain ⟨rfl, hw⟩ := hcut
    obtain rfl : w = wc := hw.symm
    clear hw
    have hs1 := HR1.out.small
    obtain ⟨N, hN⟩ : ∃ N, N = l1.length := ⟨_, rfl⟩
    have HN := hid hN
    rw [← hN] at HR1 hs1 h40 ⊢
    clear hN hlen
    go_wp2
    go_loopw [3, 4] (fun v i wr => ∃ j : Nat, i = .int .i64 j ∧ j ≤ N ∧ Tp w (lst (l1.take j)) v wr) (fun _ i _ => N - (numOf i).toNat)
    case atStart => exact ⟨0, rfl, by omega, ⟨none, 0, rfl, Rz.nil w, Below.refl _ _⟩⟩
    case round =>
      obtain ⟨j, rfl, hj, ht⟩ := hrel
      obtain ⟨ax, cx, rfl, hrx, hbx⟩ := ht.ex
      have hll : (lst (l1.take j)).length ≤ j := Nat.le_trans (lst_length _) (List.length_take_le _ _)
      by_cases hgo : j < N
      · have e1 : decide ((j : Int) < N) = true := decide_eq_true (by omega)
        have e2 : (j : Int) < N := by omega
        obtain ⟨bl, off, x, rfl, _, hx, c0⟩ := (HR1.out.on hbx).at_ hgo
        have HT := hid (top_any _ _ _ _ x _ p (HP.out _ hbx) hrx (by omega))
        rw [← lst_take hx] at HT
        have HBX := hid hbx
        clear hbx hrx hx ht
        generalize (lst (l1.take j)).length = m at *
        go_wp2_with fail
        refine HT.out.mono ?_
        rintro e w1 h1
        obtain ⟨a2, c2, rfl, hr2, hb2⟩ := owz_rd h1
        have HT2 : Hid (Tp w (lst (l1.take (j + 1))) (.slice a2 (lst (l1.take (j + 1))).length c2) w1) := ⟨a2, c2, rfl, hr2, Below.on HBX.out hb2⟩
        clear h1 hr2 hb2 HT
        generalize (lst (l1.take (j + 1))).length = m2 at *
        go_wp2
        go_roundw
        case rel => exact ⟨j + 1, by go_num, by omega, HT2.out⟩
        case measure => simp [numOf]; omega
      · have e1 : decide ((j : Int) < N) = false := decide_eq_false (by omega)
        obtain rfl : j = N := by omega
        have htk : l1.take j = l1 := List.take_of_length_le (by rw [← HN.out]; exact Nat.le_refl _)
        rw [htk] at hrx hll ⊢
        have HRX := hid hrx
        have HBX := hid hbx
        clear hbx hrx htk ht hgo
        obtain ⟨W, hW⟩ : ∃ W, W = wr := ⟨_, rfl⟩
        have HWR := hid hW
        subst hW
        clear HWR
        have HX : Hid (lst l1 = [] ++ lst (l1.drop 0)) := rfl
        go_wp2
        go_loopw [5, 6] (fun v i wr => ∃ (k : Nat) (r : List Int), i = .int .i64 k ∧ k ≤ j ∧ OwZ W wr v r ∧ r ++ lst (l1.drop k) = lst l1 ∧ r.length ≤ k) (fun _ i _ => j - (numOf i).toNat)
        case atStart => exact ⟨0, [], rfl, by omega, OwZ.nil W, rfl, Nat.le_refl _⟩
        case round =>
          obtain ⟨k, r, rfl, hk, ho, hr, hrl⟩ := hrel
          by_cases hgo : k < j
          · have e1' : decide ((k : Int) < j) = true := decide_eq_true (by omega)
            have e2' : (k : Int) < j := by omega
            obtain ⟨bl, off, x, rfl, hbl, hx, c0⟩ := (HR1.out.on (Below.on HBX.out ho.bel)).at_ hgo
            have hd := drop_atZ hx
            have HO := hid ho
            have HR := hid hr
            have HD := hid hd
            have HRW := hid (HR1.out.on (Below.on HBX.out ho.bel))
            have hrw := HO.out.bel.size
            clear ho hr hd hx
            go_wp2
            go_loopw [7, 8] (fun v i wi => ∃ (m : Nat) (q : Nat), i = .int .i64 (m : Nat) ∧ k + 1 ≤ m ∧ m ≤ j ∧ v = .bool (decide (x ∉ (l1.take m).drop (k + 1))) ∧ wi = wr.drewN q) (fun _ i _ => j - (numOf i).toNat)
            case atStart => exact ⟨k + 1, 0, by go_num, Nat.le_refl _, by omega, by rw [List.drop_eq_nil_of_le (List.length_take_le _ _)]; simp, rfl⟩
            case round =>
              obtain ⟨m, q, rfl, hm1, hm2, rfl, rfl⟩ := hrel
              by_cases hgm : m < j
              · have e3 : decide ((m : Int) < j) = true := decide_eq_true (by omega)
                have e4 : (m : Int) < j := by omega
                obtain ⟨bl2, off2, y, he, hbl2, hy, d0⟩ := HRW.out.at_ hgm
                cases he
                have HY : Hid (∀ b : Bool, b = decide (x ∉ (l1.take m).drop (k + 1)) → (b && (y != x)) = decide (x ∉ (l1.take (m + 1)).drop (k + 1))) := fun b hb => by
                  subst hb
                  have hml : m < l1.length := by rw [← HN.out]; exact hgm
                  rw [List.take_add_one, hy, List.drop_append_of_le_length (by rw [List.length_take]; omega), Bool.eq_iff_iff]
                  simp only [Bool.and_eq_true, decide_eq_true_eq, bne_iff_ne, ne_eq, Option.toList_some, List.mem_append, List.mem_singleton, not_or]
                  exact ⟨fun ⟨h1, h2⟩ => ⟨h1, fun e => h2 e.symm⟩, fun ⟨h1, h2⟩ => ⟨h1, fun e => h2 e.symm⟩⟩
                clear hy
                have HY2 := hid (HY.out _ rfl)
                clear HY
                generalize decide (x ∉ (l1.take m).drop (k + 1)) = b0 at *
                cases b0 with
                | false =>
                  go_wp2
                  go_quiet (fail)
                  go_wp2
                  go_roundw
                  case rel => exact ⟨m + 1, _, by go_num, by omega, by omega, by rw [← HY2.out]; rfl, rfl⟩
                  case measure => simp [numOf]; omega
                | true =>
                  go_wp2
                  go_quiet (fail)
                  go_wp2
                  go_roundw
                  case rel => exact ⟨m + 1, _, by go_num, by omega, by omega, by rw [← HY2.out]; rfl, rfl⟩
                  case measure => simp [numOf]; omega
              · have e3 : decide ((m : Int) < j) = false := decide_eq_false (by omega)
                obtain rfl : m = j := by omega
                have htk : l1.take m = l1 := List.take_of_length_le (by rw [← HN.out]; exact Nat.le_refl _)
                rw [htk]
                have hbq : RowKit.Below wr.heap.size wr (wr.drewN q) := below_drewN (Below.refl _ _) q
                have c1 := c0
                have HOQ := hid (HO.out.on hbq)
                rw [← hbq.cell hbl] at c1
                by_cases hm : x ∈ l1.drop (k + 1)
                · have e5 : decide (x ∉ l1.drop (k + 1)) = false := by simpa using hm
                  rw [e5]
                  have HR2 : Hid (r ++ lst (l1.drop (k + 1)) = lst l1) := by
                    rw [Hid, ← HR.out, HD.out, lst, if_pos hm]
                  clear e5 hm htk hbq
                  go_wp2
                  go_roundw
                  case rel => exact ⟨k + 1, r, by go_num, by omega, HOQ.out, HR2.out, by omega⟩
                  case measure => simp [numOf]; omega
                · have e5 : decide (x ∉ l1.drop (k + 1)) = true := by simpa using hm
                  rw [e5]
                  have HR2 : Hid ((r ++ [x]) ++ lst (l1.drop (k + 1)) = lst l1) := by
                    rw [Hid, ← HR.out, HD.out, lst, if_neg hm, List.append_assoc]
                    rfl
                  have HN2 : Hid (∀ v v' u, OwZ W (wr.drewN q) v r → u.ownsRow W.heap.size 3 1 v' (r.length + 1) (ic r ++ ic [x]) → ((wr.drewN q).alloc (.cells #[.int .i64 x] 3)).grownBy u v.ownBlock → OwZ W u v' (r ++ [x])) := fun v v' u hv o g => (hv.alloc _).grown (k := [x]) rfl o g
                  have HRL : Hid ((r ++ [x]).length ≤ k + 1) := by rw [Hid, List.length_append, List.length_singleton]; omega
                  have HS := hid (srcLit (wr.drewN q) x)
                  have HW := hid (HOQ.out.alloc (.cells #[.int .i64 x] 3)).own
                  have hws : W.heap.size ≤ ((wr.drewN q).alloc (.cells #[.int .i64 x] 3)).heap.size := by rw [World.size_alloc]; have := HOQ.out.bel.size; omega
                  clear e5 hm htk hbq
                  go_wp2_with (at_builtin; refine wpList_append_own_src _ rfl (.tmp 53) (.tmp 58) 22 22 rfl W.heap.size 3 i0 (.int .i64 0) 1 8 Tryd.underlying22 hi hz0 hz1 hz2 rfl _ _ _ rfl HW.out _ _ _ rfl HS.out (by simp only [maxLen]; omega) (fitsZ (by omega)) hws ?_; intro v3 w3 o3 g3; have HZ := hid (HN2.out _ _ _ HOQ.out o3 g3); clear o3 g3)
                  go_roundw
                  case rel => exact ⟨k + 1, _, by go_num, by omega, HZ.out, HR2.out, HRL.out⟩
                  case measure => simp [numOf]; omega
          · have e1' : decide ((k : Int) < j) = false := decide_eq_false (by omega)
            obtain rfl : k = j := by omega
            have htk : l1.drop k = [] := List.drop_eq_nil_of_le (by rw [← HN.out]; exact Nat.le_refl _)
            rw [htk, lst, List.append_nil] at hr
            subst hr
            obtain ⟨a5, c5, rfl, hr5, -⟩ := ho.rd
            have HS := hid (samez_any _ _ _ _ _ _ _ _ _ (HRX.out.on ho.bel) hr5)
            have HB5 := hid (Below.on HBX.out ho.bel)
            rw [zeq_same] at HS
            clear ho hr5 htk HX
            go_wp2_with fail
            refine HS.out.mono ?_
            rintro e w6 ⟨rfl, q, rfl⟩
            have HA := hid (awake_any _ es (HE.out _ (below_drewN HB5.out q)))
            go_wp2_with fail
            refine HA.out.mono ?_
            rintro e w7 ⟨rfl, hb7⟩
            have HB7 := hid (Below.on (below_drewN HB5.out q) hb7)
            clear hb7
            go_wp2
            go_ret
            exact ⟨rfl, HB7.out⟩

theorem walk (a : Option Addr) (n c : Nat) (l : List Int) (w : World) (hr : RdI .i64 w a n c l) (_ : c * 8 ≤ 140737488351232) (hL : laidMetH Tryd.prog Rows.orderTopsRow.laid w) :
    Calls Tryd.prog 5 #[.slice a n c] w fun e w' => e = .returned (.bool true) ∧ Below w.heap.size w w' := by
  obtain ⟨es, hE⟩ := errs16 hL
  exact core a n c l w (rz_of_rdi hr) es hE
end Go.Proofs.YtfmlmkcgneiadaaDoor.orderTops
