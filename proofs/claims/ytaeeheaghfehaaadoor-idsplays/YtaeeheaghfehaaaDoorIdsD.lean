/- The contracts of the program's All and Of. -/
import Derived.Test.YtaeeheaghfehaaaDoorIdsC
import Derived.Test.YtaeeheaghfehaaaDoorShlA
import Derived.Test.YtaeeheaghfehaaaDoorLibA
import Derived.Test.YtaeeheaghfehaaaDoorLibS
namespace Go.Proofs.YtaeeheaghfehaaaDoor
open Go Go.RowKit Go.Maps Go.Sort Go.Shelf

/-- slices.Sort's two contracts, at the fence that asks nothing. -/
theorem sortsA (m : Nat) : AnyZI.SortsIn Tryd.prog sortedA_ren Fence.wide m :=
  ⟨fun blk off cap ss W hH hblk hsz => callsIn_wide.2 (AnyM.slices_Sort_int sortA blk off cap ss W hH hblk hsz),
   fun p cap W => callsIn_wide.2 (AnyM.slices_Sort_int_none sortA p cap W)⟩

set_option maxRecDepth 100000 in
set_option maxHeartbeats 1000000 in
theorem all_any (base : Nat) (w : World) (p b : Nat) (s : Int → Int × Int) (hT : Tb base w p b s) :
    Calls Tryd.prog 21 #[.pointer (some ⟨p, 0, none⟩)] w fun e w' => ∃ v, e = .returned v ∧ w'.ownsRow w.heap.size 3 1 v (keysOf s).length ((keysOf s).map encZ) ∧ Below w.heap.size w w' := by
  obtain ⟨D0, hown, hR⟩ := hT.own
  have c0 : w.cell? ⟨p, 0, none⟩ = some (.map (some b)) := by rw [Lib.cell_of_heap hT.var]; rfl
  have hsz : Maps.size D0 ≤ 255 := by rw [size_of_keys hown Tryd.underlying3 hR hT.gd]; exact keysOf_len s
  have HK : Hid (∀ ss : List Int, ss.Perm (intKeys D0) → ss.mergeSort leI = keysOf s) := fun ss hp => sorted_keys hown Tryd.underlying3 hR hT.gd hp
  refine (callsIn_wide (n := 6)).1 ?_
  have hbl := hown.lt
  have hseq : SeqGives Fence.wide 2 Tryd.prog 32 #[.pointer (some ⟨w.heap.size, 0, none⟩)] encZ (fun ss => ss.Perm (intKeys D0)) (Maps.size D0) (w.alloc (.cells #[.map (some b)] 50)) :=
    AnyZI.keys_gives (ρ := keysA_ren) { keysA with } Fence.wide _ trivial rfl (by omega) w.heap.size b 255 D0 _ (by simp) (by simp) (by
      obtain ⟨es, clock, hb, Ft, hs, hD⟩ := hown
      exact ⟨es, clock, (Below.heap_alloc _ _ b hbl).trans hb, Ft, hs, hD⟩)
  have cK : ∀ mb W, CallsIn Fence.wide 5 Tryd.prog 27 #[.map mb] W fun e w' => e = .returned (.func (.func 32) #[] #[.pointer (some ⟨W.heap.size, 0, none⟩)]) ∧ w' = W.alloc (.cells #[.map mb] 50) := fun mb W => AnyZI.keys_in keysA Fence.wide 5 trivial rfl mb W
  have cS := AnyZI.sorted_in sortedA Fence.wide 5 trivial trivial trivial trivial rfl (by omega) (sortsA _) (enters_of Tryd.func31 (by kernel_rfl) rfl) 32 #[.pointer (some ⟨w.heap.size, 0, none⟩)] trivial (enters_of Tryd.func32 (by kernel_rfl) rfl) _ _ (Nat.le_trans hsz (by decide)) (by omega) _ hseq
  change CallsIn _ _ Tryd.prog 26 _ _ _ at cS
  have hfK : Fence.wide.fn 27 := trivial
  have hfS : Fence.wide.fn 26 := trivial
  clear hT hown hR hseq
  refine callsIn_of_wp Tryd.func21 rfl trivial ?_ rfl
  simp only [Tryd.ntmps21, List.size_toArray, List.length_cons, List.length_nil, Nat.reduceAdd, Nat.reduceSub, Array.replicate_succ, Array.replicate_zero, List.push_toArray, List.append_toArray, List.nil_append, List.cons_append]
  gi_wp2_with (first
    | (gi_at_call 27; refine (cK _ _).mono ?_; rintro e w' ⟨rfl, rfl⟩)
    | (gi_at_call 26; refine cS.mono ?_; rintro e w' ⟨v, ss, rfl, hS, hrow, hnil, hb⟩))
  go_ret
  have hk := HK.out ss hS
  have hlen : ss.length = (keysOf s).length := by rw [← hk, List.length_mergeSort]
  rw [hlen, hk] at hrow
  exact ⟨v, rfl, ownsRow_base_a hrow (by simp), ((Below.refl _ w).alloc (Nat.le_refl _) _).trans (hb.mono (by simp))⟩

def ofOf (s : Int → Int × Int) (face : Int) : List Int := (keysOf s).filter fun k => decide ((s k).1 = face)

theorem infoInt : (Tryd.prog.info? 3).map (fun i => (i.zero, i.size, i.bytes)) = some (some (.int .i64 0), 1, 8) := by kernel_rfl

theorem info_parts {P : Program} {e : TypeId} {z : Value} {n m : Nat} (h : (P.info? e).map (fun i => (i.zero, i.size, i.bytes)) = some (some z, n, m)) : ∃ i, P.info? e = some i ∧ i.zero = some z ∧ i.size = n ∧ i.bytes = m := by
  obtain ⟨i, hi, hz⟩ := Option.map_eq_some_iff.1 h
  simp only [Prod.mk.injEq] at hz
  exact ⟨i, hi, hz.1, hz.2.1, hz.2.2⟩

theorem fits8 {need : Nat} (h : need ≤ 4000000) : ∀ old, old < need → Builtin.nextslicecap need old * 8 ≤ 281474976710656 := fun old ho => by
  have := nextslicecap_near ho
  omega

/-- A row of numbers that a call made, as a slice. -/
theorem ints_of_owns {w : World} {base e n : Nat} {v : Value} {zs : List Int} (h : w.ownsRow base e 1 v n (zs.map encZ)) : ∃ a c, v = .slice a n c ∧ zs.length = n ∧ n ≤ c ∧ c ≤ maxLen ∧ (a = none → n = 0) ∧ ∀ x, a = some x → ∃ g, x = ⟨g, 0, none⟩ ∧ base ≤ g ∧ g < w.heap.size ∧ ∀ j z, zs[j]? = some z → w.cell? ⟨g, j, none⟩ = some (.int .i64 z) := by
  have hl : zs.length = n := by have := h.1; rw [List.length_map] at this; omega
  rcases h.2 with ⟨rfl, rfl⟩ | ⟨g, cap, cur, rfl, hb, hg, hn, hm, _, _⟩
  · exact ⟨none, 0, rfl, hl, Nat.le_refl _, Nat.zero_le _, fun _ => rfl, fun x hx => by cases hx⟩
  · refine ⟨some ⟨g, 0, none⟩, cap, rfl, hl, hn, hm, (fun h => by cases h), fun x hx => ?_⟩
    cases hx
    refine ⟨g, rfl, hb, (Array.getElem?_eq_some_iff.1 hg).1, fun j z hz => ?_⟩
    have := h.cells rfl j (.int .i64 z) (by rw [List.getElem?_map, hz]; rfl)
    rw [Go.WideShapes.add_plain, Nat.zero_add] at this
    exact this

theorem take_succ_filter {α : Type} (l : List α) (q : α → Bool) (j : Nat) (z : α) (h : l[j]? = some z) : (l.take (j + 1)).filter q = (l.take j).filter q ++ (if q z then [z] else []) := by
  rw [List.take_add_one, h, List.filter_append]
  congr 1
  cases hq : q z <;> simp [hq]

set_option maxRecDepth 100000 in
set_option maxHeartbeats 1000000 in
theorem of_any (base : Nat) (w : World) (p b : Nat) (s : Int → Int × Int) (hT : Tb base w p b s) (face : Int) :
    Calls Tryd.prog 22 #[.pointer (some ⟨p, 0, none⟩), .int .i64 face] w fun e w' => ∃ v, e = .returned v ∧ w'.ownsRow w.heap.size 3 1 v (ofOf s face).length ((ofOf s face).map encZ) ∧ Below w.heap.size w w' := by
  obtain ⟨i0, hi, hz0, hz1, hz2⟩ := info_parts infoInt
  have HA := hid (all_any base w p b s hT)
  have HT := hid hT
  have hN := keysOf_len s
  have HG : Hid (∀ z ∈ keysOf s, 1 ≤ z ∧ z ≤ 255) := fun z hz => hT.gd.dom z ((mem_keysOf hT.gd).1 hz)
  have HO : Hid (ofOf s face = ((keysOf s).take (keysOf s).length).filter fun k => decide ((s k).1 = face)) := by rw [Hid, List.take_length]; rfl
  clear hT
  go_enter Tryd.func22, Tryd.ntmps22
  go_wp2_with fail
  refine HA.out.mono ?_
  rintro e w1 ⟨v1, rfl, hr1, hb1⟩
  obtain ⟨a1, c1, rfl, hl, hle, hmax, hnil, hcell⟩ := ints_of_owns hr1
  have HT1 := hid (HT.out.on hb1)
  have HB1 := hid hb1
  simp only [maxLen] at hmax
  obtain ⟨N, hNN⟩ : ∃ N, N = (keysOf s).length := ⟨_, rfl⟩
  have HNN := hid hNN
  rw [← hNN] at HO hN hle hnil ⊢
  have hb1s := hb1.size
  clear HA HT hr1 hb1 hl hNN
  go_wp2
  go_loopw [5, 11] (fun v i wr => ∃ j : Nat, i = .int .i64 j ∧ j ≤ N ∧ wr.ownsRow w1.heap.size 3 1 v (((keysOf s).take j).filter fun k => decide ((s k).1 = face)).length ((((keysOf s).take j).filter fun k => decide ((s k).1 = face)).map encZ) ∧ RowKit.Below w1.heap.size w1 wr)
    (fun _ i _ => N - (numOf i).toNat)
  case atStart => exact ⟨0, rfl, by omega, by simpa using World.ownsRow_nil _ _ _ _, Below.refl _ _⟩
  case round =>
    obtain ⟨j, rfl, hj, hr, hb⟩ := hrel
    by_cases hgo : j < N
    · have e1 : decide ((j : Int) < N) = true := decide_eq_true (by omega)
      obtain ⟨x, rfl⟩ : ∃ x, a1 = some x := by
        cases a1 with
        | none => have := hnil rfl; omega
        | some x => exact ⟨x, rfl⟩
      obtain ⟨g1, rfl, _, hg1, hc1⟩ := hcell x rfl
      obtain ⟨z, hz⟩ : ∃ z, (keysOf s)[j]? = some z := ⟨_, List.getElem?_eq_getElem (by rw [← HNN.out]; exact hgo)⟩
      have cz := hc1 j z hz
      rw [← hb.cell hg1] at cz
      have hzr := HG.out z (List.mem_of_getElem? hz)
      have HF := hid (face_any base wr p b s (HT1.out.on hb) z (by omega))
      have HS := hid (take_succ_filter (keysOf s) (fun k => decide ((s k).1 = face)) j z hz)
      have hlen : (((keysOf s).take j).filter fun k => decide ((s k).1 = face)).length ≤ 255 := Nat.le_trans (List.length_filter_le _ _) (by rw [List.length_take]; omega)
      have HR := hid hr
      have HB := hid hb
      clear hr hb hc1 hz
      generalize ((keysOf s).take j).filter (fun k => decide ((s k).1 = face)) = fl at HR HS hlen
      by_cases hf : (s z).1 = face
      · have e2 : decide ((s z).1 = face) = true := decide_eq_true hf
        rw [hf] at HF
        have HS2 : Hid (((keysOf s).take (j + 1)).filter (fun k => decide ((s k).1 = face)) = fl ++ [z]) := by rw [Hid, HS.out, if_pos e2]
        have HA : Hid (∀ v' w', w'.ownsRow w1.heap.size 3 1 v' (fl.length + 1) (fl.map encZ ++ [.int .i64 z]) → (wr.alloc (.cells #[.int .i64 z] 3)).grownBy w' u5.ownBlock → w'.ownsRow w1.heap.size 3 1 v' (fl ++ [z]).length ((fl ++ [z]).map encZ) ∧ RowKit.Below w1.heap.size w1 w') := fun v' w' o g => by
          refine ⟨by simpa using o, (HB.out.alloc HB.out.size _).grown g (by rw [World.size_alloc]; have := HB.out.size; omega) (fun k hk => (HR.out.lt k hk).1)⟩
        have HSR : Hid (Src Tryd.prog 1 41 (.slice (some ⟨wr.heap.size, 0, none⟩) 1 1) 1 [.int .i64 z] (wr.alloc (.cells #[.int .i64 z] 3))) :=
          Src.ofSlice (P := Tryd.prog) _ Tryd.underlying41 ⟨wr.heap.size, 0, none⟩ 1 1 [.int .i64 z] rfl (fun q u hu => by
            match q, hu with
            | 0, hu => cases hu; simp [Addr.add]
            | q + 1, hu => simp at hu) (by simp [Value.oneCell'])
        have HOW := hid (HR.out.alloc (.cells #[.int .i64 z] 3))
        have hsz2 : w1.heap.size ≤ (wr.alloc (.cells #[.int .i64 z] 3)).heap.size := by rw [World.size_alloc]; have := HB.out.size; omega
        clear HR HS e2 hf HB hcell hnil
        go_wp2_with fail
        refine HF.out.mono ?_
        rintro e w2 ⟨rfl, rfl⟩
        go_wp2_with (at_builtin; refine wpList_append_own_src _ rfl (.tmp 20) (.tmp 22) 41 41 rfl w1.heap.size 3 i0 (.int .i64 0) 1 8 Tryd.underlying41 hi hz0 hz1 hz2 rfl _ _ _ rfl HOW.out _ _ _ rfl HSR.out (by simp only [maxLen]; omega) (fits8 (by omega)) hsz2 ?_; intro v3 w3 o3 g3; obtain ⟨o4, b4⟩ := HA.out _ _ o3 g3; clear o3 g3 HA HOW HSR)
        go_wp2
        go_roundw
        case rel => exact ⟨j + 1, by go_num, by omega, by rw [HS2.out]; exact o4, b4⟩
        case measure => simp [numOf]; omega
      · have e2 : decide ((s z).1 = face) = false := decide_eq_false hf
        have HS2 : Hid (((keysOf s).take (j + 1)).filter (fun k => decide ((s k).1 = face)) = fl) := by rw [Hid, HS.out, if_neg (by rw [e2]; decide), List.append_nil]
        clear HS hcell hnil
        go_wp2_with fail
        refine HF.out.mono ?_
        rintro e w2 ⟨rfl, rfl⟩
        go_wp2
        go_roundw
        case rel => exact ⟨j + 1, by go_num, by omega, by rw [HS2.out]; exact HR.out, HB.out⟩
        case measure => simp [numOf]; omega
    · obtain rfl : j = N := by omega
      have e1 : decide ((j : Int) < j) = false := decide_eq_false (by omega)
      rw [← HO.out] at hr
      have HR := hid (ownsRow_low hr hb1s)
      have HB := hid (Below.on HB1.out hb)
      clear hr hb hcell hnil
      go_wp2
      go_ret
      exact ⟨_, rfl, HR.out, HB.out⟩
end Go.Proofs.YtaeeheaghfehaaaDoor
