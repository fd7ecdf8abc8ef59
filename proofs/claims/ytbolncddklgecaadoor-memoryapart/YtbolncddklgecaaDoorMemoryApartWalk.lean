/- MemoryApart: for any two slices of bytes the call returns true; nothing that was there has turned. -/
import Derived.Test.YtbolncddklgecaaDoorMemH
import Derived.Test.YtbolncddklgecaaDoorLibS
import Derived.Deep.DeepCutAuto
import Derived.LaidMore
namespace Go.Proofs.YtbolncddklgecaaDoor.memoryApart
open Go Go.RowKit

set_option maxRecDepth 100000 in
theorem long (a : Option Addr) (n c : Nat) (a' : Option Addr) (n' c' : Nat) (w : World) (hm : 300 < n ∨ 300 < n') (es : List Addr) (hE : E3 w es) :
    Calls Tryd.prog 5 #[.slice a n c, .slice a' n' c'] w fun e w' => e = .returned (.bool true) ∧ Below w.heap.size w w' := by
  have HW := hid (mawake_any w es hE)
  clear hE
  by_cases h : 300 < n
  · have e1 : decide (300 < (n : Int)) = true := decide_eq_true (by omega)
    go_enter Tryd.func5, Tryd.ntmps5
    go_wp2_with fail
    refine HW.out.mono ?_
    rintro e w1 ⟨rfl, hb⟩
    go_wp2
    go_ret
    exact ⟨rfl, hb⟩
  · have e1 : decide (300 < (n : Int)) = false := decide_eq_false (by omega)
    have e2 : decide (300 < (n' : Int)) = true := decide_eq_true (by omega)
    go_enter Tryd.func5, Tryd.ntmps5
    go_wp2_with fail
    refine HW.out.mono ?_
    rintro e w1 ⟨rfl, hb⟩
    go_wp2
    go_ret
    exact ⟨rfl, hb⟩

theorem wro_take (L l : List UInt8) : ((wro L 0 l).drop 0).take l.length = l := by
  rw [wro, List.drop_zero, List.take_zero, List.nil_append]
  exact List.take_left

set_option maxRecDepth 100000 in
set_option maxHeartbeats 4000000 in
theorem core (a : Option Addr) (n c : Nat) (l : List UInt8) (a' : Option Addr) (n' c' : Nat) (l' : List UInt8) (w : World) (hr : Rd w a n c l) (hr' : Rd w a' n' c' l') (hn : n ≤ 300) (hn' : n' ≤ 300) (es : List Addr) (hE : E3 w es) :
    Calls Tryd.prog 5 #[.slice a n c, .slice a' n' c'] w fun e w' => e = .returned (.bool true) ∧ Below w.heap.size w w' := by
  have HE := hid hE
  have HR := hid hr
  have HR' := hid hr'
  have hlen := hr.len
  have hlen' := hr'.len
  have e1 : decide (300 < (n : Int)) = false := decide_eq_false (by omega)
  have e2 : decide (300 < (n' : Int)) = false := decide_eq_false (by omega)
  clear hr hr' hE
  go_enter Tryd.func5, Tryd.ntmps5
  go_wp2_with fail
  refine (msnew w).mono ?_
  rintro e w1 ⟨rfl, hM⟩
  have HM1 := hid hM
  have HR1 := hid (HR.out.below hM.bel (fun x hx hl => rd_low HR.out x hx hl))
  clear hM
  go_wp2_with fail
  refine (mbytes_any w1 a n c l HR1.out (by omega)).mono ?_
  rintro e w2 ⟨ax, cx, rfl, hO, hb2⟩
  have hlt1 := HM1.out.mm.lt
  have hsz1 := HM1.out.bel.size
  have HM2 := hid (HM1.out.on hb2)
  have HO2 := hid hO
  have hsz2 := hb2.size
  clear hO hb2 HM1 HR1
  go_wp2_with fail
  refine (HM2.out.setok HE.out 1 300 (by decide) (by decide)).mono ?_
  rintro e w3 ⟨rfl, hM, hk3⟩
  have HM3 := hid hM
  have HO3 := hid (hk3.row HO2.out (fun k hk hm => by
    have := HO2.out.lt k hk
    simp only [List.mem_cons, List.not_mem_nil, or_false] at hm
    omega))
  have hsz3 := hk3.size
  clear hM HM2 hk3
  go_wp2_with fail
  refine (HM3.out.setok HE.out 2 300 (by decide) (by decide)).mono ?_
  rintro e w4 ⟨rfl, hM, hk4⟩
  have HM4 := hid hM
  have HO4 := hid (hk4.row HO3.out (fun k hk hm => by
    have := HO3.out.lt k hk
    simp only [List.mem_cons, List.not_mem_nil, or_false] at hm
    omega))
  have hsz4 := hk4.size
  clear hM HM3 hk4
  obtain ⟨_, _, hv, hRx, _⟩ := rd_of_owns HO4.out
  cases hv
  have HRx := hid hRx
  clear hRx
  go_wp2_with fail
  refine (HM4.out.writeok HE.out 1 0 (by decide) ax n cx l HRx.out _ _ (by rw [mupd_other _ (by decide), mupd_same]) (by rw [rsz_length]; omega)).mono ?_
  rintro e w5 ⟨rfl, hM, hk5⟩
  have HM5 := hid hM
  have HO5 := hid (hk5.row HO4.out (fun k hk hm => by
    have := (HO2.out.lt k hk).2
    simp only [List.mem_cons, List.not_mem_nil, or_false] at hm
    omega))
  have hsz5 := hk5.size
  have HR5 := hid (HR'.out.below hM.bel (fun x hx hl => rd_low HR'.out x hx hl))
  clear hM HM4 hk5 HRx
  go_wp2_with fail
  refine (HM5.out.writeok HE.out 2 0 (by decide) a' n' c' l' HR5.out _ _ (by rw [mupd_other _ (by decide), mupd_same]) (by rw [rsz_length]; omega)).mono ?_
  rintro e w6 ⟨rfl, hM, hk6⟩
  obtain ⟨s, hs⟩ : ∃ s, s = mupd (mupd (mupd (mupd (fun _ => none) 1 (some (w2.heap.size, rsz (by_ none) 300))) 2 (some (w3.heap.size, rsz (by_ (mupd (fun _ => none) 1 (some (w2.heap.size, rsz (by_ none) 300)) 2)) 300))) 1 (some (w2.heap.size, wro (rsz (by_ none) 300) 0 l))) 2 (some (w3.heap.size, wro (rsz (by_ (mupd (fun _ => none) 1 (some (w2.heap.size, rsz (by_ none) 300)) 2)) 300) 0 l')) := ⟨_, rfl⟩
  rw [← hs] at hM
  have HS1 : Hid (∃ L, s 1 = some (w2.heap.size, wro L 0 l) ∧ (wro L 0 l).length = 300) := ⟨_, by rw [hs, mupd_other _ (by decide), mupd_same], by rw [wro_length (by rw [rsz_length]; omega), rsz_length]⟩
  have HS2 : Hid (∃ L, s 2 = some (w3.heap.size, wro L 0 l') ∧ (wro L 0 l').length = 300) := ⟨_, by rw [hs, mupd_same], by rw [wro_length (by rw [rsz_length]; omega), rsz_length]⟩
  have HS : Hid (∀ k q, s k = some q → w2.heap.size ≤ q.1) := fun k q e => by
    rw [hs] at e
    simp only [mupd] at e
    repeat' split at e
    all_goals cases e
    all_goals simp only
    all_goals omega
  have HM6 := hid hM
  have HO6 := hid (hk6.row HO5.out (fun k hk hm => by
    have := (HO2.out.lt k hk).2
    simp only [List.mem_cons, List.not_mem_nil, or_false] at hm
    omega))
  clear hM HM5 hk6 hs HR5
  have HF : Hid (∀ g, ax = some ⟨g, 0, none⟩ → w.heap.size ≤ g ∧ Far (w.heap.size + 1) w.heap.size s g) := fun g e => by
    have h1 := HO2.out.lt g (by rw [e]; rfl)
    refine ⟨by omega, by omega, by omega, fun k q e2 => ?_⟩
    have := HS.out k q e2
    omega
  have HW6 := hid (wr_of_owns HO6.out)
  have HCX : Hid (n ≤ cx) := by
    obtain ⟨_, _, hv, h, _⟩ := rd_of_owns HO6.out
    cases hv
    exact h.le
  clear HO2 HO3 HO4 HO5 HO6 hsz1 hsz2 hsz3 hsz4 hsz5 hlt1
  obtain ⟨p, hp⟩ : ∃ p, p = w.heap.size + 1 := ⟨_, rfl⟩
  rw [← hp] at HM6 HF ⊢
  clear hp
  go_wp2
  go_loopw [7] (fun i wr => ∃ j : Nat, i = .int .i64 j ∧ j ≤ n ∧ Ms w wr p w.heap.size s ∧ Wr wr ax n) (fun i _ => n - (numOf i).toNat)
  case atStart => exact ⟨0, rfl, by omega, HM6.out, HW6.out⟩
  case round =>
    obtain ⟨j, rfl, hj, hM, hW⟩ := hrel
    have HM := hid hM
    have HW := hid hW
    clear hM hW HM6 HW6
    by_cases hgo : j < n
    · have e3 : decide ((j : Int) < n) = true := decide_eq_true (by omega)
      obtain ⟨g, C, hax, hg, _⟩ := HW.out (by omega)
      have hgl := (Array.getElem?_eq_some_iff.1 hg).1
      subst hax
      obtain ⟨z, c1, f1⟩ := HW.out.at_ hgo
      have hF := HF.out g rfl
      have HM' := hid (fun v => HM.out.set1 hF.1 hF.2 j v)
      have HW' := hid (fun z => HW.out.set z hgo)
      have hcx : n ≤ cx := HCX.out
      clear hg hF
      go_wp2
      go_roundw
      case rel => exact ⟨j + 1, by go_num, by omega, HM'.out _, HW'.out _⟩
      case measure => simp [numOf]; omega
    · obtain rfl : j = n := by omega
      have e3 : decide ((j : Int) < j) = false := decide_eq_false (by omega)
      obtain ⟨L1, hs1, hL1⟩ := HS1.out
      obtain ⟨L2, hs2, hL2⟩ := HS2.out
      have HS1' := hid hs1
      have HS2' := hid hs2
      have HL1 := hid hL1
      have HL2 := hid hL2
      clear hs1 hs2 hL1 hL2 HS1 HS2 HW
      go_wp2_with fail
      refine (HM.out.readok 1 0 j (by decide) _ _ HS1'.out (by rw [HL1.out]; omega)).mono ?_
      rintro e w7 ⟨rfl, hM, hb7, hg7⟩
      have e7 := wro_take L1 l
      rw [hlen] at e7
      rw [e7] at hg7
      have hlo := HM.out.bel.size
      have HF2 : Hid (w.heap.size ≤ wr.heap.size ∧ Far p w.heap.size s wr.heap.size) := ⟨hlo, by have := HM.out.mm.lt; omega, by have := HM.out.mm.lt; omega, fun k q e => by have := HM.out.mm.rlt e; omega⟩
      have HM7 := hid hM
      have HW7 := hid (wr_of_block hg7)
      rw [hlen] at HW7
      obtain ⟨g, hg⟩ : ∃ g, g = wr.heap.size := ⟨_, rfl⟩
      rw [← hg] at HF2 HW7 ⊢
      clear hM hb7 hg7 e7 hlo hg HM HF
      go_wp2
      go_loopw [10] (fun i wr => ∃ i' : Nat, i = .int .i64 i' ∧ i' ≤ j ∧ Ms w wr p w.heap.size s ∧ Wr wr (some ⟨g, 0, none⟩) j) (fun i _ => j - (numOf i).toNat)
      case atStart => exact ⟨0, rfl, by omega, HM7.out, HW7.out⟩
      case round =>
        obtain ⟨i, rfl, hi, hM, hW⟩ := hrel
        have HM := hid hM
        have HW := hid hW
        clear hM hW HM7 HW7
        by_cases hgo2 : i < j
        · have e4 : decide ((i : Int) < j) = true := decide_eq_true (by omega)
          obtain ⟨z, c1, f1⟩ := HW.out.at_ hgo2
          have HM' := hid (fun v => HM.out.set1 HF2.out.1 HF2.out.2 i v)
          have HW' := hid (fun z => HW.out.set z hgo2)
          go_wp2
          go_roundw
          case rel => exact ⟨i + 1, by go_num, by omega, HM'.out _, HW'.out _⟩
          case measure => simp [numOf]; omega
        · obtain rfl : i = j := by omega
          have e4 : decide ((i : Int) < i) = false := decide_eq_false (by omega)
          clear HW
          go_wp2_with fail
          refine (HM.out.readok 1 0 i (by decide) _ _ HS1'.out (by rw [HL1.out]; omega)).mono ?_
          rintro e w8 ⟨rfl, hM, hb8, hg8⟩
          have e8 := wro_take L1 l
          rw [hlen] at e8
          rw [e8] at hg8
          have HG8 := hid hg8
          have HM8 := hid hM
          clear hM hg8 e8 HM hb8
          go_wp2_with fail
          refine (HM8.out.readok 2 0 n' (by decide) _ _ HS2'.out (by rw [HL2.out]; omega)).mono ?_
          rintro e w9 ⟨rfl, hM, hb9, hg9⟩
          have e9 := wro_take L2 l'
          rw [hlen'] at e9
          rw [e9] at hg9
          have hg89 := (kp_of_below hb9 []).var HG8.out (by simp)
          have q1 := (rd_block hg89 (by simp only [maxLen]; omega)).conv (P := Tryd.prog) 26 9 5 Tryd.underlying26 Tryd.underlying5 Tryd.underlying9
          have q2 := (rd_block hg9 (by simp only [maxLen]; omega)).conv (P := Tryd.prog) 26 9 5 Tryd.underlying26 Tryd.underlying5 Tryd.underlying9
          have q3 := (HR.out.below hM.bel (fun x hx hl => rd_low HR.out x hx hl)).conv (P := Tryd.prog) 26 9 5 Tryd.underlying26 Tryd.underlying5 Tryd.underlying9
          have q4 := (HR'.out.below hM.bel (fun x hx hl => rd_low HR'.out x hx hl)).conv (P := Tryd.prog) 26 9 5 Tryd.underlying26 Tryd.underlying5 Tryd.underlying9
          rw [hlen] at q1
          rw [hlen'] at q2
          have HW := hid (mawake_any w9 es (HE.out.below hM.bel))
          have HB := hid hM.bel
          clear hM hg9 hb9 hg89 e9 HM8 HG8
          obtain ⟨S1, hS1⟩ : ∃ S : ByteArray, S = ⟨l.toArray⟩ := ⟨_, rfl⟩
          obtain ⟨S2, hS2⟩ : ∃ S : ByteArray, S = ⟨l'.toArray⟩ := ⟨_, rfl⟩
          rw [← hS1] at q1 q3
          rw [← hS2] at q2 q4
          clear hS1 hS2
          go_wp2_with fail
          refine HW.out.mono ?_
          rintro e w10 ⟨rfl, hb10⟩
          go_wp2
          go_ret
          exact ⟨rfl, Below.on HB.out hb10⟩

theorem walk (a : Option Addr) (n c : Nat) (zs : List Int) (a' : Option Addr) (n' c' : Nat) (zs' : List Int) (w : World) (hr : RdI .u8 w a n c zs) (_ : c * 1 ≤ 140737488351232) (hr' : RdI .u8 w a' n' c' zs') (_ : c' * 1 ≤ 140737488351232) (hL : laidMetH Tryd.prog Rows.memoryApartRow.laid w) :
    Calls Tryd.prog 5 #[.slice a n c, .slice a' n' c'] w fun e w' => e = .returned (.bool true) ∧ Below w.heap.size w w' := by
  obtain ⟨es, hE⟩ := errs3 hL
  obtain ⟨l, hb, _⟩ := hr.bytes
  obtain ⟨l', hb', _⟩ := hr'.bytes
  by_cases h : n ≤ 300 ∧ n' ≤ 300
  · exact core a n c l a' n' c' l' w hb hb' h.1 h.2 es hE
  · exact long a n c a' n' c' w (by omega) es hE
end Go.Proofs.YtbolncddklgecaaDoor.memoryApart
