/- WordNumbers' walk: for every list of numbers the law returns true; nothing that was there is turned. -/
import Derived.Test.YtmddkaemknoepaaDoorWordC
import Derived.Test.YtmddkaemknoepaaDoorWordG
import Derived.Test.YtmddkaemknoepaaDoorKindA
namespace Go.Proofs.YtmddkaemknoepaaDoor.wordNumbers
open Go Go.RowKit

/-- Numbers one behind the other. -/
def flat (zs : List Int) : List UInt8 := zs.flatMap fun z => le4 z.toNat

theorem flat_length (zs : List Int) : (flat zs).length = 4 * zs.length := by
  induction zs with
  | nil => rfl
  | cons z zs ih => rw [flat, List.flatMap_cons, List.length_append, ← flat, ih, List.length_cons]; show 4 + _ = _; omega

theorem flat_step {zs : List Int} {k z : Nat} (hk : k < zs.length) (hz : zs.getD k 0 = (z : Int)) : flat (zs.take (k + 1)) = flat (zs.take k) ++ le4 z := by
  rw [List.take_succ_eq_append_getElem hk, flat, List.flatMap_append, ← flat]
  have e : zs[k] = (z : Int) := by rw [← hz, List.getD, List.getElem?_eq_getElem hk]; rfl
  rw [e]
  simp

theorem nat_at {zs : List Int} (hwf : ∀ z ∈ zs, (Lit.int .u32 z).wf = true) {k : Nat} (hk : k < zs.length) : ∃ z : Nat, zs.getD k 0 = (z : Int) ∧ z < 4294967296 := by
  have h := hwf zs[k] (List.getElem_mem hk)
  simp [Lit.wf, IntKind.min, IntKind.max, IntKind.signed, IntKind.bits] at h
  exact ⟨zs[k].toNat, by rw [List.getD, List.getElem?_eq_getElem hk]; simp; omega, by omega⟩

theorem owns_mono {w : World} {base base' e size n : Nat} {v : Value} {xs : List Value} (h : w.ownsRow base e size v n xs) (hb : base' ≤ base) : w.ownsRow base' e size v n xs := by
  obtain ⟨q1, q2⟩ := h
  refine ⟨q1, ?_⟩
  rcases q2 with q | ⟨g, cap, cur, e1, e2, e3⟩
  · exact .inl q
  · exact .inr ⟨g, cap, cur, e1, by omega, e3⟩

theorem num4_flat {zs : List Int} {k m z : Nat} (hk : k < zs.length) (hm : k < m) (h1 : zs.getD k 0 = (z : Int)) (h2 : z < 4294967296) : num4 (flat (zs.take m)) (4 * k) = z := by
  have e : zs.take m = zs.take k ++ (zs[k] :: (zs.take m).drop (k + 1)) := by
    have hkm : k < (zs.take m).length := by rw [List.length_take]; omega
    have e1 : (zs.take m).drop k = zs[k] :: (zs.take m).drop (k + 1) := by
      rw [List.drop_eq_getElem_cons hkm, List.getElem_take]
    rw [← e1, show zs.take k = (zs.take m).take k by rw [List.take_take]; congr 1; omega, List.take_append_drop]
  have ez : zs[k] = (z : Int) := by rw [← h1, List.getD, List.getElem?_eq_getElem hk]; rfl
  rw [e, flat, List.flatMap_append, List.flatMap_cons, ez, ← flat, ← flat]
  have hl : (flat (zs.take k)).length = 4 * k := by rw [flat_length, List.length_take]; omega
  rw [← hl]
  exact num4_at _ _ z h2

theorem _root_.Go.RowKit.Below.drewN {B : Nat} {a w : World} (h : Below B a w) (q : Nat) : Below B a (w.drewN q) := ⟨h.os, h.tape, h.output, h.size, h.block⟩

set_option maxRecDepth 100000 in
set_option maxHeartbeats 2000000 in
theorem core1 (b off n c : Nat) (zs : List Int) (w : World) (hbs : b < w.heap.size) (hz : zs.length = n) (hc : ∀ j, j < zs.length → w.cell? ⟨b, off + j, none⟩ = some (.int .u32 (zs.getD j 0))) (hwf : ∀ z ∈ zs, (Lit.int .u32 z).wf = true)
    (es : List Addr) (hE : E4 w es) (hF : Errs w gerrs es) (h : n ≤ 100) (hn : 0 < n) (_hnc : n ≤ c) :
    Calls Tryd.prog 6 #[.slice (some ⟨b, off, none⟩) n c] w fun e w' => e = .returned (.bool true) ∧ Below w.heap.size w w' := by
  have hdd : decide ((100 : Int) < n) = false := decide_eq_false (by omega)
  have hLm : Hid (n ≤ zs.length) := by simp only [Hid]; omega
  have hL4 : Hid ((flat (zs.take n)).length = 4 * n) := by rw [Hid, flat_length, List.length_take]; omega
  go_enter Tryd.func6, Tryd.ntmps6
  go_wp2
  go_loopw [3, 4] (fun v i wr => ∃ k : Nat, k ≤ n ∧ i = .int .i64 k ∧ wr.ownsRow w.heap.size 5 1 v (4 * k) (bc (flat (zs.take k))) ∧ Below w.heap.size w wr) (fun _ i _ => n - (intOf i).toNat)
  case atStart => exact ⟨0, Nat.zero_le _, rfl, World.ownsRow_nil _ _ _ _, Below.refl _ _⟩
  case round =>
    obtain ⟨k, hk, rfl, ho, hb⟩ := hrel
    have hsz := hb.size
    obtain ⟨a1, c1, rfl, hrd, hbk⟩ := rd_of_owns ho
    by_cases hlt : k < n
    · have hkl : k < zs.length := by have := hLm.out; omega
      obtain ⟨z, hz1, hz2⟩ := nat_at hwf hkl
      have hcell : wr.cell? ⟨b, off + k, none⟩ = some (.int .u32 (z : Nat)) := by rw [hb.cell (by exact hbs), hc k hkl, hz1]
      have HP : Hid (Calls Tryd.prog 9 #[.slice a1 (4 * k) c1, .int .u32 (z : Nat)] wr fun e w' => ∃ r, e = .returned r ∧ w'.ownsRow wr.heap.size 5 1 r (4 * k + 4) (bc (flat (zs.take k) ++ le4 z)) ∧ Below wr.heap.size wr w') := put_any wr a1 (4 * k) c1 _ hrd z hz2 (by omega)
      have HZ : Hid (zs.getD k 0 = (z : Nat)) := hz1
      clear hz1 hz2 hrd ho hbk
      go_wp2_with (go_at_call 9; refine HP.out.mono ?_; rintro e w2 ⟨r, rfl, ho2, hb2⟩)
      go_roundw
      case rel => exact ⟨k + 1, by omega, by go_num, by rw [flat_step hkl HZ.out]; exact owns_mono ho2 hsz, hb.trans (hb2.mono hsz)⟩
      case measure => simp [intOf]; omega
    · obtain rfl : n = k := by omega
      obtain ⟨w1, hw1⟩ : ∃ x, x = wr := ⟨_, rfl⟩
      subst hw1
      have HE : Hid (E4 w1 es) := hE.below hb
      have HF : Hid (Errs w1 gerrs es) := hF.below hb
      have HR : Hid (Rd w1 a1 (4 * n) c1 (flat (zs.take n))) := hrd
      have HBK : Hid (∀ x, a1 = some x → x.block < w1.heap.size) := fun x hx => (hbk x hx).2
      have HG : Hid (∀ (u : World) (p : Int), Below w1.heap.size w1 u → Calls Tryd.prog 19 #[.slice a1 (4 * n) c1, .int .i64 p] u fun e w' => e = .returned (.tuple #[.int .u32 (getV (flat (zs.take n)) p), erv es (getE (flat (zs.take n)) p)]) ∧ ∃ q, w' = u.drewN q) :=
        fun u p hu => get_any u a1 (4 * n) c1 _ (HR.out.below hu fun x hx _ => HBK.out x hx) (by omega) es (HE.out.below hu) p
      have HC : Hid (∀ (u : World), Below w1.heap.size w1 u → ∀ j, j < zs.length → u.cell? ⟨b, off + j, none⟩ = some (.int .u32 (zs.getD j 0))) := fun u hu j hj => by rw [hu.cell (show b < w1.heap.size by omega), hb.cell (by exact hbs), hc j hj]
      clear hrd ho hbk hE hF hc
      go_wp2
      go_loopw [5] (fun i wx => ∃ k : Nat, k ≤ n ∧ i = .int .i64 k ∧ Below w1.heap.size w1 wx) (fun i _ => n - (intOf i).toNat)
      case atStart => exact ⟨0, Nat.zero_le _, rfl, Below.refl _ _⟩
      case round =>
        obtain ⟨k, hk, rfl, hx⟩ := hrel
        by_cases hlt : k < n
        · have hkl : k < zs.length := by have := hLm.out; omega
          obtain ⟨z, hz1, hz2⟩ := nat_at hwf hkl
          have hcell : wr.cell? ⟨b, off + k, none⟩ = some (.int .u32 (z : Nat)) := by rw [HC.out wr hx k hkl, hz1]
          have HQ : Hid (Calls Tryd.prog 19 #[.slice a1 (4 * n) c1, .int .i64 (4 * (k : Int))] wr fun e w' => e = .returned (.tuple #[.int .u32 (z : Nat), .nilIface]) ∧ ∃ q, w' = wr.drewN q) := by
            have h4 := HG.out wr ((4 * k : Nat) : Int) hx
            rw [getV_ok (by rw [hL4.out]; omega), getE_ok (by rw [hL4.out]; omega), num4_flat hkl hlt hz1 hz2] at h4
            rw [show (4 * (k : Int)) = ((4 * k : Nat) : Int) by omega]
            exact h4
          clear hz1 hz2
          go_wp2_with (go_at_call 19; refine HQ.out.mono ?_; rintro e w2 ⟨rfl, q, rfl⟩)
          go_roundw
          case rel => exact ⟨k + 1, by omega, by go_num, hx.drewN q⟩
          case measure => simp [intOf]; omega
        · obtain rfl : n = k := by omega
          have HQ : Hid (Calls Tryd.prog 19 #[.slice a1 (4 * n) c1, .int .i64 (4 * ((n : Nat) : Int))] wr fun e w' => e = .returned (.tuple #[.int .u32 0, erv es 2]) ∧ ∃ q, w' = wr.drewN q) := by
            have h4 := HG.out wr ((4 * n : Nat) : Int) hx
            rw [getV_err (by rw [getE_short (by rw [hL4.out]; omega) (by rw [hL4.out]; omega)]; decide), getE_short (by rw [hL4.out]; omega) (by rw [hL4.out]; omega)] at h4
            rw [show (4 * ((n : Nat) : Int)) = ((4 * n : Nat) : Int) by omega]
            exact h4
          have HQ2 : Hid (∀ u : World, Below w1.heap.size w1 u → Calls Tryd.prog 19 #[.slice a1 (4 * n) c1, .int .i64 (4 * ((n : Nat) : Int) + 1)] u fun e w' => e = .returned (.tuple #[.int .u32 0, erv es 1]) ∧ ∃ q, w' = u.drewN q) := by
            intro u hu
            have h4 := HG.out u ((4 * n + 1 : Nat) : Int) hu
            rw [getV_err (by rw [getE_arg (by rw [hL4.out]; omega)]; decide), getE_arg (by rw [hL4.out]; omega)] at h4
            rw [show (4 * ((n : Nat) : Int) + 1) = ((4 * n + 1 : Nat) : Int) by omega]
            exact h4
          have HK : Hid (∀ (u : World) (j : Nat), j ≤ 16 → Below w1.heap.size w1 u → Calls Tryd.prog 25 #[erv es j] u fun e w' => e = .returned (.int .i64 j) ∧ Below u.heap.size u w') := fun u j hj hu => kind_erv u es (HF.out.below hu) j hj
          have hs1 := hb.size
          go_wp2_with fail
          refine HQ.out.mono ?_
          rintro e w2 ⟨rfl, q2, rfl⟩
          go_wp2_with fail
          refine (HQ2.out _ (hx.drewN q2)).mono ?_
          rintro e w3 ⟨rfl, q3, rfl⟩
          have hx3 := hx.drewN (q2 + q3)
          go_wp2_with fail
          refine (HK.out _ 2 (by decide) (by exact hx3)).mono ?_
          rintro e w4 ⟨rfl, hb4⟩
          have hx4 : Below w1.heap.size w1 w4 := hx3.trans (hb4.mono hx3.size)
          go_wp2_with fail
          refine (HK.out _ 1 (by decide) hx4).mono ?_
          rintro e w5 ⟨rfl, hb5⟩
          have hx5 : Below w1.heap.size w1 w5 := hx4.trans (hb5.mono hx4.size)
          go_wp2_with fail
          refine (awake_any _).mono ?_
          rintro e w6 ⟨rfl, hb6⟩
          have hx6 : Below w1.heap.size w1 w6 := hx5.trans (hb6.mono hx5.size)
          go_wp2
          go_ret
          exact ⟨rfl, hb.trans (hx6.mono hs1)⟩

set_option maxRecDepth 100000 in
set_option maxHeartbeats 2000000 in
theorem core2 (b off n c : Nat) (zs : List Int) (w : World) (hbs : b < w.heap.size) (hz : zs.length = n) (hc : ∀ j, j < zs.length → w.cell? ⟨b, off + j, none⟩ = some (.int .u32 (zs.getD j 0))) (hwf : ∀ z ∈ zs, (Lit.int .u32 z).wf = true)
    (es : List Addr) (hE : E4 w es) (hF : Errs w gerrs es) (h : 100 < n) (_hn : 0 < n) (hnc : n ≤ c) :
    Calls Tryd.prog 6 #[.slice (some ⟨b, off, none⟩) n c] w fun e w' => e = .returned (.bool true) ∧ Below w.heap.size w w' := by
  have hdd : decide ((100 : Int) < n) = true := decide_eq_true (by omega)
  go_enter Tryd.func6, Tryd.ntmps6
  go_wp2
  generalize hm : (100 : Nat) = m
  have hm1 : m ≤ 100 := by omega
  have hLm : Hid (m ≤ zs.length) := by simp only [Hid]; omega
  have hL4 : Hid ((flat (zs.take m)).length = 4 * m) := by rw [Hid, flat_length, List.length_take]; omega
  have hmc : m ≤ c := by omega
  clear hm
  go_loopw [3, 4] (fun v i wr => ∃ k : Nat, k ≤ m ∧ i = .int .i64 k ∧ wr.ownsRow w.heap.size 5 1 v (4 * k) (bc (flat (zs.take k))) ∧ Below w.heap.size w wr) (fun _ i _ => m - (intOf i).toNat)
  case atStart => exact ⟨0, Nat.zero_le _, rfl, World.ownsRow_nil _ _ _ _, Below.refl _ _⟩
  case round =>
    obtain ⟨k, hk, rfl, ho, hb⟩ := hrel
    have hsz := hb.size
    obtain ⟨a1, c1, rfl, hrd, hbk⟩ := rd_of_owns ho
    by_cases hlt : k < m
    · have hkl : k < zs.length := by have := hLm.out; omega
      obtain ⟨z, hz1, hz2⟩ := nat_at hwf hkl
      have hcell : wr.cell? ⟨b, off + k, none⟩ = some (.int .u32 (z : Nat)) := by rw [hb.cell (by exact hbs), hc k hkl, hz1]
      have HP : Hid (Calls Tryd.prog 9 #[.slice a1 (4 * k) c1, .int .u32 (z : Nat)] wr fun e w' => ∃ r, e = .returned r ∧ w'.ownsRow wr.heap.size 5 1 r (4 * k + 4) (bc (flat (zs.take k) ++ le4 z)) ∧ Below wr.heap.size wr w') := put_any wr a1 (4 * k) c1 _ hrd z hz2 (by omega)
      have HZ : Hid (zs.getD k 0 = (z : Nat)) := hz1
      clear hz1 hz2 hrd ho hbk
      go_wp2_with (go_at_call 9; refine HP.out.mono ?_; rintro e w2 ⟨r, rfl, ho2, hb2⟩)
      go_roundw
      case rel => exact ⟨k + 1, by omega, by go_num, by rw [flat_step hkl HZ.out]; exact owns_mono ho2 hsz, hb.trans (hb2.mono hsz)⟩
      case measure => simp [intOf]; omega
    · obtain rfl : m = k := by omega
      obtain ⟨w1, hw1⟩ : ∃ x, x = wr := ⟨_, rfl⟩
      subst hw1
      have HE : Hid (E4 w1 es) := hE.below hb
      have HF : Hid (Errs w1 gerrs es) := hF.below hb
      have HR : Hid (Rd w1 a1 (4 * m) c1 (flat (zs.take m))) := hrd
      have HBK : Hid (∀ x, a1 = some x → x.block < w1.heap.size) := fun x hx => (hbk x hx).2
      have HG : Hid (∀ (u : World) (p : Int), Below w1.heap.size w1 u → Calls Tryd.prog 19 #[.slice a1 (4 * m) c1, .int .i64 p] u fun e w' => e = .returned (.tuple #[.int .u32 (getV (flat (zs.take m)) p), erv es (getE (flat (zs.take m)) p)]) ∧ ∃ q, w' = u.drewN q) :=
        fun u p hu => get_any u a1 (4 * m) c1 _ (HR.out.below hu fun x hx _ => HBK.out x hx) (by omega) es (HE.out.below hu) p
      have HC : Hid (∀ (u : World), Below w1.heap.size w1 u → ∀ j, j < zs.length → u.cell? ⟨b, off + j, none⟩ = some (.int .u32 (zs.getD j 0))) := fun u hu j hj => by rw [hu.cell (show b < w1.heap.size by omega), hb.cell (by exact hbs), hc j hj]
      clear hrd ho hbk hE hF hc
      go_wp2
      go_loopw [5] (fun i wx => ∃ k : Nat, k ≤ m ∧ i = .int .i64 k ∧ Below w1.heap.size w1 wx) (fun i _ => m - (intOf i).toNat)
      case atStart => exact ⟨0, Nat.zero_le _, rfl, Below.refl _ _⟩
      case round =>
        obtain ⟨k, hk, rfl, hx⟩ := hrel
        by_cases hlt : k < m
        · have hkl : k < zs.length := by have := hLm.out; omega
          obtain ⟨z, hz1, hz2⟩ := nat_at hwf hkl
          have hcell : wr.cell? ⟨b, off + k, none⟩ = some (.int .u32 (z : Nat)) := by rw [HC.out wr hx k hkl, hz1]
          have HQ : Hid (Calls Tryd.prog 19 #[.slice a1 (4 * m) c1, .int .i64 (4 * (k : Int))] wr fun e w' => e = .returned (.tuple #[.int .u32 (z : Nat), .nilIface]) ∧ ∃ q, w' = wr.drewN q) := by
            have h4 := HG.out wr ((4 * k : Nat) : Int) hx
            rw [getV_ok (by rw [hL4.out]; omega), getE_ok (by rw [hL4.out]; omega), num4_flat hkl hlt hz1 hz2] at h4
            rw [show (4 * (k : Int)) = ((4 * k : Nat) : Int) by omega]
            exact h4
          clear hz1 hz2
          go_wp2_with (go_at_call 19; refine HQ.out.mono ?_; rintro e w2 ⟨rfl, q, rfl⟩)
          go_roundw
          case rel => exact ⟨k + 1, by omega, by go_num, hx.drewN q⟩
          case measure => simp [intOf]; omega
        · obtain rfl : m = k := by omega
          have HQ : Hid (Calls Tryd.prog 19 #[.slice a1 (4 * m) c1, .int .i64 (4 * ((m : Nat) : Int))] wr fun e w' => e = .returned (.tuple #[.int .u32 0, erv es 2]) ∧ ∃ q, w' = wr.drewN q) := by
            have h4 := HG.out wr ((4 * m : Nat) : Int) hx
            rw [getV_err (by rw [getE_short (by rw [hL4.out]; omega) (by rw [hL4.out]; omega)]; decide), getE_short (by rw [hL4.out]; omega) (by rw [hL4.out]; omega)] at h4
            rw [show (4 * ((m : Nat) : Int)) = ((4 * m : Nat) : Int) by omega]
            exact h4
          have HQ2 : Hid (∀ u : World, Below w1.heap.size w1 u → Calls Tryd.prog 19 #[.slice a1 (4 * m) c1, .int .i64 (4 * ((m : Nat) : Int) + 1)] u fun e w' => e = .returned (.tuple #[.int .u32 0, erv es 1]) ∧ ∃ q, w' = u.drewN q) := by
            intro u hu
            have h4 := HG.out u ((4 * m + 1 : Nat) : Int) hu
            rw [getV_err (by rw [getE_arg (by rw [hL4.out]; omega)]; decide), getE_arg (by rw [hL4.out]; omega)] at h4
            rw [show (4 * ((m : Nat) : Int) + 1) = ((4 * m + 1 : Nat) : Int) by omega]
            exact h4
          have HK : Hid (∀ (u : World) (j : Nat), j ≤ 16 → Below w1.heap.size w1 u → Calls Tryd.prog 25 #[erv es j] u fun e w' => e = .returned (.int .i64 j) ∧ Below u.heap.size u w') := fun u j hj hu => kind_erv u es (HF.out.below hu) j hj
          have hs1 := hb.size
          go_wp2_with fail
          refine HQ.out.mono ?_
          rintro e w2 ⟨rfl, q2, rfl⟩
          go_wp2_with fail
          refine (HQ2.out _ (hx.drewN q2)).mono ?_
          rintro e w3 ⟨rfl, q3, rfl⟩
          have hx3 := hx.drewN (q2 + q3)
          go_wp2_with fail
          refine (HK.out _ 2 (by decide) (by exact hx3)).mono ?_
          rintro e w4 ⟨rfl, hb4⟩
          have hx4 : Below w1.heap.size w1 w4 := hx3.trans (hb4.mono hx3.size)
          go_wp2_with fail
          refine (HK.out _ 1 (by decide) hx4).mono ?_
          rintro e w5 ⟨rfl, hb5⟩
          have hx5 : Below w1.heap.size w1 w5 := hx4.trans (hb5.mono hx4.size)
          go_wp2_with fail
          refine (awake_any _).mono ?_
          rintro e w6 ⟨rfl, hb6⟩
          have hx6 : Below w1.heap.size w1 w6 := hx5.trans (hb6.mono hx5.size)
          go_wp2
          go_ret
          exact ⟨rfl, hb.trans (hx6.mono hs1)⟩


set_option maxRecDepth 100000 in
set_option maxHeartbeats 1000000 in
theorem core0 (a : Option Addr) (c : Nat) (w : World) (es : List Addr) (hE : E4 w es) (hF : Errs w gerrs es) :
    Calls Tryd.prog 6 #[.slice a 0 c] w fun e w' => e = .returned (.bool true) ∧ Below w.heap.size w w' := by
  have HG : Hid (∀ (u : World) (p : Int), Below w.heap.size w u → Calls Tryd.prog 19 #[.slice none 0 0, .int .i64 p] u fun e w' => e = .returned (.tuple #[.int .u32 (getV [] p), erv es (getE [] p)]) ∧ ∃ q, w' = u.drewN q) :=
    fun u p hu => get_any u none 0 0 _ (Rd.nil u) (by omega) es (hE.below hu) p
  have HK : Hid (∀ (u : World) (j : Nat), j ≤ 16 → Below w.heap.size w u → Calls Tryd.prog 25 #[erv es j] u fun e w' => e = .returned (.int .i64 j) ∧ Below u.heap.size u w') := fun u j hj hu => kind_erv u es (hF.below hu) j hj
  have HQ : Hid (Calls Tryd.prog 19 #[.slice none 0 0, .int .i64 0] w fun e w' => e = .returned (.tuple #[.int .u32 0, erv es 2]) ∧ ∃ q, w' = w.drewN q) := HG.out w 0 (Below.refl _ _)
  have HQ2 : Hid (∀ u : World, Below w.heap.size w u → Calls Tryd.prog 19 #[.slice none 0 0, .int .i64 1] u fun e w' => e = .returned (.tuple #[.int .u32 0, erv es 1]) ∧ ∃ q, w' = u.drewN q) := fun u hu => HG.out u 1 hu
  clear hE hF
  go_enter Tryd.func6, Tryd.ntmps6
  go_wp2
  refine wp_loop_rounds 1 ?_
  rw [rounds_succ]
  go_wp2
  refine wp_loop_rounds 1 ?_
  rw [rounds_succ]
  go_wp2_with fail
  refine HQ.out.mono ?_
  rintro e w2 ⟨rfl, q2, rfl⟩
  go_wp2_with fail
  refine (HQ2.out _ ((Below.refl _ _).drewN q2)).mono ?_
  rintro e w3 ⟨rfl, q3, rfl⟩
  have hx3 := (Below.refl w.heap.size w).drewN (q2 + q3)
  go_wp2_with fail
  refine (HK.out _ 2 (by decide) (by exact hx3)).mono ?_
  rintro e w4 ⟨rfl, hb4⟩
  have hx4 : Below w.heap.size w w4 := hx3.trans (hb4.mono hx3.size)
  go_wp2_with fail
  refine (HK.out _ 1 (by decide) hx4).mono ?_
  rintro e w5 ⟨rfl, hb5⟩
  have hx5 : Below w.heap.size w w5 := hx4.trans (hb5.mono hx4.size)
  go_wp2_with fail
  refine (awake_any _).mono ?_
  rintro e w6 ⟨rfl, hb6⟩
  have hx6 : Below w.heap.size w w6 := hx5.trans (hb6.mono hx5.size)
  go_wp2
  go_ret
  exact ⟨rfl, hx6⟩

theorem walk (a : Option Addr) (n c : Nat) (zs : List Int) (w : World) (hr : RdI .u32 w a n c zs) (_ : c * 4 ≤ 140737488351232) (hL : laidMetH Tryd.prog Rows.wordNumbersRow.laid w) :
    Calls Tryd.prog 6 #[.slice a n c] w fun e w' => e = .returned (.bool true) ∧ Below w.heap.size w w' := by
  obtain ⟨es, hF⟩ := errs16 hL
  have hE : E4 w es := E4.of hF rfl
  have hl := hr.len
  have hle := hr.le
  by_cases h0 : n = 0
  · subst h0
    exact core0 a c w es hE hF
  · obtain ⟨b, off, rfl, hbs, hc⟩ := hr.plain (by omega)
    by_cases h1 : n ≤ 100
    · exact core1 b off n c zs w hbs hl hc hr.wf es hE hF h1 (by omega) hle
    · exact core2 b off n c zs w hbs hl hc hr.wf es hE hF (by omega) (by omega) hle
end Go.Proofs.YtmddkaemknoepaaDoor.wordNumbers
