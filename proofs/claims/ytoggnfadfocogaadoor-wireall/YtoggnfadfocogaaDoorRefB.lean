/- The contracts of tableauref01.get, GetList and GetText. -/
import Derived.Test.YtoggnfadfocogaaDoorRefA
namespace Go.Proofs.YtoggnfadfocogaaDoor
open Go Go.RowKit

def AllZ (f : Nat → Nat) (v m : Nat) : Prop := ∀ j, v ≤ j → j < m → f j = 0

set_option maxRecDepth 100000 in
set_option maxHeartbeats 1000000 in
theorem rget_err (w : World) (a : Option Addr) (n c : Nat) (p : Int) (E : Nat) (hE : ((E : Int) != 0) = true)
    (H : Calls Tryd.prog 33 #[.slice a n c, .int .i64 p] w fun e w' => e = .returned (.tuple #[.int .u32 (0 : Nat), .int .i64 E]) ∧ ∃ q, w' = w.drewN q) :
    Calls Tryd.prog 51 #[.slice a n c, .int .i64 p] w fun e w' => e = .returned (.tuple #[.string ⟨#[]⟩, .int .i64 0, .int .i64 E]) ∧ ∃ q, w' = w.drewN q := by
  have H' : Hid (Calls Tryd.prog 33 #[.slice a n c, .int .i64 p] w fun e w' => e = .returned (.tuple #[.int .u32 (0 : Nat), .int .i64 E]) ∧ ∃ q, w' = w.drewN q) := H
  clear H
  go_enter Tryd.func51, Tryd.ntmps51
  go_wp2_with fail
  refine H'.out.mono ?_
  rintro e w2 ⟨rfl, q, rfl⟩
  go_wp2
  go_ret3
  exact ⟨rfl, _, rfl⟩

set_option maxRecDepth 100000 in
set_option maxHeartbeats 1000000 in
theorem rget_big (w : World) (a : Option Addr) (n c : Nat) (p : Int) (v : Nat) (hv : 4096 < v) (hv2 : v < 4294967296)
    (H : Calls Tryd.prog 33 #[.slice a n c, .int .i64 p] w fun e w' => e = .returned (.tuple #[.int .u32 (v : Nat), .int .i64 0]) ∧ ∃ q, w' = w.drewN q) :
    Calls Tryd.prog 51 #[.slice a n c, .int .i64 p] w fun e w' => e = .returned (.tuple #[.string ⟨#[]⟩, .int .i64 0, .int .i64 4]) ∧ ∃ q, w' = w.drewN q := by
  have H' : Hid (Calls Tryd.prog 33 #[.slice a n c, .int .i64 p] w fun e w' => e = .returned (.tuple #[.int .u32 (v : Nat), .int .i64 0]) ∧ ∃ q, w' = w.drewN q) := H
  clear H
  go_enter Tryd.func51, Tryd.ntmps51
  go_wp2_with fail
  refine H'.out.mono ?_
  rintro e w2 ⟨rfl, q, rfl⟩
  go_wp2
  go_ret3
  exact ⟨rfl, _, rfl⟩

set_option maxRecDepth 100000 in
set_option maxHeartbeats 1000000 in
theorem rget_short (w : World) (a : Option Addr) (n c : Nat) (k : Nat) (hk : k + 4 ≤ n) (hn : n ≤ 1152921504606846976) (v : Nat) (hv : v ≤ 4096) (hs : n < k + 4 + (v + 3) / 4 * 4)
    (H : Calls Tryd.prog 33 #[.slice a n c, .int .i64 k] w fun e w' => e = .returned (.tuple #[.int .u32 (v : Nat), .int .i64 0]) ∧ ∃ q, w' = w.drewN q) :
    Calls Tryd.prog 51 #[.slice a n c, .int .i64 k] w fun e w' => e = .returned (.tuple #[.string ⟨#[]⟩, .int .i64 0, .int .i64 2]) ∧ ∃ q, w' = w.drewN q := by
  have H' : Hid (Calls Tryd.prog 33 #[.slice a n c, .int .i64 k] w fun e w' => e = .returned (.tuple #[.int .u32 (v : Nat), .int .i64 0]) ∧ ∃ q, w' = w.drewN q) := H
  clear H
  go_enter Tryd.func51, Tryd.ntmps51
  go_wp2_with fail
  refine H'.out.mono ?_
  rintro e w2 ⟨rfl, q, rfl⟩
  go_wp2
  go_ret3
  exact ⟨rfl, _, rfl⟩

set_option maxRecDepth 100000 in
set_option maxHeartbeats 1000000 in
theorem rget_rest (w : World) (b off n c : Nat) (hnc : n ≤ c) (hcm : c ≤ maxLen) (k : Nat) (hn : n ≤ 1152921504606846976) (v m : Nat) (hv : v ≤ 4096) (hv4 : (v + 3) / 4 * 4 = m) (hvm : v ≤ m) (hm : m ≤ v + 3) (hk : k + 4 + m ≤ n) (s : ByteArray) (hcv : ∀ q c', (convert 27 9 (.slice (some ⟨b, off + (k + 4), none⟩) v c')).run Tryd.prog (w.drewN q) = .ok (.string s) (w.drewN q)) (hs0 : v = 0 → s = ⟨#[]⟩)
    (f : Nat → Nat) (hf : ∀ j, v ≤ j → j < m → w.cell? ⟨b, off + (k + 4 + j), none⟩ = some (.int .u8 (f j)))
    (H : Calls Tryd.prog 33 #[.slice (some ⟨b, off, none⟩) n c, .int .i64 k] w fun e w' => e = .returned (.tuple #[.int .u32 (v : Nat), .int .i64 0]) ∧ ∃ q, w' = w.drewN q) :
    Calls Tryd.prog 51 #[.slice (some ⟨b, off, none⟩) n c, .int .i64 k] w fun e w' => (AllZ f v m → e = .returned (.tuple #[.string s, .int .i64 ((k : Int) + 4 + m), .int .i64 0])) ∧ (¬ AllZ f v m → e = .returned (.tuple #[.string ⟨#[]⟩, .int .i64 0, .int .i64 3])) ∧ ∃ q, w' = w.drewN q := by
  have H' : Hid (Calls Tryd.prog 33 #[.slice (some ⟨b, off, none⟩) n c, .int .i64 k] w fun e w' => e = .returned (.tuple #[.int .u32 (v : Nat), .int .i64 0]) ∧ ∃ q, w' = w.drewN q) := H
  clear H
  have hnm : decide ((n : Int) - k - 4 < m) = false := decide_eq_false (by omega)
  have hv1 : decide ((4096 : Int) < v) = false := decide_eq_false (by omega)
  have e4 : ((v : Int) + 3) / 4 * 4 = m := by omega
  have Hf : Hid (∀ j, v ≤ j → j < m → w.cell? ⟨b, off + (k + 4 + j), none⟩ = some (.int .u8 (f j))) := hf
  unfold maxLen at hcm
  clear hv4 hf
  go_enter Tryd.func51, Tryd.ntmps51
  go_wp2_with fail
  refine H'.out.mono ?_
  rintro e w2 ⟨rfl, q, rfl⟩
  go_wp2
  go_loop [11] (fun i => ∃ j : Nat, v ≤ j ∧ j ≤ m ∧ i = .int .i64 j ∧ ∀ t, v ≤ t → t < j → f t = 0) (fun i => m - (intOf i).toNat)
  case atStart => exact ⟨v, by omega, by omega, rfl, fun t h ht => by omega⟩
  case round =>
    obtain ⟨j, hj1, hj2, rfl, hz⟩ := hrel
    have HZ : Hid (∀ t, v ≤ t → t < j → f t = 0) := hz
    clear hz
    by_cases hlt : j < m
    · have hc := Hf.out j hj1 hlt
      have hjn : (k : Int) + 4 + j < n := by omega
      by_cases h0 : f j = 0
      · have hc0 : w.cell? ⟨b, off + (k + 4 + j), none⟩ = some (.int .u8 0) := by rw [hc, h0]; rfl
        have H0 : Hid (f j = 0) := h0
        clear hc h0
        go_wp2
        go_round
        case rel => exact ⟨j + 1, by omega, by omega, by go_num, fun t h ht => by rcases Nat.lt_or_ge t j with h' | h'; exact HZ.out t h h'; obtain rfl : t = j := (by omega); exact H0.out⟩
        case measure => simp [intOf]; omega
      · have h0' : ((f j : Int) != 0) = true := by rw [bne_iff_ne]; omega
        have H0 : Hid (f j ≠ 0) := h0
        clear h0
        go_wp2
        go_ret3
        exact ⟨fun h => absurd (h j hj1 hlt) H0.out, fun _ => rfl, _, rfl⟩
    · by_cases hv0 : v = 0
      · obtain rfl := hs0 hv0
        subst hv0
        have hcv0 : ∀ q x c', (convert 27 9 (.slice (some x) 0 c')).run Tryd.prog (w.drewN q) = .ok (.string ⟨#[]⟩) (w.drewN q) := fun q x c' => conv_none _ _ _
        clear hcv
        go_wp2
        all_goals go_ret3
        all_goals exact ⟨fun _ => rfl, fun h => absurd (fun t h1 h2 => HZ.out t h1 (by omega)) h, _, rfl⟩
      · go_wp2
        go_ret3
        exact ⟨fun _ => rfl, fun h => absurd (fun t h1 h2 => HZ.out t h1 (by omega)) h, _, rfl⟩

theorem rget_any (w : World) (a : Option Addr) (n c : Nat) (l : List UInt8) (hr : Rd w a n c l) (hn : n ≤ 1152921504606846976) (p : Int) :
    Calls Tryd.prog 51 #[.slice a n c, .int .i64 p] w fun e w' => e = .returned (.tuple #[.string ⟨(lstS l p).toArray⟩, .int .i64 (lstN l p), .int .i64 (lstE l p)]) ∧ ∃ q, w' = w.drewN q := by
  have hl := hr.len
  have HG := rGet_any w a n c l hr hn p
  by_cases hE0 : getE l p = 0
  · rw [hE0] at HG
    have hp : 0 ≤ p ∧ p + 4 ≤ (l.length : Int) := by
      unfold getE at hE0
      split at hE0
      · cases hE0
      · split at hE0
        · cases hE0
        · omega
    obtain ⟨k, rfl⟩ := Int.eq_ofNat_of_zero_le hp.1
    obtain ⟨b, off, rfl, hbs, hc⟩ := hr.plain (by omega)
    have hv32 : getV l (k : Int) < 4294967296 := by
      rw [getV_ok (by omega), num4]
      have hb : ∀ x : UInt8, x.toNat < 256 := fun x => x.toNat_lt
      have h0 := hb (l.getD k 0)
      have h1 := hb (l.getD (k + 1) 0)
      have h2 := hb (l.getD (k + 2) 0)
      have h3 := hb (l.getD (k + 3) 0)
      omega
    generalize hv : getV l (k : Int) = v at HG hv32
    by_cases h4 : 4096 < v
    · have e1 : lstE l k = 4 := by rw [lstE, if_neg (by rw [hE0]; decide), hv, if_pos h4]
      have e2 : lstS l k = [] := by rw [lstS, e1]; rfl
      have e3 : lstN l k = 0 := by rw [lstN, e1]; rfl
      rw [e1, e2, e3]
      exact rget_big w _ n c k v h4 hv32 HG
    · by_cases hs : (l.length : Int) - k - 4 < ((v + 3) / 4 * 4 : Nat)
      · have e1 : lstE l k = 2 := by rw [lstE, if_neg (by rw [hE0]; decide), hv, if_neg h4, if_pos hs]
        have e2 : lstS l k = [] := by rw [lstS, e1]; rfl
        have e3 : lstN l k = 0 := by rw [lstN, e1]; rfl
        rw [e1, e2, e3]
        exact rget_short w _ n c k (by omega) hn v (by omega) (by omega) HG
      · have hcv := fun q c' => conv_window hc (k + 4) v (by omega) q c'
        have hbyte : ∀ j, v ≤ j → j < (v + 3) / 4 * 4 → w.cell? ⟨b, off + (k + 4 + j), none⟩ = some (.int .u8 (((l.getD (k + 4 + j) 0).toNat : Nat) : Int)) := fun j _ hj => cell_at hc _ (by omega)
        refine (rget_rest w b off n c hr.le hr.max k hn v _ (by omega) rfl (by omega) (by omega) (by omega) _ hcv (fun h => by subst h; simp) (fun j => (l.getD (k + 4 + j) 0).toNat) hbyte HG).mono ?_
        rintro e w' ⟨h1, h2, hq⟩
        refine ⟨?_, hq⟩
        by_cases hz : ∀ j, j < (v + 3) / 4 * 4 - v → l.getD (k + 4 + v + j) 0 = 0
        · have e1 : lstE l k = 0 := by rw [lstE, if_neg (by rw [hE0]; decide), hv, if_neg h4, if_neg hs, Int.toNat_natCast, if_pos hz]
          have e2 : lstS l k = (l.drop (k + 4)).take v := by rw [lstS, if_pos e1, hv]; rfl
          have e3 : lstN l k = k + 4 + (v + 3) / 4 * 4 := by rw [lstN, if_pos e1, hv]; rfl
          rw [e1, e2, e3, h1 (fun j hj hj' => by
            have := hz (j - v) (by omega)
            rw [show k + 4 + v + (j - v) = k + 4 + j by omega] at this
            simp only [this]
            rfl)]
          exact ret3s rfl (by omega)
        · have e1 : lstE l k = 3 := by rw [lstE, if_neg (by rw [hE0]; decide), hv, if_neg h4, if_neg hs, Int.toNat_natCast, if_neg hz]
          have e2 : lstS l k = [] := by rw [lstS, e1]; rfl
          have e3 : lstN l k = 0 := by rw [lstN, e1]; rfl
          rw [e1, e2, e3]
          refine h2 fun hall => hz fun j hj => UInt8.toNat_inj.1 ?_
          have := hall (v + j) (by omega) (by omega)
          simp only [show k + 4 + (v + j) = k + 4 + v + j by omega] at this
          exact this
  · have e1 : lstE l p = getE l p := by rw [lstE, if_pos hE0]
    have e2 : lstS l p = [] := by rw [lstS, e1, if_neg hE0]
    have e3 : lstN l p = 0 := by rw [lstN, e1, if_neg hE0]
    have e4 : getV l p = 0 := getV_err hE0
    rw [e1, e2, e3]
    rw [e4] at HG
    exact rget_err w a n c p _ (by rw [bne_iff_ne]; omega) HG

theorem rGetList_any (w : World) (a : Option Addr) (n c : Nat) (l : List UInt8) (hr : Rd w a n c l) (hn : n ≤ 1152921504606846976) (p : Int) :
    Calls Tryd.prog 42 #[.slice a n c, .int .i64 p] w fun e w' => e = .returned (.tuple #[.string ⟨(lstS l p).toArray⟩, .int .i64 (lstN l p), .int .i64 (lstE l p)]) ∧ ∃ q, w' = w.drewN q := by
  have H : Hid (Calls Tryd.prog 51 #[.slice a n c, .int .i64 p] w fun e w' => e = .returned (.tuple #[.string ⟨(lstS l p).toArray⟩, .int .i64 (lstN l p), .int .i64 (lstE l p)]) ∧ ∃ q, w' = w.drewN q) := rget_any w a n c l hr hn p
  clear hr
  generalize lstS l p = S at *
  generalize lstN l p = M at *
  generalize lstE l p = E at *
  go_enter Tryd.func42, Tryd.ntmps42
  go_wp2_with fail
  refine H.out.mono ?_
  rintro e w2 ⟨rfl, q, rfl⟩
  go_wp2
  go_ret3
  exact ⟨rfl, _, rfl⟩

/-! GetText. -/
theorem index_none (l : List UInt8) (h : (0 : UInt8) ∉ l) : Lib.indexByte l 0 = -1 := by
  induction l with
  | nil => rfl
  | cons b l ih =>
    have hb : (b == (0 : UInt8)) = false := beq_eq_false_iff_ne.2 fun e => h (by rw [e]; exact List.mem_cons_self ..)
    rw [Lib.indexByte, hb, ih (fun hm => h (List.mem_cons_of_mem _ hm))]
    rfl

theorem ended_concat (s : List UInt8) (x : UInt8) : ended (s ++ [x]) = true ↔ x = 0 ∧ (0 : UInt8) ∉ s := by
  by_cases h0 : (0 : UInt8) ∈ s
  · rw [ended_no s [x] h0 (Nat.zero_lt_succ _)]
    exact ⟨(fun h => by cases h), fun h => absurd h0 h.2⟩
  · by_cases hx : x = 0
    · subst hx
      rw [ended_ok s h0]
      exact ⟨fun _ => ⟨rfl, h0⟩, fun _ => rfl⟩
    · have hn : (0 : UInt8) ∉ s ++ [x] := by
        rw [List.mem_append, List.mem_singleton]
        rintro (h | h)
        · exact h0 h
        · exact hx h.symm
      refine ⟨fun h => ?_, fun h => absurd h.1 hx⟩
      rw [ended, index_none _ hn, List.length_append] at h
      have h2 := (Bool.and_eq_true _ _ ▸ h : _ ∧ _).2
      rw [beq_iff_eq] at h2
      simp at h2

/-- The byte 0 is the last one, and no other. -/
def okT (s : ByteArray) : Prop := ∀ i (hi : i < s.size), (s[i] = 0 ↔ i = s.size - 1)

theorem okT_iff (l : List UInt8) (h : l ≠ []) : okT ⟨l.toArray⟩ ↔ ended l = true := by
  rcases List.eq_nil_or_concat l with rfl | ⟨s, x, rfl⟩
  · exact absurd rfl h
  · rw [List.concat_eq_append, ended_concat]
    have hat : ∀ i (hi : i < (ByteArray.mk (s ++ [x]).toArray).size), (ByteArray.mk (s ++ [x]).toArray)[i] = (s ++ [x])[i]'hi := fun i hi => rfl
    have hsz : (ByteArray.mk (s ++ [x]).toArray).size = s.length + 1 := by show (s ++ [x]).length = _; simp
    constructor
    · intro hk
      have hl := (hk s.length (by omega)).2 (by omega)
      rw [hat] at hl
      refine ⟨by simpa using hl, fun hm => ?_⟩
      obtain ⟨i, hi, e⟩ := List.getElem_of_mem hm
      have := (hk i (by omega)).1 (by rw [hat, List.getElem_append_left hi]; exact e)
      omega
    · rintro ⟨rfl, hn⟩ i hi
      rw [hat]
      by_cases h' : i < s.length
      · rw [List.getElem_append_left h']
        exact ⟨fun e => absurd (e ▸ List.getElem_mem h') hn, fun e => by omega⟩
      · have hi2 : i = s.length := by omega
        subst hi2
        simp [hsz]

set_option maxRecDepth 100000 in
set_option maxHeartbeats 1000000 in
theorem rtxt_none (w : World) (a : Option Addr) (n c : Nat) (p : Int) 
    (H : Calls Tryd.prog 33 #[.slice a n c, .int .i64 p] w fun e w' => e = .returned (.tuple #[.int .u32 0, .int .i64 0]) ∧ ∃ q, w' = w.drewN q) :
    Calls Tryd.prog 41 #[.slice a n c, .int .i64 p] w fun e w' => e = .returned (.tuple #[.string ⟨#[]⟩, .int .i64 0, .int .i64 3]) ∧ ∃ q, w' = w.drewN q := by
  have H' : Hid (Calls Tryd.prog 33 #[.slice a n c, .int .i64 p] w fun e w' => e = .returned (.tuple #[.int .u32 0, .int .i64 0]) ∧ ∃ q, w' = w.drewN q) := H
  clear H
  go_enter Tryd.func41, Tryd.ntmps41
  go_wp2_with fail
  refine H'.out.mono ?_
  rintro e w2 ⟨rfl, q, rfl⟩
  go_wp2
  go_ret3
  exact ⟨rfl, _, rfl⟩

set_option maxRecDepth 100000 in
set_option maxHeartbeats 1000000 in
theorem rtxt_err (w : World) (a : Option Addr) (n c : Nat) (p : Int) (v E0 E : Nat) (h0 : ((E0 : Int) == 0) = false ∨ (((E0 : Int) == 0) = true ∧ ((v : Int) == 0) = false)) (hE : ((E : Int) != 0) = true)
    (H : Calls Tryd.prog 33 #[.slice a n c, .int .i64 p] w fun e w' => e = .returned (.tuple #[.int .u32 (v : Nat), .int .i64 (E0 : Nat)]) ∧ ∃ q, w' = w.drewN q)
    (H2 : ∀ u, (∃ q, u = w.drewN q) → Calls Tryd.prog 51 #[.slice a n c, .int .i64 p] u fun e w' => e = .returned (.tuple #[.string ⟨#[]⟩, .int .i64 0, .int .i64 (E : Nat)]) ∧ ∃ q, w' = u.drewN q) :
    Calls Tryd.prog 41 #[.slice a n c, .int .i64 p] w fun e w' => e = .returned (.tuple #[.string ⟨#[]⟩, .int .i64 0, .int .i64 (E : Nat)]) ∧ ∃ q, w' = w.drewN q := by
  have H' : Hid (Calls Tryd.prog 33 #[.slice a n c, .int .i64 p] w fun e w' => e = .returned (.tuple #[.int .u32 (v : Nat), .int .i64 (E0 : Nat)]) ∧ ∃ q, w' = w.drewN q) := H
  have H2' : Hid (∀ u, (∃ q, u = w.drewN q) → Calls Tryd.prog 51 #[.slice a n c, .int .i64 p] u fun e w' => e = .returned (.tuple #[.string ⟨#[]⟩, .int .i64 0, .int .i64 (E : Nat)]) ∧ ∃ q, w' = u.drewN q) := H2
  clear H2
  clear H
  go_enter Tryd.func41, Tryd.ntmps41
  go_wp2_with fail
  refine H'.out.mono ?_
  rintro e w2 ⟨rfl, q, rfl⟩
  rcases h0 with h0 | ⟨h0, h1⟩
  all_goals
    go_wp2_with fail
    refine (H2'.out _ ⟨q, rfl⟩).mono ?_
    rintro e w3 ⟨rfl, q3, rfl⟩
    go_wp2
    go_ret3
    exact ⟨rfl, _, rfl⟩

set_option maxRecDepth 100000 in
set_option maxHeartbeats 1000000 in
theorem rtxt_rest (w : World) (a : Option Addr) (n c : Nat) (p : Int) (v : Nat) (h1 : ((v : Int) == 0) = false) (s : ByteArray) (hs : s.size ≤ 1152921504606846976) (hs0 : 0 < s.size) (M : Nat)
    (H : Calls Tryd.prog 33 #[.slice a n c, .int .i64 p] w fun e w' => e = .returned (.tuple #[.int .u32 (v : Nat), .int .i64 0]) ∧ ∃ q, w' = w.drewN q)
    (H2 : ∀ u, (∃ q, u = w.drewN q) → Calls Tryd.prog 51 #[.slice a n c, .int .i64 p] u fun e w' => e = .returned (.tuple #[.string s, .int .i64 (M : Nat), .int .i64 0]) ∧ ∃ q, w' = u.drewN q) :
    Calls Tryd.prog 41 #[.slice a n c, .int .i64 p] w fun e w' => (okT s → e = .returned (.tuple #[.string (s.extract 0 (s.size - 1)), .int .i64 (M : Nat), .int .i64 0])) ∧ (¬ okT s → e = .returned (.tuple #[.string ⟨#[]⟩, .int .i64 0, .int .i64 3])) ∧ ∃ q, w' = w.drewN q := by
  have H' : Hid (Calls Tryd.prog 33 #[.slice a n c, .int .i64 p] w fun e w' => e = .returned (.tuple #[.int .u32 (v : Nat), .int .i64 0]) ∧ ∃ q, w' = w.drewN q) := H
  have H2' : Hid (∀ u, (∃ q, u = w.drewN q) → Calls Tryd.prog 51 #[.slice a n c, .int .i64 p] u fun e w' => e = .returned (.tuple #[.string s, .int .i64 (M : Nat), .int .i64 0]) ∧ ∃ q, w' = u.drewN q) := H2
  clear H2
  clear H
  go_enter Tryd.func41, Tryd.ntmps41
  go_wp2_with fail
  refine H'.out.mono ?_
  rintro e w2 ⟨rfl, q, rfl⟩
  go_wp2_with fail
  refine (H2'.out _ ⟨q, rfl⟩).mono ?_
  rintro e w3 ⟨rfl, q3, rfl⟩
  go_wp2
  go_loop [12] (fun i => ∃ j : Nat, j ≤ s.size ∧ i = .int .i64 j ∧ ∀ t (ht : t < s.size), t < j → (s[t] = 0 ↔ t = s.size - 1)) (fun i => s.size - (intOf i).toNat)
  case atStart => exact ⟨0, by omega, rfl, fun t _ ht => by omega⟩
  case round =>
    obtain ⟨j, hj, rfl, hz⟩ := hrel
    have HZ : Hid (∀ t (ht : t < s.size), t < j → (s[t] = 0 ↔ t = s.size - 1)) := hz
    clear hz
    by_cases hlt : j < s.size
    · by_cases hl : j = s.size - 1
      · have hl' : ((j : Int) == (s.size : Int) - 1) = true := by rw [beq_iff_eq]; omega
        have HL : Hid (j = s.size - 1) := hl
        clear hl
        by_cases h0 : s[j] = 0
        · have h0' : ((s[j].toNat : Int) == 0) = true := by rw [h0]; rfl
          have H0 : Hid (s[j] = 0 ↔ j = s.size - 1) := ⟨fun _ => HL.out, fun _ => h0⟩
          clear h0
          go_wp2
          go_round
          case rel => exact ⟨j + 1, by omega, by go_num, fun t ht h => by rcases Nat.lt_or_ge t j with h' | h'; exact HZ.out t ht h'; obtain rfl : t = j := (by omega); exact H0.out⟩
          case measure => simp [intOf]; omega
        · have h0' : ((s[j].toNat : Int) == 0) = false := beq_eq_false_iff_ne.2 fun e => h0 (UInt8.toNat_inj.1 (by simpa using e))
          have H0 : Hid (¬ okT s) := fun h => h0 ((h j hlt).2 HL.out)
          clear h0
          go_wp2
          go_ret3
          exact ⟨fun h => absurd h H0.out, fun _ => rfl, _, rfl⟩
      · have hl' : ((j : Int) == (s.size : Int) - 1) = false := beq_eq_false_iff_ne.2 (by omega)
        have HL : Hid (j ≠ s.size - 1) := hl
        clear hl
        by_cases h0 : s[j] = 0
        · have h0' : ((s[j].toNat : Int) == 0) = true := by rw [h0]; rfl
          have H0 : Hid (¬ okT s) := fun h => HL.out ((h j hlt).1 h0)
          clear h0
          go_wp2
          go_ret3
          exact ⟨fun h => absurd h H0.out, fun _ => rfl, _, rfl⟩
        · have h0' : ((s[j].toNat : Int) == 0) = false := beq_eq_false_iff_ne.2 fun e => h0 (UInt8.toNat_inj.1 (by simpa using e))
          have H0 : Hid (s[j] = 0 ↔ j = s.size - 1) := ⟨fun h => absurd h h0, fun h => absurd h HL.out⟩
          clear h0
          go_wp2
          go_round
          case rel => exact ⟨j + 1, by omega, by go_num, fun t ht h => by rcases Nat.lt_or_ge t j with h' | h'; exact HZ.out t ht h'; obtain rfl : t = j := (by omega); exact H0.out⟩
          case measure => simp [intOf]; omega
    · have H0 : Hid (okT s) := fun i hi => HZ.out i hi (by omega)
      go_wp2
      go_ret3
      exact ⟨fun _ => rfl, fun h => absurd H0.out h, _, rfl⟩

theorem lstS_length (l : List UInt8) (p : Int) (h : lstE l p = 0) : (lstS l p).length = getV l p := by
  have h0 : getE l p = 0 := by
    unfold lstE at h
    split at h
    · omega
    · omega
  have hp : 0 ≤ p ∧ p + 4 ≤ (l.length : Int) := by
    unfold getE at h0
    split at h0
    · cases h0
    · split at h0
      · cases h0
      · omega
  have h2 : ¬ ((l.length : Int) - p - 4 < ((getV l p + 3) / 4 * 4 : Nat)) := by
    intro hh
    rw [lstE, if_neg (by rw [h0]; decide)] at h
    split at h
    · cases h
    · first | (rw [if_pos hh] at h; cases h) | cases h
  rw [lstS, if_pos h, List.length_take, List.length_drop]
  omega

theorem rGetText_any (w : World) (a : Option Addr) (n c : Nat) (l : List UInt8) (hr : Rd w a n c l) (hn : n ≤ 1152921504606846976) (p : Int) :
    Calls Tryd.prog 41 #[.slice a n c, .int .i64 p] w fun e w' => e = .returned (.tuple #[.string ⟨(txtS l p).toArray⟩, .int .i64 (txtN l p), .int .i64 (txtE l p)]) ∧ ∃ q, w' = w.drewN q := by
  have hl := hr.len
  have HG := rGet_any w a n c l hr hn p
  have HL : ∀ u, (∃ q, u = w.drewN q) → Calls Tryd.prog 51 #[.slice a n c, .int .i64 p] u fun e w' => e = .returned (.tuple #[.string ⟨(lstS l p).toArray⟩, .int .i64 (lstN l p), .int .i64 (lstE l p)]) ∧ ∃ q, w' = u.drewN q := fun u hu => by
    obtain ⟨q, rfl⟩ := hu
    exact rget_any _ a n c l ⟨hr.len, hr.le, hr.max, hr.hnil, fun x hx j u hu => by have := hr.cells x hx j u hu; simpa using this⟩ hn p
  have hle := lstS_le l p
  by_cases hE : lstE l p = 0
  · have hlen := lstS_length l p hE
    have h0 : getE l p = 0 := by
      unfold lstE at hE
      split at hE
      · omega
      · omega
    rw [h0] at HG
    by_cases hv : getV l p = 0
    · have e0 : lstS l p = [] := List.eq_nil_of_length_eq_zero (by omega)
      have e1 : txtE l p = 3 := by rw [txtE, if_neg (by rw [hE]; decide), e0]; rfl
      have e2 : txtS l p = [] := by rw [txtS, e1]; rfl
      have e3 : txtN l p = 0 := by rw [txtN, e1]; rfl
      rw [e1, e2, e3]
      rw [hv] at HG
      exact rtxt_none w a n c p HG
    · rw [hE] at HL
      have hne : lstS l p ≠ [] := fun h => by rw [h] at hlen; exact hv hlen.symm
      refine (rtxt_rest w a n c p _ (beq_eq_false_iff_ne.2 (by omega)) ⟨(lstS l p).toArray⟩ (by show (lstS l p).length ≤ _; omega) (by show 0 < (lstS l p).length; omega) _ HG HL).mono ?_
      rintro e w' ⟨h1, h2, hq⟩
      refine ⟨?_, hq⟩
      cases he : ended (lstS l p) with
      | false =>
        have e1 : txtE l p = 3 := by rw [txtE, if_neg (by rw [hE]; decide), he]; rfl
        have e2 : txtS l p = [] := by rw [txtS, e1]; rfl
        have e3 : txtN l p = 0 := by rw [txtN, e1]; rfl
        rw [e1, e2, e3]
        exact h2 (fun h => by rw [okT_iff _ hne, he] at h; cases h)
      | true =>
        have e1 : txtE l p = 0 := by rw [txtE, if_neg (by rw [hE]; decide), he]; rfl
        have e2 : txtS l p = (lstS l p).dropLast := by rw [txtS, if_pos e1]
        have e3 : txtN l p = lstN l p := by rw [txtN, if_pos e1]
        rw [e1, e2, e3, ← extract_last]
        exact h1 ((okT_iff _ hne).2 he)
  · have e1 : txtE l p = lstE l p := by rw [txtE, if_pos hE]
    have e2 : txtS l p = [] := by rw [txtS, e1, if_neg hE]
    have e3 : txtN l p = 0 := by rw [txtN, e1, if_neg hE]
    have f2 : lstS l p = [] := by rw [lstS, if_neg hE]
    have f3 : lstN l p = 0 := by rw [lstN, if_neg hE]
    rw [e1, e2, e3]
    rw [f2, f3] at HL
    refine rtxt_err w a n c p (getV l p) (getE l p) (lstE l p) ?_ (by rw [bne_iff_ne]; omega) HG HL
    by_cases h0 : getE l p = 0
    · refine .inr ⟨by rw [beq_iff_eq]; omega, beq_eq_false_iff_ne.2 fun hv => hE ?_⟩
      have hv : getV l p = 0 := by omega
      have hp : p + 4 ≤ (l.length : Int) := by
        unfold getE at h0
        split at h0
        · cases h0
        · split at h0
          · cases h0
          · omega
      rw [lstE, if_neg (by rw [h0]; decide), hv, if_neg (by decide), if_neg (by omega), if_pos (fun j hj => by omega)]
    · exact .inl (beq_eq_false_iff_ne.2 (by omega))
end Go.Proofs.YtoggnfadfocogaaDoor
