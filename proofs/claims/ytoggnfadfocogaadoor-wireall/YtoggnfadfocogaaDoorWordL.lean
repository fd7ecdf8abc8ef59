/- The contract of the program's word.GetList. -/
import Derived.Test.YtoggnfadfocogaaDoorWordG
namespace Go.Proofs.YtoggnfadfocogaaDoor
open Go Go.RowKit

theorem drewN2 (w : World) (p q : Nat) : ∃ r, (w.drewN p).drewN q = w.drewN r := ⟨p + q, by simp⟩

set_option maxRecDepth 100000 in
theorem getList_err (w : World) (a : Option Addr) (n c : Nat) (p : Int) (x : Addr)
    (H : Calls Tryd.prog 32 #[.slice a n c, .int .i64 p] w fun e w' => e = .returned (.tuple #[.int .u32 0, .iface 106 (.pointer (some x))]) ∧ ∃ q, w' = w.drewN q) :
    Calls Tryd.prog 50 #[.slice a n c, .int .i64 p] w fun e w' => e = .returned (.tuple #[.string ⟨#[]⟩, .int .i64 0, .iface 106 (.pointer (some x))]) ∧ ∃ q, w' = w.drewN q := by
  have H' : Hid (Calls Tryd.prog 32 #[.slice a n c, .int .i64 p] w fun e w' => e = .returned (.tuple #[.int .u32 0, .iface 106 (.pointer (some x))]) ∧ ∃ q, w' = w.drewN q) := H
  clear H
  go_enter Tryd.func50, Tryd.ntmps50
  go_wp2_with fail
  refine H'.out.mono ?_
  rintro e w2 ⟨rfl, q, rfl⟩
  go_wp2
  go_ret3
  exact ⟨rfl, _, rfl⟩

set_option maxRecDepth 100000 in
theorem getList_big (w : World) (a : Option Addr) (n c : Nat) (p : Int) (v : Nat) (hv : 4096 < v) (v4 : Value) (h4 : w.cell? ⟨0, 0, none⟩ = some v4)
    (H : Calls Tryd.prog 32 #[.slice a n c, .int .i64 p] w fun e w' => e = .returned (.tuple #[.int .u32 (v : Nat), .nilIface]) ∧ ∃ q, w' = w.drewN q) :
    Calls Tryd.prog 50 #[.slice a n c, .int .i64 p] w fun e w' => e = .returned (.tuple #[.string ⟨#[]⟩, .int .i64 0, v4]) ∧ ∃ q, w' = w.drewN q := by
  have H' : Hid (Calls Tryd.prog 32 #[.slice a n c, .int .i64 p] w fun e w' => e = .returned (.tuple #[.int .u32 (v : Nat), .nilIface]) ∧ ∃ q, w' = w.drewN q) := H
  clear H
  go_enter Tryd.func50, Tryd.ntmps50
  go_wp2_with fail
  refine H'.out.mono ?_
  rintro e w2 ⟨rfl, q, rfl⟩
  go_wp2
  go_quiet (fail)
  go_wp2
  go_ret3
  exact ⟨rfl, drewN2 _ _ _⟩

set_option maxRecDepth 100000 in
theorem getList_short (w : World) (a : Option Addr) (n c : Nat) (k : Nat) (hk : k + 4 ≤ n) (hn : n ≤ 1152921504606846976) (v : Nat) (hv : v ≤ 4096) (hs : n < k + 4 + (v + 3) / 4 * 4) (v2 : Value) (h2 : w.cell? ⟨3, 0, none⟩ = some v2)
    (H : Calls Tryd.prog 32 #[.slice a n c, .int .i64 k] w fun e w' => e = .returned (.tuple #[.int .u32 (v : Nat), .nilIface]) ∧ ∃ q, w' = w.drewN q) :
    Calls Tryd.prog 50 #[.slice a n c, .int .i64 k] w fun e w' => e = .returned (.tuple #[.string ⟨#[]⟩, .int .i64 0, v2]) ∧ ∃ q, w' = w.drewN q := by
  have H' : Hid (Calls Tryd.prog 32 #[.slice a n c, .int .i64 k] w fun e w' => e = .returned (.tuple #[.int .u32 (v : Nat), .nilIface]) ∧ ∃ q, w' = w.drewN q) := H
  clear H
  go_enter Tryd.func50, Tryd.ntmps50
  go_wp2_with fail
  refine H'.out.mono ?_
  rintro e w2 ⟨rfl, q, rfl⟩
  go_wp2_with (go_at_call 47; refine (filled_any v (by omega) _).mono ?_; rintro e w' ⟨rfl, rfl⟩)
  go_quiet (fail)
  go_wp2
  go_ret3
  exact ⟨rfl, drewN2 _ _ _⟩

theorem conv_none (w : World) (x : Addr) (c : Nat) : (convert 27 9 (.slice (some x) 0 c)).run Tryd.prog w = .ok (.string ⟨#[]⟩) w := by
  have hl : (loadCells x 0).run Tryd.prog w = .ok (([] : List Int).map (Value.int .u8)).toArray w := run_loadCells_list (P := Tryd.prog) w x [] (fun j v hj => by simp at hj)
  rw [run_convert_bytes_string w 27 9 5 _ 0 c Tryd.underlying27 Tryd.underlying5 Tryd.underlying9, run_bytesToString w _ 0 c _ hl]
  rfl

set_option maxRecDepth 100000 in
set_option maxHeartbeats 1000000 in
theorem getList_none (w : World) (b off n c : Nat) (hnc : n ≤ c) (k : Nat) (hn : n ≤ 1152921504606846976) (hk : k + 4 ≤ n)
    (H : Calls Tryd.prog 32 #[.slice (some ⟨b, off, none⟩) n c, .int .i64 k] w fun e w' => e = .returned (.tuple #[.int .u32 (0 : Nat), .nilIface]) ∧ ∃ q, w' = w.drewN q) :
    Calls Tryd.prog 50 #[.slice (some ⟨b, off, none⟩) n c, .int .i64 k] w fun e w' => e = .returned (.tuple #[.string ⟨#[]⟩, .int .i64 ((k : Int) + 4), .nilIface]) ∧ ∃ q, w' = w.drewN q := by
  have H' : Hid (Calls Tryd.prog 32 #[.slice (some ⟨b, off, none⟩) n c, .int .i64 k] w fun e w' => e = .returned (.tuple #[.int .u32 (0 : Nat), .nilIface]) ∧ ∃ q, w' = w.drewN q) := H
  clear H
  have hcv : ∀ q c', (convert 27 9 (.slice (some ⟨b, off, none⟩) 0 c')).run Tryd.prog (w.drewN q) = .ok (.string ⟨#[]⟩) (w.drewN q) := fun q c' => conv_none _ _ _
  go_enter Tryd.func50, Tryd.ntmps50
  go_wp2_with fail
  refine H'.out.mono ?_
  rintro e w2 ⟨rfl, q, rfl⟩
  go_wp2_with (go_at_call 47; refine (filled_any 0 (by omega) _).mono ?_; rintro e w' ⟨rfl, rfl⟩)
  refine wp_loop_rounds 1 ?_
  rw [rounds_succ]
  go_wp2
  go_ret3
  exact ⟨rfl, _, rfl⟩

set_option maxRecDepth 100000 in
set_option maxHeartbeats 1000000 in
theorem getList_even (w : World) (b off n c : Nat) (hnc : n ≤ c) (k : Nat) (hn : n ≤ 1152921504606846976) (v : Nat) (hv : v ≤ 4096) (hv0 : 0 < v) (hv4 : (v + 3) / 4 * 4 = v) (hk : k + 4 + v ≤ n) (s : ByteArray) (hcv : ∀ q c', (convert 27 9 (.slice (some ⟨b, off + (k + 4), none⟩) v c')).run Tryd.prog (w.drewN q) = .ok (.string s) (w.drewN q))
    (H : Calls Tryd.prog 32 #[.slice (some ⟨b, off, none⟩) n c, .int .i64 k] w fun e w' => e = .returned (.tuple #[.int .u32 (v : Nat), .nilIface]) ∧ ∃ q, w' = w.drewN q) :
    Calls Tryd.prog 50 #[.slice (some ⟨b, off, none⟩) n c, .int .i64 k] w fun e w' => e = .returned (.tuple #[.string s, .int .i64 ((k : Int) + 4 + v), .nilIface]) ∧ ∃ q, w' = w.drewN q := by
  have H' : Hid (Calls Tryd.prog 32 #[.slice (some ⟨b, off, none⟩) n c, .int .i64 k] w fun e w' => e = .returned (.tuple #[.int .u32 (v : Nat), .nilIface]) ∧ ∃ q, w' = w.drewN q) := H
  clear H
  have HF : Hid (∀ u, Calls Tryd.prog 47 #[.int .i64 v] u fun e w' => e = .returned (.int .i64 (v : Nat)) ∧ w' = u) := fun u => by have h := filled_any v (by omega) u; rw [hv4] at h; exact h
  clear hv4
  go_enter Tryd.func50, Tryd.ntmps50
  go_wp2_with fail
  refine H'.out.mono ?_
  rintro e w2 ⟨rfl, q, rfl⟩
  go_wp2_with (go_at_call 47; refine (HF.out _).mono ?_; rintro e w' ⟨rfl, rfl⟩)
  refine wp_loop_rounds 1 ?_
  rw [rounds_succ]
  go_wp2
  go_ret3
  exact ⟨rfl, _, rfl⟩

set_option maxRecDepth 100000 in
set_option maxHeartbeats 1000000 in
theorem getList_odd (w : World) (b off n c : Nat) (hnc : n ≤ c) (k : Nat) (hn : n ≤ 1152921504606846976) (v m : Nat) (hv : v ≤ 4096) (hv0 : 0 < v) (hv4 : (v + 3) / 4 * 4 = m) (hvm : v < m) (hm : m ≤ v + 3) (hk : k + 4 + m ≤ n) (s : ByteArray) (hcv : ∀ q c', (convert 27 9 (.slice (some ⟨b, off + (k + 4), none⟩) v c')).run Tryd.prog (w.drewN q) = .ok (.string s) (w.drewN q))
    (v3 : Value) (h3 : w.cell? ⟨1, 0, none⟩ = some v3) (f : Nat → Nat) (hf : ∀ j, j < m - v → w.cell? ⟨b, off + (k + 4) + v + j, none⟩ = some (.int .u8 (f j)))
    (H : Calls Tryd.prog 32 #[.slice (some ⟨b, off, none⟩) n c, .int .i64 k] w fun e w' => e = .returned (.tuple #[.int .u32 (v : Nat), .nilIface]) ∧ ∃ q, w' = w.drewN q) :
    Calls Tryd.prog 50 #[.slice (some ⟨b, off, none⟩) n c, .int .i64 k] w fun e w' => ((∀ j, j < m - v → f j = 0) → e = .returned (.tuple #[.string s, .int .i64 ((k : Int) + 4 + m), .nilIface])) ∧ ((∃ j, j < m - v ∧ f j ≠ 0) → e = .returned (.tuple #[.string ⟨#[]⟩, .int .i64 0, v3])) ∧ ∃ q, w' = w.drewN q := by
  have H' : Hid (Calls Tryd.prog 32 #[.slice (some ⟨b, off, none⟩) n c, .int .i64 k] w fun e w' => e = .returned (.tuple #[.int .u32 (v : Nat), .nilIface]) ∧ ∃ q, w' = w.drewN q) := H
  clear H
  have HF : Hid (∀ u, Calls Tryd.prog 47 #[.int .i64 v] u fun e w' => e = .returned (.int .i64 (m : Nat)) ∧ w' = u) := fun u => by have h := filled_any v (by omega) u; rw [hv4] at h; exact h
  have hnm : decide ((n : Int) - ((k : Int) + 4) < m) = false := decide_eq_false (by omega)
  have hv1 : decide ((4096 : Int) < v) = false := decide_eq_false (by omega)
  have Hf : Hid (∀ j, j < m - v → w.cell? ⟨b, off + (k + 4) + v + j, none⟩ = some (.int .u8 (f j))) := hf
  clear hv4 hf
  go_enter Tryd.func50, Tryd.ntmps50
  go_wp2_with fail
  refine H'.out.mono ?_
  rintro e w2 ⟨rfl, q, rfl⟩
  go_wp2_with (go_at_call 47; refine (HF.out _).mono ?_; rintro e w' ⟨rfl, rfl⟩)
  go_loop [53] (fun i => ∃ j : Nat, j ≤ m - v ∧ i = .int .i64 j ∧ ∀ t, t < j → f t = 0) (fun i => (m - v) - (intOf i).toNat)
  case atStart => exact ⟨0, Nat.zero_le _, rfl, fun t ht => by omega⟩
  case round =>
    obtain ⟨j, hj, rfl, hz⟩ := hrel
    have HZ : Hid (∀ t, t < j → f t = 0) := hz
    clear hz
    by_cases hlt : j < m - v
    · have hc := Hf.out j hlt
      by_cases h0 : f j = 0
      · have hc0 : w.cell? ⟨b, off + (k + 4) + v + j, none⟩ = some (.int .u8 0) := by rw [hc, h0]; rfl
        have H0 : Hid (f j = 0) := h0
        clear hc h0
        go_wp2
        go_round
        case rel => exact ⟨j + 1, by omega, by go_num, fun t ht => by rcases Nat.lt_or_ge t j with h' | h'; exact HZ.out t h'; obtain rfl : t = j := (by omega); exact H0.out⟩
        case measure => simp [intOf]; omega
      · have h0' : ((f j : Int) != 0) = true := by rw [bne_iff_ne]; omega
        have H0 : Hid (f j ≠ 0) := h0
        clear h0
        go_wp2
        go_quiet (fail)
        go_wp2
        go_ret3
        exact ⟨fun h => absurd (h j hlt) H0.out, fun _ => rfl, drewN2 _ _ _⟩
    · go_wp2
      go_ret3
      refine ⟨fun _ => rfl, ?_, _, rfl⟩
      first | exact fun ⟨t, ht, h⟩ => absurd (HZ.out t (by omega)) h | exact fun t ht h => absurd (HZ.out t (by omega)) h

/-! GetList's answer. -/
def lstE (l : List UInt8) (p : Int) : Nat :=
  if getE l p ≠ 0 then getE l p else if 4096 < getV l p then 4 else if (l.length : Int) - p - 4 < ((getV l p + 3) / 4 * 4 : Nat) then 2
  else if ∀ j, j < (getV l p + 3) / 4 * 4 - getV l p → l.getD (p.toNat + 4 + getV l p + j) 0 = 0 then 0 else 3
def lstS (l : List UInt8) (p : Int) : List UInt8 := if lstE l p = 0 then (l.drop (p.toNat + 4)).take (getV l p) else []
def lstN (l : List UInt8) (p : Int) : Nat := if lstE l p = 0 then p.toNat + 4 + (getV l p + 3) / 4 * 4 else 0

theorem ret3s {s t : ByteArray} {a b : Int} {x : Value} (h : s = t) (h' : a = b) : Ending.returned (.tuple #[.string s, .int .i64 a, x]) = .returned (.tuple #[.string t, .int .i64 b, x]) := by rw [h, h']

theorem conv_window {w : World} {b off : Nat} {l : List UInt8} (hc : ∀ j (hj : j < l.length), w.cell? ⟨b, off + j, none⟩ = some (.int .u8 (l[j].toNat : Int))) (i v : Nat) (h : i + v ≤ l.length) (q c' : Nat) :
    (convert 27 9 (.slice (some ⟨b, off + i, none⟩) v c')).run Tryd.prog (w.drewN q) = .ok (.string ⟨((l.drop i).take v).toArray⟩) (w.drewN q) := by
  have hlen : ((l.drop i).take v).length = v := by rw [List.length_take, List.length_drop]; omega
  have hl : (loadCells ⟨b, off + i, none⟩ v).run Tryd.prog (w.drewN q) = .ok ((((l.drop i).take v).map fun b => (b.toNat : Int)).map (Value.int .u8)).toArray (w.drewN q) := by
    have := run_loadCells_list (P := Tryd.prog) (w.drewN q) ⟨b, off + i, none⟩ (bc ((l.drop i).take v)) (fun j u hu => by
      have hj : j < v := by
        rcases Nat.lt_or_ge j v with h' | h'
        · exact h'
        · rw [List.getElem?_eq_none (by rw [bc_length, hlen]; exact h')] at hu; cases hu
      rw [Go.WideShapes.add_plain, Nat.add_assoc]
      have hcell := hc (i + j) (by omega)
      rw [bc, List.getElem?_map, List.getElem?_take_of_lt hj, List.getElem?_drop, List.getElem?_eq_getElem (by omega)] at hu
      rw [← hu]
      simpa using hcell)
    rw [bc_length, hlen] at this
    rw [this, bc, List.map_map]
    rfl
  rw [run_convert_bytes_string _ 27 9 5 _ v c' Tryd.underlying27 Tryd.underlying5 Tryd.underlying9, run_bytesToString _ _ v c' _ hl, foldl_push_bytes, map_ofNat_toNat]
  simp [ByteArray.empty, ByteArray.emptyWithCapacity]
  rfl

theorem getList_any (w : World) (a : Option Addr) (n c : Nat) (l : List UInt8) (hr : Rd w a n c l) (hn : n ≤ 1152921504606846976) (es : List Addr) (hE : E4 w es) (p : Int) :
    Calls Tryd.prog 50 #[.slice a n c, .int .i64 p] w fun e w' => e = .returned (.tuple #[.string ⟨(lstS l p).toArray⟩, .int .i64 (lstN l p), erv es (lstE l p)]) ∧ ∃ q, w' = w.drewN q := by
  have hl := hr.len
  have HG := get_any w a n c l hr hn es hE p
  by_cases hE0 : getE l p = 0
  · rw [hE0] at HG
    have hp : 0 ≤ p ∧ p + 4 ≤ (l.length : Int) := by
      unfold getE at hE0
      split at hE0
      · cases hE0
      · split at hE0
        · cases hE0
        · omega
    obtain ⟨k, rfl⟩ := Int.eq_ofNat_of_zero_le hp.1
    obtain ⟨b, off, rfl, hbs, hc⟩ := hr.plain (by omega)
    generalize hv : getV l (k : Int) = v at HG
    by_cases h4 : 4096 < v
    · have e1 : lstE l k = 4 := by rw [lstE, if_neg (by rw [hE0]; decide), hv, if_pos h4]
      have e2 : lstS l k = [] := by rw [lstS, e1]; rfl
      have e3 : lstN l k = 0 := by rw [lstN, e1]; rfl
      rw [e1, e2, e3]
      exact getList_big w _ n c k v h4 _ hE.big HG
    · by_cases hs : (l.length : Int) - k - 4 < ((v + 3) / 4 * 4 : Nat)
      · have e1 : lstE l k = 2 := by rw [lstE, if_neg (by rw [hE0]; decide), hv, if_neg h4, if_pos hs]
        have e2 : lstS l k = [] := by rw [lstS, e1]; rfl
        have e3 : lstN l k = 0 := by rw [lstN, e1]; rfl
        rw [e1, e2, e3]
        exact getList_short w _ n c k (by omega) hn v (by omega) (by omega) _ hE.short HG
      · have hcv := fun q c' => conv_window hc (k + 4) v (by omega) q c'
        have hok : (∀ j, j < (v + 3) / 4 * 4 - v → l.getD (k + 4 + v + j) 0 = 0) → lstE l k = 0 ∧ lstS l k = (l.drop (k + 4)).take v ∧ lstN l k = k + 4 + (v + 3) / 4 * 4 := by
          intro hz
          have e1 : lstE l k = 0 := by rw [lstE, if_neg (by rw [hE0]; decide), hv, if_neg h4, if_neg hs, Int.toNat_natCast, if_pos hz]
          exact ⟨e1, by rw [lstS, if_pos e1, hv]; rfl, by rw [lstN, if_pos e1, hv]; rfl⟩
        by_cases hv0 : v = 0
        · subst hv0
          obtain ⟨e1, e2, e3⟩ := hok (fun j hj => by omega)
          rw [e1, e2, e3]
          refine (getList_none w b off n c hr.le k hn (by omega) HG).mono ?_
          rintro e w' ⟨rfl, hq⟩
          exact ⟨ret3s (by simp) (by omega), hq⟩
        · by_cases hev : (v + 3) / 4 * 4 = v
          · obtain ⟨e1, e2, e3⟩ := hok (fun j hj => by omega)
            rw [e1, e2, e3]
            refine (getList_even w b off n c hr.le k hn v (by omega) (by omega) hev (by omega) _ hcv HG).mono ?_
            rintro e w' ⟨rfl, hq⟩
            exact ⟨ret3s rfl (by omega), hq⟩
          · have hbyte : ∀ j, j < (v + 3) / 4 * 4 - v → w.cell? ⟨b, off + (k + 4) + v + j, none⟩ = some (.int .u8 (((l.getD (k + 4 + v + j) 0).toNat : Nat) : Int)) := fun j hj => by
              rw [show off + (k + 4) + v + j = off + (k + 4 + v + j) by omega]
              exact cell_at hc _ (by omega)
            refine (getList_odd w b off n c hr.le k hn v _ (by omega) (by omega) rfl (by omega) (by omega) (by omega) _ hcv _ hE.bytes (fun j => (l.getD (k + 4 + v + j) 0).toNat) hbyte HG).mono ?_
            rintro e w' ⟨h1, h2, hq⟩
            refine ⟨?_, hq⟩
            by_cases hz : ∀ j, j < (v + 3) / 4 * 4 - v → l.getD (k + 4 + v + j) 0 = 0
            · obtain ⟨e1, e2, e3⟩ := hok hz
              rw [e1, e2, e3, h1 (fun j hj => by simp only [hz j hj]; rfl)]
              exact ret3s rfl (by omega)
            · have e1 : lstE l k = 3 := by rw [lstE, if_neg (by rw [hE0]; decide), hv, if_neg h4, if_neg hs, Int.toNat_natCast, if_neg hz]
              have e2 : lstS l k = [] := by rw [lstS, e1]; rfl
              have e3 : lstN l k = 0 := by rw [lstN, e1]; rfl
              rw [e1, e2, e3]
              refine h2 ?_
              refine Classical.byContradiction fun hno => hz fun j hj => Classical.byContradiction fun hne => hno ⟨j, hj, fun h => hne (UInt8.toNat_inj.1 h)⟩
  · have e1 : lstE l p = getE l p := by rw [lstE, if_pos hE0]
    have e2 : lstS l p = [] := by rw [lstS, e1, if_neg hE0]
    have e3 : lstN l p = 0 := by rw [lstN, e1, if_neg hE0]
    have e4 : getV l p = 0 := getV_err hE0
    rw [e1, e2, e3]
    rw [e4] at HG
    obtain ⟨m, hm⟩ : ∃ m, getE l p = m + 1 := ⟨getE l p - 1, by omega⟩
    rw [hm] at HG ⊢
    exact getList_err w a n c p _ HG
end Go.Proofs.YtoggnfadfocogaaDoor
