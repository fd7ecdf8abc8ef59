/- Lemmas that the proof leans on. -/
import Derived.Test.YtpbgbpcdohdecaaGreatDoorB05
namespace Go.Proofs.YtpbgbpcdohdecaaGreatDoor
open Go Go.RowKit
set_option maxRecDepth 100000
set_option maxHeartbeats 1000000
section
theorem drewN2_WordL (w : World) (p q : Nat) : ∃ r, (w.drewN p).drewN q = w.drewN r := ⟨p + q, by simp⟩
theorem getList_err (w : World) (a : Option Addr) (n c : Nat) (p : Int) (x : Addr)
  (H : Calls Tryz.prog 233 #[.slice a n c, .int .i64 p] w fun e w' => e = .returned (.tuple #[.int .u32 0, .iface 392 (.pointer (some x))]) ∧ ∃ q, w' = w.drewN q) :
  Calls Tryz.prog 171 #[.slice a n c, .int .i64 p] w fun e w' => e = .returned (.tuple #[.string ⟨#[]⟩, .int .i64 0, .iface 392 (.pointer (some x))]) ∧ ∃ q, w' = w.drewN q := by
 have H' : Hid (Calls Tryz.prog 233 #[.slice a n c, .int .i64 p] w fun e w' => e = .returned (.tuple #[.int .u32 0, .iface 392 (.pointer (some x))]) ∧ ∃ q, w' = w.drewN q) := H
 clear H
 go_enter Tryz.func171, Tryz.ntmps171
 go_wp2_with fail
 refine H'.out.mono ?_
 rintro e w2 ⟨rfl, q, rfl⟩
 go_wp2
 go_ret3
 exact ⟨rfl, _, rfl⟩
theorem getList_big (w : World) (a : Option Addr) (n c : Nat) (p : Int) (v : Nat) (hv : 4096 < v) (v4 : Value) (h4 : w.cell? ⟨5, 0, none⟩ = some v4)
  (H : Calls Tryz.prog 233 #[.slice a n c, .int .i64 p] w fun e w' => e = .returned (.tuple #[.int .u32 (v : Nat), .nilIface]) ∧ ∃ q, w' = w.drewN q) :
  Calls Tryz.prog 171 #[.slice a n c, .int .i64 p] w fun e w' => e = .returned (.tuple #[.string ⟨#[]⟩, .int .i64 0, v4]) ∧ ∃ q, w' = w.drewN q := by
 have H' : Hid (Calls Tryz.prog 233 #[.slice a n c, .int .i64 p] w fun e w' => e = .returned (.tuple #[.int .u32 (v : Nat), .nilIface]) ∧ ∃ q, w' = w.drewN q) := H
 clear H
 go_enter Tryz.func171, Tryz.ntmps171
 go_wp2_with fail
 refine H'.out.mono ?_
 rintro e w2 ⟨rfl, q, rfl⟩
 go_wp2
 go_quiet (fail)
 go_wp2
 go_ret3
 exact ⟨rfl, drewN2_WordL _ _ _⟩
theorem getList_short (w : World) (a : Option Addr) (n c : Nat) (k : Nat) (hk : k + 4 ≤ n) (hn : n ≤ 1152921504606846976) (v : Nat) (hv : v ≤ 4096) (hs : n < k + 4 + (v + 3) / 4 * 4) (v2 : Value) (h2 : w.cell? ⟨3, 0, none⟩ = some v2)
  (H : Calls Tryz.prog 233 #[.slice a n c, .int .i64 k] w fun e w' => e = .returned (.tuple #[.int .u32 (v : Nat), .nilIface]) ∧ ∃ q, w' = w.drewN q) :
  Calls Tryz.prog 171 #[.slice a n c, .int .i64 k] w fun e w' => e = .returned (.tuple #[.string ⟨#[]⟩, .int .i64 0, v2]) ∧ ∃ q, w' = w.drewN q := by
 have H' : Hid (Calls Tryz.prog 233 #[.slice a n c, .int .i64 k] w fun e w' => e = .returned (.tuple #[.int .u32 (v : Nat), .nilIface]) ∧ ∃ q, w' = w.drewN q) := H
 clear H
 go_enter Tryz.func171, Tryz.ntmps171
 go_wp2_with fail
 refine H'.out.mono ?_
 rintro e w2 ⟨rfl, q, rfl⟩
 go_wp2_with (go_at_call 235; refine (filled_any v (by omega) _).mono ?_; rintro e w' ⟨rfl, rfl⟩)
 go_quiet (fail)
 go_wp2
 go_ret3
 exact ⟨rfl, drewN2_WordL _ _ _⟩
theorem conv_none_WordL (w : World) (x : Addr) (c : Nat) : (convert 148 9 (.slice (some x) 0 c)).run Tryz.prog w = .ok (.string ⟨#[]⟩) w := by
 have hl : (loadCells x 0).run Tryz.prog w = .ok (([] : List Int).map (Value.int .u8)).toArray w := run_loadCells_list (P := Tryz.prog) w x [] (fun j v hj => by simp at hj)
 rw [run_convert_bytes_string w 148 9 5 _ 0 c Tryz.underlying148 Tryz.underlying5 Tryz.underlying9, run_bytesToString w _ 0 c _ hl]
 rfl
theorem getList_none (w : World) (b off n c : Nat) (hnc : n ≤ c) (k : Nat) (hn : n ≤ 1152921504606846976) (hk : k + 4 ≤ n)
  (H : Calls Tryz.prog 233 #[.slice (some ⟨b, off, none⟩) n c, .int .i64 k] w fun e w' => e = .returned (.tuple #[.int .u32 (0 : Nat), .nilIface]) ∧ ∃ q, w' = w.drewN q) :
  Calls Tryz.prog 171 #[.slice (some ⟨b, off, none⟩) n c, .int .i64 k] w fun e w' => e = .returned (.tuple #[.string ⟨#[]⟩, .int .i64 ((k : Int) + 4), .nilIface]) ∧ ∃ q, w' = w.drewN q := by
 have H' : Hid (Calls Tryz.prog 233 #[.slice (some ⟨b, off, none⟩) n c, .int .i64 k] w fun e w' => e = .returned (.tuple #[.int .u32 (0 : Nat), .nilIface]) ∧ ∃ q, w' = w.drewN q) := H
 clear H
 have hcv : ∀ q c', (convert 148 9 (.slice (some ⟨b, off, none⟩) 0 c')).run Tryz.prog (w.drewN q) = .ok (.string ⟨#[]⟩) (w.drewN q) := fun q c' => conv_none_WordL _ _ _
 go_enter Tryz.func171, Tryz.ntmps171
 go_wp2_with fail
 refine H'.out.mono ?_
 rintro e w2 ⟨rfl, q, rfl⟩
 go_wp2_with (go_at_call 235; refine (filled_any 0 (by omega) _).mono ?_; rintro e w' ⟨rfl, rfl⟩)
 refine wp_loop_rounds 1 ?_
 rw [rounds_succ]
 go_wp2
 go_ret3
 exact ⟨rfl, _, rfl⟩
theorem getList_even (w : World) (b off n c : Nat) (hnc : n ≤ c) (k : Nat) (hn : n ≤ 1152921504606846976) (v : Nat) (hv : v ≤ 4096) (hv0 : 0 < v) (hv4 : (v + 3) / 4 * 4 = v) (hk : k + 4 + v ≤ n) (s : ByteArray) (hcv : ∀ q c', (convert 148 9 (.slice (some ⟨b, off + (k + 4), none⟩) v c')).run Tryz.prog (w.drewN q) = .ok (.string s) (w.drewN q))
  (H : Calls Tryz.prog 233 #[.slice (some ⟨b, off, none⟩) n c, .int .i64 k] w fun e w' => e = .returned (.tuple #[.int .u32 (v : Nat), .nilIface]) ∧ ∃ q, w' = w.drewN q) :
  Calls Tryz.prog 171 #[.slice (some ⟨b, off, none⟩) n c, .int .i64 k] w fun e w' => e = .returned (.tuple #[.string s, .int .i64 ((k : Int) + 4 + v), .nilIface]) ∧ ∃ q, w' = w.drewN q := by
 have H' : Hid (Calls Tryz.prog 233 #[.slice (some ⟨b, off, none⟩) n c, .int .i64 k] w fun e w' => e = .returned (.tuple #[.int .u32 (v : Nat), .nilIface]) ∧ ∃ q, w' = w.drewN q) := H
 clear H
 have HF : Hid (∀ u, Calls Tryz.prog 235 #[.int .i64 v] u fun e w' => e = .returned (.int .i64 (v : Nat)) ∧ w' = u) := fun u => by have h := filled_any v (by omega) u; rw [hv4] at h; exact h
 clear hv4
 go_enter Tryz.func171, Tryz.ntmps171
 go_wp2_with fail
 refine H'.out.mono ?_
 rintro e w2 ⟨rfl, q, rfl⟩
 go_wp2_with (go_at_call 235; refine (HF.out _).mono ?_; rintro e w' ⟨rfl, rfl⟩)
 refine wp_loop_rounds 1 ?_
 rw [rounds_succ]
 go_wp2
 go_ret3
 exact ⟨rfl, _, rfl⟩
theorem getList_odd (w : World) (b off n c : Nat) (hnc : n ≤ c) (k : Nat) (hn : n ≤ 1152921504606846976) (v m : Nat) (hv : v ≤ 4096) (hv0 : 0 < v) (hv4 : (v + 3) / 4 * 4 = m) (hvm : v < m) (hm : m ≤ v + 3) (hk : k + 4 + m ≤ n) (s : ByteArray) (hcv : ∀ q c', (convert 148 9 (.slice (some ⟨b, off + (k + 4), none⟩) v c')).run Tryz.prog (w.drewN q) = .ok (.string s) (w.drewN q))
  (v3 : Value) (h3 : w.cell? ⟨4, 0, none⟩ = some v3) (f : Nat → Nat) (hf : ∀ j, j < m - v → w.cell? ⟨b, off + (k + 4) + v + j, none⟩ = some (.int .u8 (f j)))
  (H : Calls Tryz.prog 233 #[.slice (some ⟨b, off, none⟩) n c, .int .i64 k] w fun e w' => e = .returned (.tuple #[.int .u32 (v : Nat), .nilIface]) ∧ ∃ q, w' = w.drewN q) :
  Calls Tryz.prog 171 #[.slice (some ⟨b, off, none⟩) n c, .int .i64 k] w fun e w' => ((∀ j, j < m - v → f j = 0) → e = .returned (.tuple #[.string s, .int .i64 ((k : Int) + 4 + m), .nilIface])) ∧ ((∃ j, j < m - v ∧ f j ≠ 0) → e = .returned (.tuple #[.string ⟨#[]⟩, .int .i64 0, v3])) ∧ ∃ q, w' = w.drewN q := by
 have H' : Hid (Calls Tryz.prog 233 #[.slice (some ⟨b, off, none⟩) n c, .int .i64 k] w fun e w' => e = .returned (.tuple #[.int .u32 (v : Nat), .nilIface]) ∧ ∃ q, w' = w.drewN q) := H
 clear H
 have HF : Hid (∀ u, Calls Tryz.prog 235 #[.int .i64 v] u fun e w' => e = .returned (.int .i64 (m : Nat)) ∧ w' = u) := fun u => by have h := filled_any v (by omega) u; rw [hv4] at h; exact h
 have hnm : decide ((n : Int) - ((k : Int) + 4) < m) = false := decide_eq_false (by omega)
 have hv1 : decide ((4096 : Int) < v) = false := decide_eq_false (by omega)
 have Hf : Hid (∀ j, j < m - v → w.cell? ⟨b, off + (k + 4) + v + j, none⟩ = some (.int .u8 (f j))) := hf
 clear hv4 hf
 go_enter Tryz.func171, Tryz.ntmps171
 go_wp2_with fail
 refine H'.out.mono ?_
 rintro e w2 ⟨rfl, q, rfl⟩
 go_wp2_with (go_at_call 235; refine (HF.out _).mono ?_; rintro e w' ⟨rfl, rfl⟩)
 go_loop [53] (fun i => ∃ j : Nat, j ≤ m - v ∧ i = .int .i64 j ∧ ∀ t, t < j → f t = 0) (fun i => (m - v) - (RowKit.intOf i).toNat)
 case atStart => exact ⟨0, Nat.zero_le _, rfl, fun t ht => by omega⟩
 case round =>
  obtain ⟨j, hj, rfl, hz⟩ := hrel
  have HZ : Hid (∀ t, t < j → f t = 0) := hz
  clear hz
  by_cases hlt : j < m - v
  ·have hc := Hf.out j hlt
   by_cases h0 : f j = 0
   ·have hc0 : w.cell? ⟨b, off + (k + 4) + v + j, none⟩ = some (.int .u8 0) := by rw [hc, h0]; rfl
    have H0 : Hid (f j = 0) := h0
    clear hc h0
    go_wp2
    go_round
    case rel => exact ⟨j + 1, by omega, by go_num, fun t ht => by rcases Nat.lt_or_ge t j with h' | h'; exact HZ.out t h'; obtain rfl : t = j := (by omega); exact H0.out⟩
    case measure => simp [RowKit.intOf]; omega
   ·have h0' : ((f j : Int) != 0) = true := by rw [bne_iff_ne]; omega
    have H0 : Hid (f j ≠ 0) := h0
    clear h0
    go_wp2
    go_quiet (fail)
    go_wp2
    go_ret3
    exact ⟨fun h => absurd (h j hlt) H0.out, fun _ => rfl, drewN2_WordL _ _ _⟩
  ·go_wp2
   go_ret3
   refine ⟨fun _ => rfl, ?_, _, rfl⟩
   first | exact fun ⟨t, ht, h⟩ => absurd (HZ.out t (by omega)) h | exact fun t ht h => absurd (HZ.out t (by omega)) h
def lstE (l : List UInt8) (p : Int) : Nat :=
 if getE l p ≠ 0 then getE l p else if 4096 < getV l p then 4 else if (l.length : Int) - p - 4 < ((getV l p + 3) / 4 * 4 : Nat) then 2
 else if ∀ j, j < (getV l p + 3) / 4 * 4 - getV l p → l.getD (p.toNat + 4 + getV l p + j) 0 = 0 then 0 else 3
def lstS (l : List UInt8) (p : Int) : List UInt8 := if lstE l p = 0 then (l.drop (p.toNat + 4)).take (getV l p) else []
def lstN (l : List UInt8) (p : Int) : Nat := if lstE l p = 0 then p.toNat + 4 + (getV l p + 3) / 4 * 4 else 0
theorem ret3s {s t : ByteArray} {a b : Int} {x : Value} (h : s = t) (h' : a = b) : Ending.returned (.tuple #[.string s, .int .i64 a, x]) = .returned (.tuple #[.string t, .int .i64 b, x]) := by rw [h, h']
theorem conv_window_WordL {w : World} {b off : Nat} {l : List UInt8} (hc : ∀ j (hj : j < l.length), w.cell? ⟨b, off + j, none⟩ = some (.int .u8 (l[j].toNat : Int))) (i v : Nat) (h : i + v ≤ l.length) (q c' : Nat) :
  (convert 148 9 (.slice (some ⟨b, off + i, none⟩) v c')).run Tryz.prog (w.drewN q) = .ok (.string ⟨((l.drop i).take v).toArray⟩) (w.drewN q) := by
 have hlen : ((l.drop i).take v).length = v := by rw [List.length_take, List.length_drop]; omega
 have hl : (loadCells ⟨b, off + i, none⟩ v).run Tryz.prog (w.drewN q) = .ok ((((l.drop i).take v).map fun b => (b.toNat : Int)).map (Value.int .u8)).toArray (w.drewN q) := by
  have := run_loadCells_list (P := Tryz.prog) (w.drewN q) ⟨b, off + i, none⟩ (bc ((l.drop i).take v)) (fun j u hu => by
   have hj : j < v := by
    rcases Nat.lt_or_ge j v with h' | h'
    ·exact h'
    ·rw [List.getElem?_eq_none (by rw [bc_length, hlen]; exact h')] at hu; cases hu
   rw [Go.WideShapes.add_plain, Nat.add_assoc]
   have hcell := hc (i + j) (by omega)
   rw [bc, List.getElem?_map, List.getElem?_take_of_lt hj, List.getElem?_drop, List.getElem?_eq_getElem (by omega)] at hu
   rw [← hu]
   simpa using hcell)
  rw [bc_length, hlen] at this
  rw [this, bc, List.map_map]
  rfl
 rw [run_convert_bytes_string _ 148 9 5 _ v c' Tryz.underlying148 Tryz.underlying5 Tryz.underlying9, run_bytesToString _ _ v c' _ hl, foldl_push_bytes, map_ofNat_toNat]
 simp [ByteArray.empty, ByteArray.emptyWithCapacity]
 rfl
theorem getList_any (w : World) (a : Option Addr) (n c : Nat) (l : List UInt8) (hr : Rd w a n c l) (hn : n ≤ 1152921504606846976) (es : List Addr) (hE : E4 w es) (p : Int) :
  Calls Tryz.prog 171 #[.slice a n c, .int .i64 p] w fun e w' => e = .returned (.tuple #[.string ⟨(lstS l p).toArray⟩, .int .i64 (lstN l p), erv es (lstE l p)]) ∧ ∃ q, w' = w.drewN q := by
 have hl := hr.len
 have HG := get_any w a n c l hr hn es hE p
 by_cases hE0 : getE l p = 0
 ·rw [hE0] at HG
  have hp : 0 ≤ p ∧ p + 4 ≤ (l.length : Int) := by
   unfold getE at hE0
   split at hE0
   ·cases hE0
   ·split at hE0
    ·cases hE0
    ·omega
  obtain ⟨k, rfl⟩ := Int.eq_ofNat_of_zero_le hp.1
  obtain ⟨b, off, rfl, hbs, hc⟩ := hr.plain (by omega)
  generalize hv : getV l (k : Int) = v at HG
  by_cases h4 : 4096 < v
  ·have e1 : lstE l k = 4 := by rw [lstE, if_neg (by rw [hE0]; decide), hv, if_pos h4]
   have e2 : lstS l k = [] := by rw [lstS, e1]; rfl
   have e3 : lstN l k = 0 := by rw [lstN, e1]; rfl
   rw [e1, e2, e3]
   exact getList_big w _ n c k v h4 _ hE.big HG
  ·by_cases hs : (l.length : Int) - k - 4 < ((v + 3) / 4 * 4 : Nat)
   ·have e1 : lstE l k = 2 := by rw [lstE, if_neg (by rw [hE0]; decide), hv, if_neg h4, if_pos hs]
    have e2 : lstS l k = [] := by rw [lstS, e1]; rfl
    have e3 : lstN l k = 0 := by rw [lstN, e1]; rfl
    rw [e1, e2, e3]
    exact getList_short w _ n c k (by omega) hn v (by omega) (by omega) _ hE.short HG
   ·have hcv := fun q c' => conv_window_WordL hc (k + 4) v (by omega) q c'
    have hok : (∀ j, j < (v + 3) / 4 * 4 - v → l.getD (k + 4 + v + j) 0 = 0) → lstE l k = 0 ∧ lstS l k = (l.drop (k + 4)).take v ∧ lstN l k = k + 4 + (v + 3) / 4 * 4 := by
     intro hz
     have e1 : lstE l k = 0 := by rw [lstE, if_neg (by rw [hE0]; decide), hv, if_neg h4, if_neg hs, Int.toNat_natCast, if_pos hz]
     exact ⟨e1, by rw [lstS, if_pos e1, hv]; rfl, by rw [lstN, if_pos e1, hv]; rfl⟩
    by_cases hv0 : v = 0
    ·subst hv0
     obtain ⟨e1, e2, e3⟩ := hok (fun j hj => by omega)
     rw [e1, e2, e3]
     refine (getList_none w b off n c hr.le k hn (by omega) HG).mono ?_
     rintro e w' ⟨rfl, hq⟩
     exact ⟨ret3s (by simp) (by omega), hq⟩
    ·by_cases hev : (v + 3) / 4 * 4 = v
     ·obtain ⟨e1, e2, e3⟩ := hok (fun j hj => by omega)
      rw [e1, e2, e3]
      refine (getList_even w b off n c hr.le k hn v (by omega) (by omega) hev (by omega) _ hcv HG).mono ?_
      rintro e w' ⟨rfl, hq⟩
      exact ⟨ret3s rfl (by omega), hq⟩
     ·have hbyte : ∀ j, j < (v + 3) / 4 * 4 - v → w.cell? ⟨b, off + (k + 4) + v + j, none⟩ = some (.int .u8 (((l.getD (k + 4 + v + j) 0).toNat : Nat) : Int)) := fun j hj => by
       rw [show off + (k + 4) + v + j = off + (k + 4 + v + j) by omega]
       exact cell_at hc _ (by omega)
      refine (getList_odd w b off n c hr.le k hn v _ (by omega) (by omega) rfl (by omega) (by omega) (by omega) _ hcv _ hE.bytes (fun j => (l.getD (k + 4 + v + j) 0).toNat) hbyte HG).mono ?_
      rintro e w' ⟨h1, h2, hq⟩
      refine ⟨?_, hq⟩
      by_cases hz : ∀ j, j < (v + 3) / 4 * 4 - v → l.getD (k + 4 + v + j) 0 = 0
      ·obtain ⟨e1, e2, e3⟩ := hok hz
       rw [e1, e2, e3, h1 (fun j hj => by simp only [hz j hj]; rfl)]
       exact ret3s rfl (by omega)
      ·have e1 : lstE l k = 3 := by rw [lstE, if_neg (by rw [hE0]; decide), hv, if_neg h4, if_neg hs, Int.toNat_natCast, if_neg hz]
       have e2 : lstS l k = [] := by rw [lstS, e1]; rfl
       have e3 : lstN l k = 0 := by rw [lstN, e1]; rfl
       rw [e1, e2, e3]
       refine h2 ?_
       refine Classical.byContradiction fun hno => hz fun j hj => Classical.byContradiction fun hne => hno ⟨j, hj, fun h => hne (UInt8.toNat_inj.1 h)⟩
 ·have e1 : lstE l p = getE l p := by rw [lstE, if_pos hE0]
  have e2 : lstS l p = [] := by rw [lstS, e1, if_neg hE0]
  have e3 : lstN l p = 0 := by rw [lstN, e1, if_neg hE0]
  have e4 : getV l p = 0 := getV_err hE0
  rw [e1, e2, e3]
  rw [e4] at HG
  obtain ⟨m, hm⟩ : ∃ m, getE l p = m + 1 := ⟨getE l p - 1, by omega⟩
  rw [hm] at HG ⊢
  exact getList_err w a n c p _ HG
end
section
def putl (s : List UInt8) : List UInt8 := le4 s.length ++ s ++ List.replicate ((s.length + 3) / 4 * 4 - s.length) 0
theorem putl_step (l s : List UInt8) (k : Nat) : bc (l ++ le4 s.length ++ s ++ List.replicate k 0) ++ [.int .u8 0] = bc (l ++ le4 s.length ++ s ++ List.replicate (k + 1) 0) := by
 rw [List.replicate_succ', ← List.append_assoc, bc_append (l ++ le4 s.length ++ s ++ List.replicate k 0)]
 rfl
theorem cell1 (w : World) (c0 : Value) (e : TypeId) : ∀ j u, [c0][j]? = some u → (w.alloc (.cells #[c0] e)).cell? ((⟨w.heap.size, 0, none⟩ : Addr).add j) = some u := by
 intro j u hu
 match j, hu with
 | 0, hu => simp at hu; subst hu; simp [Addr.add]
 | j + 1, hu => simp at hu
theorem zero_one : ∀ u ∈ [Value.int .u8 0], u.oneCell' = true := by
 intro u hu
 simp at hu
 subst hu
 rfl
theorem size_toList (s : ByteArray) : s.data.toList.length = s.size := by rw [Array.length_toList]; rfl
theorem row_lt_WordB {w : World} {base e size n : Nat} {v : Value} {xs : List Value} (h : w.ownsRow base e size v n xs) : ∀ k, v.ownBlock = some k → base ≤ k := fun k hk => (h.lt k hk).1
end
section
def ended (l : List UInt8) : Bool := !l.isEmpty && (Lib.indexByte l 0 == (l.length : Int) - 1)
theorem ext37 : ∀ (args : Array Value) (w : World), Sem.run Tryz.prog (callFunc 304 args) w = (Sem.run Tryz.prog (Extern.BytealgIndexByte.indexByte args) w).andThen fun v w' => Result.ok (Next.value v) w' :=
 @run_callFunc_extern Tryz.prog 304 _ Extern.BytealgIndexByte.indexByte Tryz.func304 (by kernel_rfl) (by kernel_rfl) (by kernel_rfl) (by kernel_rfl)
theorem ret_bool_WordT {a b : Bool} (h : a = b) : Ending.returned (.bool a) = .returned (.bool b) := by rw [h]
theorem data_toList (s : ByteArray) : s.toList = s.data.toList := Lib.toList_data s
theorem ended_any (s : ByteArray) (hs : s.size ≤ 1152921504606846976) (w : World) :
  Calls Tryz.prog 234 #[.string s] w fun e w' => e = .returned (.bool (ended s.data.toList)) ∧ w' = w := by
 have hx := ext37
 have hi := fun (c : Int) (u : World) => Lib.run_indexByteString (P := Tryz.prog) s c u
 have hsz := size_toList s
 by_cases h0 : s.toList.isEmpty = true
 ·go_enter Tryz.func234, Tryz.ntmps234
  go_wp2
  go_ret
  have he : s.data.toList.isEmpty = true := by rw [← data_toList]; exact h0
  exact ⟨ret_bool_WordT (by simp only [ended, he]; rfl), rfl⟩
 ·have h1 : s.toList.isEmpty = false := by simpa using h0
  clear h0
  go_enter Tryz.func234, Tryz.ntmps234
  go_wp2
  go_ret
  have he : s.data.toList.isEmpty = false := by rw [← data_toList]; exact h1
  exact ⟨ret_bool_WordT (by simp only [ended, he, hsz]; rfl), rfl⟩
def txtE (l : List UInt8) (p : Int) : Nat := if lstE l p ≠ 0 then lstE l p else if ended (lstS l p) then 0 else 3
def txtS (l : List UInt8) (p : Int) : List UInt8 := if txtE l p = 0 then (lstS l p).dropLast else []
def txtN (l : List UInt8) (p : Int) : Nat := if txtE l p = 0 then lstN l p else 0
theorem getText_err (w : World) (a : Option Addr) (n c : Nat) (p : Int) (x : Addr)
  (H : Calls Tryz.prog 171 #[.slice a n c, .int .i64 p] w fun e w' => e = .returned (.tuple #[.string ⟨#[]⟩, .int .i64 0, .iface 392 (.pointer (some x))]) ∧ ∃ q, w' = w.drewN q) :
  Calls Tryz.prog 170 #[.slice a n c, .int .i64 p] w fun e w' => e = .returned (.tuple #[.string ⟨#[]⟩, .int .i64 0, .iface 392 (.pointer (some x))]) ∧ ∃ q, w' = w.drewN q := by
 have H' : Hid (Calls Tryz.prog 171 #[.slice a n c, .int .i64 p] w fun e w' => e = .returned (.tuple #[.string ⟨#[]⟩, .int .i64 0, .iface 392 (.pointer (some x))]) ∧ ∃ q, w' = w.drewN q) := H
 clear H
 go_enter Tryz.func170, Tryz.ntmps170
 go_wp2_with fail
 refine H'.out.mono ?_
 rintro e w2 ⟨rfl, q, rfl⟩
 go_wp2
 go_ret3
 exact ⟨rfl, _, rfl⟩
theorem getText_bytes (w : World) (a : Option Addr) (n c : Nat) (p : Int) (s : ByteArray) (m : Nat) (hs : s.size ≤ 1152921504606846976) (he : ended s.data.toList = false) (v3 : Value) (h3 : w.cell? ⟨4, 0, none⟩ = some v3)
  (H : Calls Tryz.prog 171 #[.slice a n c, .int .i64 p] w fun e w' => e = .returned (.tuple #[.string s, .int .i64 (m : Nat), .nilIface]) ∧ ∃ q, w' = w.drewN q) :
  Calls Tryz.prog 170 #[.slice a n c, .int .i64 p] w fun e w' => e = .returned (.tuple #[.string ⟨#[]⟩, .int .i64 0, v3]) ∧ ∃ q, w' = w.drewN q := by
 have H' : Hid (Calls Tryz.prog 171 #[.slice a n c, .int .i64 p] w fun e w' => e = .returned (.tuple #[.string s, .int .i64 (m : Nat), .nilIface]) ∧ ∃ q, w' = w.drewN q) := H
 have HE : Hid (∀ u, Calls Tryz.prog 234 #[.string s] u fun e w' => e = .returned (.bool false) ∧ w' = u) := fun u => by have h := ended_any s hs u; rw [he] at h; exact h
 clear H he
 go_enter Tryz.func170, Tryz.ntmps170
 go_wp2_with fail
 refine H'.out.mono ?_
 rintro e w2 ⟨rfl, q, rfl⟩
 go_wp2_with (go_at_call 234; refine (HE.out _).mono ?_; rintro e w' ⟨rfl, rfl⟩)
 go_quiet (fail)
 go_wp2
 go_ret3
 exact ⟨rfl, drewN2_WordL _ _ _⟩
theorem getText_ok (w : World) (a : Option Addr) (n c : Nat) (p : Int) (s : ByteArray) (m : Nat) (hs : s.size ≤ 1152921504606846976) (h0 : 0 < s.size) (he : ended s.data.toList = true)
  (H : Calls Tryz.prog 171 #[.slice a n c, .int .i64 p] w fun e w' => e = .returned (.tuple #[.string s, .int .i64 (m : Nat), .nilIface]) ∧ ∃ q, w' = w.drewN q) :
  Calls Tryz.prog 170 #[.slice a n c, .int .i64 p] w fun e w' => e = .returned (.tuple #[.string (s.extract 0 (s.size - 1)), .int .i64 (m : Nat), .nilIface]) ∧ ∃ q, w' = w.drewN q := by
 have H' : Hid (Calls Tryz.prog 171 #[.slice a n c, .int .i64 p] w fun e w' => e = .returned (.tuple #[.string s, .int .i64 (m : Nat), .nilIface]) ∧ ∃ q, w' = w.drewN q) := H
 have HE : Hid (∀ u, Calls Tryz.prog 234 #[.string s] u fun e w' => e = .returned (.bool true) ∧ w' = u) := fun u => by have h := ended_any s hs u; rw [he] at h; exact h
 clear H he
 go_enter Tryz.func170, Tryz.ntmps170
 go_wp2_with fail
 refine H'.out.mono ?_
 rintro e w2 ⟨rfl, q, rfl⟩
 go_wp2_with (go_at_call 234; refine (HE.out _).mono ?_; rintro e w' ⟨rfl, rfl⟩)
 go_ret3
 exact ⟨rfl, _, rfl⟩
theorem extract_last (l : List UInt8) : (ByteArray.mk l.toArray).extract 0 ((ByteArray.mk l.toArray).size - 1) = ⟨l.dropLast.toArray⟩ := by
 apply ByteArray.ext
 apply Array.toList_inj.1
 rw [Lib.extract_data, List.drop_zero, Nat.sub_zero]
 show l.take (l.length - 1) = l.dropLast
 rw [List.dropLast_eq_take]
theorem lstS_le (l : List UInt8) (p : Int) : (lstS l p).length ≤ l.length := by
 unfold lstS
 split
 ·rw [List.length_take, List.length_drop]; omega
 ·exact Nat.zero_le _
theorem getText_any (w : World) (a : Option Addr) (n c : Nat) (l : List UInt8) (hr : Rd w a n c l) (hn : n ≤ 1152921504606846976) (es : List Addr) (hE : E4 w es) (p : Int) :
  Calls Tryz.prog 170 #[.slice a n c, .int .i64 p] w fun e w' => e = .returned (.tuple #[.string ⟨(txtS l p).toArray⟩, .int .i64 (txtN l p), erv es (txtE l p)]) ∧ ∃ q, w' = w.drewN q := by
 have HL := getList_any w a n c l hr hn es hE p
 have hle := lstS_le l p
 have hl := hr.len
 by_cases h0 : lstE l p = 0
 ·rw [h0] at HL
  have hsz : (ByteArray.mk (lstS l p).toArray).size ≤ 1152921504606846976 := by show (lstS l p).length ≤ _; omega
  cases he : ended (lstS l p) with
  | false =>
   have e1 : txtE l p = 3 := by rw [txtE, if_neg (by rw [h0]; decide), he]; rfl
   have e2 : txtS l p = [] := by rw [txtS, e1]; rfl
   have e3 : txtN l p = 0 := by rw [txtN, e1]; rfl
   rw [e1, e2, e3]
   exact getText_bytes w a n c p _ _ hsz he _ hE.bytes HL
  | true =>
   have e1 : txtE l p = 0 := by rw [txtE, if_neg (by rw [h0]; decide), he]; rfl
   have e2 : txtS l p = (lstS l p).dropLast := by rw [txtS, if_pos e1]
   have e3 : txtN l p = lstN l p := by rw [txtN, if_pos e1]
   rw [e1, e2, e3, ← extract_last]
   have hpos : 0 < (ByteArray.mk (lstS l p).toArray).size := by
    show 0 < (lstS l p).length
    cases hx : lstS l p with
    | nil => rw [hx] at he; simp [ended] at he
    | cons _ _ => exact Nat.zero_lt_succ _
   exact getText_ok w a n c p _ _ hsz hpos he HL
 ·have e1 : txtE l p = lstE l p := by rw [txtE, if_pos h0]
  have e2 : txtS l p = [] := by rw [txtS, e1, if_neg h0]
  have e3 : txtN l p = 0 := by rw [txtN, e1, if_neg h0]
  have f2 : lstS l p = [] := by rw [lstS, if_neg h0]
  have f3 : lstN l p = 0 := by rw [lstN, if_neg h0]
  rw [e1, e2, e3]
  rw [f2, f3] at HL
  obtain ⟨m, hm⟩ : ∃ m, lstE l p = m + 1 := ⟨lstE l p - 1, by omega⟩
  rw [hm] at HL ⊢
  exact getText_err w a n c p _ HL
end
section
theorem putl_length (s : List UInt8) : (putl s).length = 4 + (s.length + 3) / 4 * 4 := by
 simp only [putl, List.length_append, List.length_replicate, le4, List.length_cons, List.length_nil]
 omega
theorem getE_in (p s r : List UInt8) : getE (p ++ (putl s ++ r)) (p.length : Int) = 0 :=
 getE_ok (by rw [List.length_append, List.length_append, putl_length]; omega)
theorem getV_in (p s r : List UInt8) (hs : s.length < 4294967296) : getV (p ++ (putl s ++ r)) (p.length : Int) = s.length := by
 rw [getV_ok (by rw [List.length_append, List.length_append, putl_length]; omega), putl, List.append_assoc, List.append_assoc]
 exact num4_at _ _ _ hs
theorem drop_in (p s r : List UInt8) : (p ++ (putl s ++ r)).drop (p.length + 4) = s ++ (List.replicate ((s.length + 3) / 4 * 4 - s.length) 0 ++ r) := by
 rw [← List.drop_drop, List.drop_left, putl, List.append_assoc, List.append_assoc]
 show (le4 s.length ++ _).drop 4 = _
 rw [List.drop_append_of_le_length (by simp [le4])]
 simp [le4]
theorem lst_in (p s r : List UInt8) (hs : s.length ≤ 4096) :
  lstE (p ++ (putl s ++ r)) (p.length : Int) = 0 ∧ lstS (p ++ (putl s ++ r)) (p.length : Int) = s ∧ lstN (p ++ (putl s ++ r)) (p.length : Int) = p.length + (putl s).length := by
 have hv := getV_in p s r (by omega)
 have e1 : lstE (p ++ (putl s ++ r)) (p.length : Int) = 0 := by
  rw [lstE, if_neg (by rw [getE_in]; decide), hv, if_neg (by omega), if_neg (by rw [List.length_append, List.length_append, putl_length]; omega), if_pos]
  intro j hj
  have hd := drop_in p s r
  rw [Int.toNat_natCast, show p.length + 4 + s.length + j = p.length + 4 + (s.length + j) by omega, List.getD, ← List.getElem?_drop, hd, List.getElem?_append_right (by omega), Nat.add_sub_cancel_left,
   List.getElem?_append_left (by rw [List.length_replicate]; exact hj), List.getElem?_replicate, if_pos hj]
  rfl
 refine ⟨e1, ?_, ?_⟩
 ·rw [lstS, if_pos e1, Int.toNat_natCast, drop_in, hv, List.take_left]
 ·rw [lstN, if_pos e1, Int.toNat_natCast, hv, putl_length]
  omega
theorem index_append (s t : List UInt8) (h : (0 : UInt8) ∉ s) : Lib.indexByte (s ++ (0 :: t)) 0 = s.length := by
 induction s with
 | nil => rfl
 | cons b s ih =>
  have hb : (b == (0 : UInt8)) = false := beq_eq_false_iff_ne.2 fun e => h (by rw [e]; exact List.mem_cons_self ..)
  rw [List.cons_append, Lib.indexByte, hb, ih (fun hm => h (List.mem_cons_of_mem _ hm)), List.length_cons, if_neg (by decide), if_neg (by rw [beq_iff_eq]; omega)]
  omega
theorem index_le (s : List UInt8) (h : (0 : UInt8) ∈ s) (t : List UInt8) : 0 ≤ Lib.indexByte (s ++ t) 0 ∧ Lib.indexByte (s ++ t) 0 < s.length := by
 induction s with
 | nil => cases h
 | cons b s ih =>
  by_cases hb : (b == (0 : UInt8)) = true
  ·rw [List.cons_append, Lib.indexByte, hb, if_pos rfl, List.length_cons]
   omega
  ·have hb' : (b == (0 : UInt8)) = false := by simpa using hb
   have hm : (0 : UInt8) ∈ s := by
    rcases List.mem_cons.1 h with e | e
    ·rw [← e] at hb'; cases hb'
    ·exact e
   have := ih hm
   rw [List.cons_append, Lib.indexByte, hb', if_neg (by decide), if_neg (by rw [beq_iff_eq]; omega), List.length_cons]
   omega
theorem ended_ok (s : List UInt8) (h : (0 : UInt8) ∉ s) : ended (s ++ [0]) = true := by
 have e : (s ++ [0]).isEmpty = false := by cases s <;> rfl
 rw [ended, e, index_append s [] h, List.length_append]
 simp
theorem txt_in (p s r : List UInt8) (hs : s.length ≤ 4095) (h0 : (0 : UInt8) ∉ s) :
  txtE (p ++ (putl (s ++ [0]) ++ r)) (p.length : Int) = 0 ∧ txtS (p ++ (putl (s ++ [0]) ++ r)) (p.length : Int) = s ∧ txtN (p ++ (putl (s ++ [0]) ++ r)) (p.length : Int) = p.length + (putl (s ++ [0])).length := by
 obtain ⟨e1, e2, e3⟩ := lst_in p (s ++ [0]) r (by rw [List.length_append]; simp; omega)
 have f1 : txtE (p ++ (putl (s ++ [0]) ++ r)) (p.length : Int) = 0 := by rw [txtE, if_neg (by rw [e1]; decide), e2, ended_ok s h0]; rfl
 refine ⟨f1, ?_, ?_⟩
 ·rw [txtS, if_pos f1, e2, List.dropLast_concat]
 ·rw [txtN, if_pos f1, e3]
end
end Go.Proofs.YtpbgbpcdohdecaaGreatDoor
