/- WireSizes' walk: for every number and text the law returns true; nothing that was there is turned. -/
import Derived.Test.YtoggnfadfocogaaDoorWireN
import Derived.Test.YtoggnfadfocogaaDoorWireL
import Derived.Test.YtoggnfadfocogaaDoorKindB
namespace Go.Proofs.YtoggnfadfocogaaDoor.wireSizes
open Go Go.RowKit

/-- The message's variable, and its row, behind some rounds. -/
structure GV (w w4 wr : World) (o q : Int) (va : Option Addr) (n c : Nat) (L : List AV) : Prop where
  os : wr.os = w4.os
  tape : wr.tape = w4.tape
  output : wr.output = w4.output
  size : w4.heap.size ≤ wr.heap.size
  block : ∀ i, i < w4.heap.size → i ≠ w.heap.size → wr.heap[i]? = w4.heap[i]?
  var : wr.heap[w.heap.size]? = some (.cells #[.int .i64 o, .int .i64 q, .slice va n c] 24 (0, 0))
  row : wr.ownsRow w4.heap.size 60 3 (.slice va n c) n (acs L)

theorem GV.bel {w w4 wr : World} {o q : Int} {va : Option Addr} {n c : Nat} {L : List AV} (h : GV w w4 wr o q va n c L) (b4 : Below w.heap.size w w4) : Below w.heap.size w wr :=
  ⟨h.os.trans b4.os, h.tape.trans b4.tape, h.output.trans b4.output, Nat.le_trans b4.size h.size, fun i hi => by
    rw [h.block i (Nat.lt_of_lt_of_le hi b4.size) (by omega)]
    exact b4.block i hi⟩

theorem GV.next {w w4 wr w1 : World} {o q : Int} {va : Option Addr} {n c : Nat} {L : List AV} (h : GV w w4 wr o q va n c L) (b : Below wr.heap.size wr w1) : GV w w4 w1 o q va n c L :=
  ⟨b.os.trans h.os, b.tape.trans h.tape, b.output.trans h.output, Nat.le_trans h.size b.size, fun i hi hne => by
    rw [b.block i (Nat.lt_of_lt_of_le hi h.size)]
    exact h.block i hi hne, by
    rw [b.block _ (Array.getElem?_eq_some_iff.1 h.var).1]
    exact h.var, ownsRow_below h.row b⟩

theorem GV.step {w w4 w1 w5 : World} {o q : Int} {va : Option Addr} {n c : Nat} {L : List AV} (h : GV w w4 w1 o q va n c L) (hk : w.heap.size < w4.heap.size) (x : AV) (v5 : Value)
    (o5 : w5.ownsRow w4.heap.size 60 3 v5 (n + 1) (acs L ++ ac x)) (g5 : w1.grownBy w5 (Value.slice va n c).ownBlock) :
    ∃ a5 c5, v5 = .slice a5 (n + 1) c5 ∧ w5.cell? ⟨w.heap.size, 2, none⟩ = some (.slice va n c) ∧ (∀ i, w5.frozen? ⟨w.heap.size, i, none⟩ = false) ∧ GV w w4 (w5.setCell ⟨w.heap.size, 2, none⟩ (.slice a5 (n + 1) c5)) o q a5 (n + 1) c5 (L ++ [x]) := by
  have hrow : ∀ k, (Value.slice va n c).ownBlock = some k → w4.heap.size ≤ k := row_lt h.row
  obtain ⟨a5, c5, rfl⟩ : ∃ a5 c5, v5 = .slice a5 (n + 1) c5 := by
    rcases o5.2 with ⟨_, h⟩ | ⟨g, cap, cur, rfl, _⟩
    · omega
    · exact ⟨_, _, rfl⟩
  obtain ⟨g1, g2, g3, g4, g6⟩ := g5
  have hv : w5.heap[w.heap.size]? = some (.cells #[.int .i64 o, .int .i64 q, .slice va n c] 24 (0, 0)) := by
    rw [g6 _ (Nat.lt_of_lt_of_le hk h.size) (fun hb => by have := hrow _ hb.symm; omega)]
    exact h.var
  refine ⟨a5, c5, rfl, by rw [World.cell?, hv]; rfl, Lib.frozen_of_heap hv, ⟨g1.trans h.os, g2.trans h.tape, g3.trans h.output, by rw [World.size_setCell]; exact Nat.le_trans h.size g4, fun i hi hne => ?_, ?_, ?_⟩⟩
  · rw [heap_setCell_other _ _ _ _ hne, g6 _ (Nat.lt_of_lt_of_le hi h.size) (fun hb => by have := hrow _ hb.symm; omega)]
    exact h.block i hi hne
  · rw [heap_setCell_same _ _ _ _ _ _ hv]
    rfl
  · rw [acs_append, show acs [x] = ac x from List.append_nil _]
    exact ownsRow_setCell_below o5 hk _

/-- The numbers. -/
def us (k : Nat) : List AV := (List.range k).map fun (i : Nat) => ⟨117, (i : Int), ⟨#[]⟩⟩

theorem us_succ (k : Nat) : us (k + 1) = us k ++ [⟨117, (k : Int), ⟨#[]⟩⟩] := by simp [us, List.range_succ]
theorem us_length (k : Nat) : (us k).length = k := by simp [us]

theorem us_ok (k : Nat) (hk : k ≤ 30) : ∀ x ∈ us k, x.Ok ∧ x.s.size ≤ 200 := fun x hx => by
  obtain ⟨i, hi, rfl⟩ := List.mem_map.1 hx
  have := List.mem_range.1 hi
  exact ⟨⟨by show 117 < 256; decide, by show (-9223372036854775808 : Int) ≤ i; omega, by show (i : Int) ≤ 9223372036854775807; omega, by show (ByteArray.mk #[]).size ≤ maxLen; decide⟩, by show (ByteArray.mk #[]).size ≤ 200; decide⟩

theorem okArgs_append : ∀ (a : List AV) (s : List UInt8) (b : List AV) (r : List UInt8), a.length = s.length → okArgs (a ++ b) (s ++ r) = (okArgs a s && okArgs b r)
  | [], [], b, r, _ => by simp [okArgs]
  | x :: a, z :: s, b, r, h => by
    rw [List.cons_append, List.cons_append, okArgs, okArgs, okArgs_append a s b r (by simpa using h), Bool.and_assoc]

theorem us_okArgs : ∀ k, k ≤ 30 → okArgs (us k) (List.replicate k 117) = true
  | 0, _ => rfl
  | k + 1, hk => by
    rw [us_succ, List.replicate_succ', okArgs_append _ _ _ _ (by rw [us_length, List.length_replicate]), us_okArgs k (by omega)]
    show (true && (okArg 117 k [] 117 && true)) = true
    have : suchB 117 (k : Int) [] = true := by simp [suchB]; omega
    simp [okArg, this]

theorem us_pas : ∀ k, (pas (us k)).length = 4 * k
  | 0 => rfl
  | k + 1 => by
    rw [us_succ, pas_append, List.length_append, us_pas k]
    show _ + (pa ⟨117, k, ⟨#[]⟩⟩ ++ []).length = _
    simp [pa, le4]
    omega

/-- The whole message. -/
def all (k : Nat) (s : ByteArray) : List AV := us k ++ [⟨97, 0, s⟩]

theorem all_pas (k : Nat) (s : ByteArray) : (pas (all k s)).length = 4 * k + (4 + (s.size + 3) / 4 * 4) := by
  rw [all, pas_append, List.length_append, us_pas]
  show _ + (pa ⟨97, 0, s⟩ ++ []).length = _
  rw [List.append_nil]
  show _ + (putl s.data.toList).length = _
  rw [putl_length, size_toList]

theorem all_put (k : Nat) (hk : k ≤ 30) (s : ByteArray) (hs : s.size ≤ 200) : putE 7 3 (all k s) (List.replicate k 117 ++ [97]) = 0 := by
  have h1 : okArgs (all k s) (List.replicate k 117 ++ [97]) = true := by
    rw [all, okArgs_append _ _ _ _ (by rw [us_length, List.length_replicate]), us_okArgs k hk]
    show (true && (okArg 97 0 s.data.toList 97 && true)) = true
    have : suchB 97 0 s.data.toList = true := by simp [suchB]; exact hs
    simp [okArg, this]
  have h2 : chk 7 3 (all k s) (List.replicate k 117 ++ [97]) = true := by rw [chk, h1]; decide
  rw [putE, h2, if_pos rfl, if_neg (by rw [all_pas]; omega)]

theorem all_not (k : Nat) (s : ByteArray) : putE 7 3 (all k s) (List.replicate k 117) = 1 := by
  have h1 : okArgs (all k s) (List.replicate k 117) = false := by
    cases h : okArgs (all k s) (List.replicate k 117) with
    | false => rfl
    | true =>
      have := okArgs_length _ _ h
      rw [all, List.length_append, us_length, List.length_replicate] at this
      simp at this
  rw [putE, chk, h1, Bool.and_false, if_neg (by decide)]

theorem cat_data (S : ByteArray) (b : UInt8) : (S ++ (⟨#[b]⟩ : ByteArray)).data.toList = S.data.toList ++ [b] := by simp

set_option maxRecDepth 100000 in
set_option maxHeartbeats 700000 in
theorem core (v : Int) (hv : -9223372036854775808 ≤ v ∧ v ≤ 9223372036854775807) (s : ByteArray) (hs : s.size ≤ 200) (w : World) (es : List Addr) (hE : Errs w gerrs es) :
    Calls Tryd.prog 8 #[.int .i64 v, .string s] w fun e w' => e = .returned (.bool true) ∧ Below w.heap.size w w' := by
  obtain ⟨iA, hiA, hzA0, hzA1, hzA2⟩ := info_parts infoArg
  have HPl : Hid (Calls Tryd.prog 23 #[.int .i64 v, .int .i64 30] w fun e w' => e = .returned (.int .i64 (plc v 30 : Nat)) ∧ w' = w) := place_any v 30 hv (by decide) (by decide) w
  have hk := plc_lt v 30 (by decide)
  generalize plc v 30 = k at *
  have hbw : Below w.heap.size w (w.alloc (.cells #[.int .i64 7, .int .i64 3, .slice none 0 0] 24)) := (Below.refl _ _).alloc (Nat.le_refl _) _
  have hw4 : (w.alloc (.cells #[.int .i64 7, .int .i64 3, .slice none 0 0] 24)).heap[w.heap.size]? = some (.cells #[.int .i64 7, .int .i64 3, .slice none 0 0] 24 (0, 0)) := heap_alloc_new w _
  have hs4 : (w.alloc (.cells #[.int .i64 7, .int .i64 3, .slice none 0 0] 24)).heap.size = w.heap.size + 1 := by simp
  have G0 : Hid (GV w (w.alloc (.cells #[.int .i64 7, .int .i64 3, .slice none 0 0] 24)) (w.alloc (.cells #[.int .i64 7, .int .i64 3, .slice none 0 0] 24)) 7 3 none 0 0 (us 0)) := ⟨rfl, rfl, rfl, Nat.le_refl _, fun _ _ _ => rfl, hw4, World.ownsRow_nil _ _ _ _⟩
  have HBW : Hid (Below w.heap.size w (w.alloc (.cells #[.int .i64 7, .int .i64 3, .slice none 0 0] 24))) := hbw
  have HS4 : Hid ((w.alloc (.cells #[.int .i64 7, .int .i64 3, .slice none 0 0] 24)).heap.size = w.heap.size + 1) := hs4
  have HE : Hid (Errs w gerrs es) := hE
  have e1 : decide ((200 : Int) < s.size) = false := decide_eq_false (by omega)
  clear hbw hw4 hs4 hE hv
  go_enter Tryd.func8, Tryd.ntmps8
  go_wp2_with fail
  refine HPl.out.mono ?_
  rintro e w0 ⟨rfl, hw0⟩
  subst hw0
  clear HPl
  go_wp2
  generalize w0.alloc (.cells #[.int .i64 7, .int .i64 3, .slice none 0 0] 24) = w4 at *
  go_loopw [7, 8] (fun sg i wr => ∃ (j : Nat) (S : ByteArray) (va : Option Addr) (c : Nat), j ≤ k ∧ i = .int .i64 j ∧ sg = .string S ∧ S.data.toList = List.replicate j 117 ∧ GV w0 w4 wr 7 3 va j c (us j)) (fun _ i _ => k - (intOf i).toNat)
  case atStart => exact ⟨0, ⟨#[]⟩, none, 0, Nat.zero_le _, rfl, rfl, rfl, G0.out⟩
  case round =>
    obtain ⟨j, S, va, c, hj, rfl, rfl, hSd, hG⟩ := hrel
    have hSz : S.size = j := by rw [← size_toList, hSd, List.length_replicate]
    have HSD : Hid (S.data.toList = List.replicate j 117) := hSd
    have hSz' : S.size ≤ 30 := by omega
    have HG : Hid (GV w0 w4 wr 7 3 va j c (us j)) := hG
    have hl : w0.heap.size < wr.heap.size := (Array.getElem?_eq_some_iff.1 hG.var).1
    have k0 : wr.cell? ⟨w0.heap.size, 0, none⟩ = some (.int .i64 7) := by rw [World.cell?, hG.var]; rfl
    have k1 : wr.cell? ⟨w0.heap.size, 1, none⟩ = some (.int .i64 3) := by rw [World.cell?, hG.var]; rfl
    have k2 : wr.cell? ⟨w0.heap.size, 2, none⟩ = some (.slice va j c) := by rw [World.cell?, hG.var]; rfl
    have hk4 : w0.heap.size < w4.heap.size := by rw [HS4.out]; omega
    clear hSd hSz hG G0
    by_cases hlt : j < k
    · have HF : Hid (∀ v5 w5, w5.ownsRow w4.heap.size 60 3 v5 (j + 1) (acs (us j) ++ ac ⟨117, j, ⟨#[]⟩⟩) → (wr.alloc (.cells #[.int .u8 117, .int .i64 j, .string ⟨#[]⟩] 60)).grownBy w5 (Value.slice va j c).ownBlock → ∃ a5 c5, v5 = .slice a5 (j + 1) c5 ∧ w5.cell? ⟨w0.heap.size, 2, none⟩ = some (.slice va j c) ∧ (∀ i, w5.frozen? ⟨w0.heap.size, i, none⟩ = false) ∧ GV w0 w4 (w5.setCell ⟨w0.heap.size, 2, none⟩ (.slice a5 (j + 1) c5)) 7 3 a5 (j + 1) c5 (us (j + 1))) := fun v5 w5 o5 g5 => by
        rw [us_succ]
        exact (HG.out.next ((Below.refl _ _).alloc (Nat.le_refl _) _)).step hk4 _ v5 o5 g5
      have HOW : Hid ((wr.alloc (.cells #[.int .u8 117, .int .i64 j, .string ⟨#[]⟩] 60)).ownsRow w4.heap.size 60 3 (.slice va j c) j (acs (us j))) := HG.out.row.alloc _
      have HSR : Hid (Src Tryd.prog 3 22 (.slice (some ⟨wr.heap.size, 0, none⟩) 1 1) 1 (ac ⟨117, j, ⟨#[]⟩⟩) (wr.alloc (.cells #[.int .u8 117, .int .i64 j, .string ⟨#[]⟩] 60))) :=
        Src.ofSlice _ Tryd.underlying22 ⟨wr.heap.size, 0, none⟩ 1 1 (ac ⟨117, j, ⟨#[]⟩⟩) rfl (cells3 wr ⟨117, j, ⟨#[]⟩⟩ 60) (ac_one _)
      have HZ : Hid (w4.heap.size ≤ (wr.alloc (.cells #[.int .u8 117, .int .i64 j, .string ⟨#[]⟩] 60)).heap.size) := by have := HG.out.size; simp only [Hid]; simp; omega
      clear HG
      go_wp2_with (at_builtin; refine wpList_append_own_src _ rfl (.tmp 31) (.tmp 34) 22 22 rfl w4.heap.size 60 iA (.agg #[.int .u8 0, .int .i64 0, .string ⟨#[]⟩]) 3 32 Tryd.underlying22 hiA hzA0 hzA1 hzA2 rfl _ _ _ rfl HOW.out _ _ _ rfl HSR.out (by simp only [maxLen]; omega) (fits32 (by omega)) HZ.out ?_; intro v5 w5 o5 g5; obtain ⟨a5, c5, rfl, y2, yf, G5⟩ := HF.out _ _ o5 g5; have HG5 : Hid _ := G5; clear o5 g5 G5 HF HOW HSR HZ k0 k1 k2)
      go_roundw
      case rel => exact ⟨j + 1, _, a5, c5, by omega, by go_num, rfl, by rw [cat_data, HSD.out, List.replicate_succ'], HG5.out⟩
      case measure => simp [intOf]; omega
    · have hjk : j = k := by omega
      subst hjk
      have HFw : Hid (∀ v5 w5, w5.ownsRow w4.heap.size 60 3 v5 (j + 1) (acs (us j) ++ ac ⟨97, 0, s⟩) → (wr.alloc (.cells #[.int .u8 97, .int .i64 0, .string s] 60)).grownBy w5 (Value.slice va j c).ownBlock → ∃ a5 c5, v5 = .slice a5 (j + 1) c5 ∧ w5.cell? ⟨w0.heap.size, 2, none⟩ = some (.slice va j c) ∧ (w5.cell? ⟨w0.heap.size, 0, none⟩ = some (.int .i64 7) ∧ w5.cell? ⟨w0.heap.size, 1, none⟩ = some (.int .i64 3)) ∧ (∀ i, w5.frozen? ⟨w0.heap.size, i, none⟩ = false) ∧ GV w0 w4 (w5.setCell ⟨w0.heap.size, 2, none⟩ (.slice a5 (j + 1) c5)) 7 3 a5 (j + 1) c5 (all j s)) := fun v5 w5 o5 g5 => by
        have hG1 := HG.out.next ((Below.refl _ _).alloc (Nat.le_refl _) (.cells #[.int .u8 97, .int .i64 0, .string s] 60))
        obtain ⟨a5, c5, h1, h2, h3, h4⟩ := hG1.step hk4 ⟨97, 0, s⟩ v5 o5 g5
        have hrow := row_lt hG1.row
        obtain ⟨_, _, _, _, g6⟩ := g5
        have hv : w5.heap[w0.heap.size]? = some (.cells #[.int .i64 7, .int .i64 3, .slice va j c] 24 (0, 0)) := by
          rw [g6 _ (Nat.lt_of_lt_of_le hk4 hG1.size) (fun hb => by have := hrow _ hb.symm; omega)]
          exact hG1.var
        exact ⟨a5, c5, h1, h2, ⟨by rw [World.cell?, hv]; rfl, by rw [World.cell?, hv]; rfl⟩, h3, h4⟩
      have HOW : Hid ((wr.alloc (.cells #[.int .u8 97, .int .i64 0, .string s] 60)).ownsRow w4.heap.size 60 3 (.slice va j c) j (acs (us j))) := HG.out.row.alloc _
      have HSR : Hid (Src Tryd.prog 3 22 (.slice (some ⟨wr.heap.size, 0, none⟩) 1 1) 1 (ac ⟨97, 0, s⟩) (wr.alloc (.cells #[.int .u8 97, .int .i64 0, .string s] 60))) :=
        Src.ofSlice _ Tryd.underlying22 ⟨wr.heap.size, 0, none⟩ 1 1 (ac ⟨97, 0, s⟩) rfl (cells3 wr ⟨97, 0, s⟩ 60) (ac_one _)
      have HZ : Hid (w4.heap.size ≤ (wr.alloc (.cells #[.int .u8 97, .int .i64 0, .string s] 60)).heap.size) := by have := HG.out.size; simp only [Hid]; simp; omega
      have hall : ∀ x ∈ all j s, x.Ok ∧ x.s.size ≤ 200 := fun x hx => by
        rcases List.mem_append.1 hx with hx | hx
        · exact us_ok j (by omega) x hx
        · simp only [List.mem_cons, List.not_mem_nil, or_false] at hx
          subst hx
          exact ⟨⟨by show 97 < 256; decide, by show (-9223372036854775808 : Int) ≤ 0; decide, by show (0 : Int) ≤ 9223372036854775807; decide, by show s.size ≤ maxLen; simp only [maxLen]; omega⟩, hs⟩
      have HALL : Hid (∀ x ∈ all j s, x.Ok ∧ x.s.size ≤ 200) := hall
      have hp1 := all_put j (by omega) s hs
      have hp2 := all_not j s
      have hMM := all_pas j s
      obtain ⟨d0, d1, d2, d3⟩ := putB_head hp1
      obtain ⟨S2, hS2⟩ : ∃ S2 : ByteArray, S ++ (⟨#[97]⟩ : ByteArray) = S2 := ⟨_, rfl⟩
      have HS2 : Hid (S2.data.toList = List.replicate j 117 ++ [97]) := by simp only [Hid]; rw [← hS2, cat_data, HSD.out]
      have HP1 : Hid (∀ u a5 c5, GV w0 w4 u 7 3 a5 (j + 1) c5 (all j s) → Calls Tryd.prog 11 #[.agg #[.int .i64 7, .int .i64 3, .slice a5 (j + 1) c5], .string S2] u fun e w' => ∃ a6 c6, e = .returned (.tuple #[.slice a6 (8 + (pas (all j s)).length) c6, .nilIface]) ∧ Rd w' a6 (8 + (pas (all j s)).length) c6 (putB 7 3 (all j s)) ∧ Below u.heap.size u w') := fun u a5 c5 hu => by
        obtain ⟨a', c', hv', hrd, _⟩ := rda_of_owns hu.row (fun x hx => (HALL.out x hx).1)
        obtain ⟨rfl, rfl⟩ : a5 = a' ∧ c5 = c' := by cases hv'; exact ⟨rfl, rfl⟩
        have hE4 : E4 u es := E4.of (HE.out.below (hu.bel HBW.out)) rfl
        refine (Put_any 7 3 a5 (j + 1) c5 (all j s) S2 u hrd (fun x hx => by have := (HALL.out x hx).2; omega) (by omega) es hE4).mono ?_
        rintro e w' ⟨v, r, rfl, h1, h2, h3⟩
        rw [HS2.out, hp1] at h1 h2
        have ho := h2.1 rfl
        rw [putB_length] at ho
        obtain ⟨a6, c6, rfl, hr6, _⟩ := rd_of_owns ho
        rw [h1.nil]
        exact ⟨a6, c6, rfl, hr6, h3⟩
      have HP2 : Hid (∀ u a5 c5, GV w0 w4 u 7 3 a5 (j + 1) c5 (all j s) → Calls Tryd.prog 11 #[.agg #[.int .i64 7, .int .i64 3, .slice a5 (j + 1) c5], .string S] u fun e w' => ∃ r, e = .returned (.tuple #[.slice none 0 0, r]) ∧ Er es r 1 ∧ Below u.heap.size u w') := fun u a5 c5 hu => by
        obtain ⟨a', c', hv', hrd, _⟩ := rda_of_owns hu.row (fun x hx => (HALL.out x hx).1)
        obtain ⟨rfl, rfl⟩ : a5 = a' ∧ c5 = c' := by cases hv'; exact ⟨rfl, rfl⟩
        have hE4 : E4 u es := E4.of (HE.out.below (hu.bel HBW.out)) rfl
        refine (Put_any 7 3 a5 (j + 1) c5 (all j s) S u hrd (fun x hx => by have := (HALL.out x hx).2; omega) (by omega) es hE4).mono ?_
        rintro e w' ⟨v, r, rfl, h1, h2, h3⟩
        rw [HSD.out, hp2] at h1 h2
        rw [h2.2 (by decide)]
        exact ⟨r, rfl, h1, h3⟩
      have HH : Hid (∀ u a6 c6, Below w0.heap.size w0 u → Rd u a6 (8 + (pas (all j s)).length) c6 (putB 7 3 (all j s)) → Calls Tryd.prog 16 #[.slice a6 (8 + (pas (all j s)).length) c6] u fun e w' => e = .returned (.tuple #[.int .i64 7, .int .i64 3, .int .i64 (8 + (pas (all j s)).length : Nat), .nilIface]) ∧ Below u.heap.size u w') := fun u a6 c6 hu hr6 => by
        refine (head_any u a6 _ c6 _ hr6 (by rw [hMM]; omega) es (E4.of (HE.out.below hu) rfl)).mono ?_
        rintro e w' ⟨rfl, q, rfl⟩
        rw [d0, d1, d2, d3]
        exact ⟨rfl, below_drewN (Below.refl _ _) q⟩
      have HK : Hid (∀ u (r : Value), Below w0.heap.size w0 u → Er es r 1 → Calls Tryd.prog 19 #[r] u fun e w' => e = .returned (.int .i64 1) ∧ Below w0.heap.size w0 w') := fun u r hu hr => by
        refine (kind_er u es (HE.out.below hu) r 1 (by decide) hr).mono ?_
        rintro e w' ⟨rfl, hb⟩
        exact ⟨rfl, Below.on hu hb⟩
      have HW : Hid (∀ u, Below w0.heap.size w0 u → Calls Tryd.prog 10 #[] u fun e w' => e = .returned (.bool true) ∧ Below w0.heap.size w0 w') := fun u hu => by
        refine (awake4_any u es (E4.of (HE.out.below hu) rfl)).mono ?_
        rintro e w' ⟨rfl, hb⟩
        exact ⟨rfl, Below.on hu hb⟩
      have hM2 : (pas (all j s)).length ≤ 1000 := by rw [hMM]; omega
      have hwant : ((8 : Int) + ((pas (all j s)).length : Nat) == 8 + 4 * (j : Int) + 4 + ((s.size : Int) + 3) / 4 * 4) = true := by rw [beq_iff_eq, hMM]; omega
      clear HG hall HALL hp1 hp2 hMM d0 d1 d2 d3 hlt hj
      generalize (pas (all j s)).length = M at *
      go_wp2_with (at_builtin; refine wpList_append_own_src _ rfl (.tmp 40) (.tmp 43) 22 22 rfl w4.heap.size 60 iA (.agg #[.int .u8 0, .int .i64 0, .string ⟨#[]⟩]) 3 32 Tryd.underlying22 hiA hzA0 hzA1 hzA2 rfl _ _ _ rfl HOW.out _ _ _ rfl HSR.out (by simp only [maxLen]; omega) (fits32 (by omega)) HZ.out ?_; intro v5 w5 o5 g5; obtain ⟨a5, c5, rfl, y2, ⟨y0, y1⟩, yf, G5⟩ := HFw.out _ _ o5 g5; have HG5 : Hid _ := G5; clear o5 g5 G5 HFw HOW HSR HZ k0 k1 k2)
      have HG6 : Hid (GV w0 w4 (w5.setCell ⟨w0.heap.size, 2, none⟩ (.slice a5 (j + 1) c5)) 7 3 a5 (j + 1) c5 (all j s)) := HG5.out
      refine (HP1.out _ a5 c5 HG6.out).mono ?_
      rintro e w6 ⟨a6, c6, rfl, hr6, b6⟩
      have hG7 := HG6.out.next b6
      have HR6 : Hid (Rd w6 a6 (8 + M) c6 (putB 7 3 (all j s))) := hr6
      have HG7 : Hid (GV w0 w4 w6 7 3 a5 (j + 1) c5 (all j s)) := hG7
      clear hr6 b6 hG7 HG5 HG6
      go_wp2_with fail
      refine (HH.out _ a6 c6 (HG7.out.bel HBW.out) HR6.out).mono ?_
      rintro e w7 ⟨rfl, b7⟩
      have hG8 := HG7.out.next b7
      have x0 : w7.cell? ⟨w0.heap.size, 0, none⟩ = some (.int .i64 7) := by rw [World.cell?, hG8.var]; rfl
      have x1 : w7.cell? ⟨w0.heap.size, 1, none⟩ = some (.int .i64 3) := by rw [World.cell?, hG8.var]; rfl
      have x2 : w7.cell? ⟨w0.heap.size, 2, none⟩ = some (.slice a5 (j + 1) c5) := by rw [World.cell?, hG8.var]; rfl
      have HG8 : Hid (GV w0 w4 w7 7 3 a5 (j + 1) c5 (all j s)) := hG8
      clear b7 hG8 HG7 HR6
      go_wp2_with fail
      refine (HP2.out _ a5 c5 HG8.out).mono ?_
      rintro e w8 ⟨r8, rfl, he8, b8⟩
      have HE8 : Hid (Er es r8 1) := he8
      have hb8 : Below w0.heap.size w0 w8 := (HG8.out.next b8).bel HBW.out
      clear he8 b8
      go_wp2_with fail
      refine (HK.out _ r8 hb8 HE8.out).mono ?_
      rintro e w9 ⟨rfl, b9⟩
      go_wp2_with fail
      refine (HW.out _ b9).mono ?_
      rintro e w99 ⟨rfl, b99⟩
      go_wp2
      go_ret
      exact ⟨rfl, b99⟩

set_option maxRecDepth 100000 in
theorem long (v : Int) (hv : -9223372036854775808 ≤ v ∧ v ≤ 9223372036854775807) (s : ByteArray) (hs : 200 < s.size) (hs2 : s.size ≤ 140737488351232) (w : World) (es : List Addr) (hE : Errs w gerrs es) :
    Calls Tryd.prog 8 #[.int .i64 v, .string s] w fun e w' => e = .returned (.bool true) ∧ Below w.heap.size w w' := by
  have HPl : Hid (Calls Tryd.prog 23 #[.int .i64 v, .int .i64 30] w fun e w' => e = .returned (.int .i64 (plc v 30 : Nat)) ∧ w' = w) := place_any v 30 hv (by decide) (by decide) w
  have HW : Hid (Calls Tryd.prog 10 #[] w fun e w' => e = .returned (.bool true) ∧ Below w.heap.size w w') := awake4_any w es (E4.of hE rfl)
  have e1 : decide ((200 : Int) < s.size) = true := decide_eq_true (by omega)
  clear hE hv
  go_enter Tryd.func8, Tryd.ntmps8
  go_wp2_with fail
  refine HPl.out.mono ?_
  rintro e w0 ⟨rfl, hw0⟩
  subst hw0
  go_wp2_with fail
  refine HW.out.mono ?_
  rintro e w1 ⟨rfl, b1⟩
  go_wp2
  go_ret
  exact ⟨rfl, b1⟩

theorem walk (v : Int) (s : ByteArray) (w : World) (hv : (Lit.int .i64 v).wf = true) (hs : s.size ≤ 140737488351232) (hL : laidMetH Tryd.prog Rows.wireSizesRow.laid w) :
    Calls Tryd.prog 8 #[.int .i64 v, .string s] w fun e w' => e = .returned (.bool true) ∧ Below w.heap.size w w' := by
  obtain ⟨es, hF⟩ := errs16 hL
  have hv' : -9223372036854775808 ≤ v ∧ v ≤ 9223372036854775807 := by simpa [Lit.wf, IntKind.min, IntKind.max, IntKind.signed, IntKind.bits] using hv
  by_cases h : s.size ≤ 200
  · exact core v hv' s h w es hF
  · exact long v hv' s (by omega) hs w es hF
end Go.Proofs.YtoggnfadfocogaaDoor.wireSizes
