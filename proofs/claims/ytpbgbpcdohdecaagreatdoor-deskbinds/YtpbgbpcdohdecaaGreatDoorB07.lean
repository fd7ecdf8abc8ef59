/- Lemmas that the proof leans on. -/
import Derived.Test.YtpbgbpcdohdecaaGreatDoorB06
import Derived.Great.Walk
import Derived.Deep.WholeRow
namespace Go.Proofs.YtpbgbpcdohdecaaGreatDoor
open Go Go.RowKit
set_option maxRecDepth 100000
section
def suchB (k : Nat) (n : Int) (l : List UInt8) : Bool :=
 if k = 105 ∨ k = 102 then l.isEmpty && (decide (-2147483648 ≤ n) && decide (n ≤ 2147483647))
 else if k = 110 then l.isEmpty && (decide (1 ≤ n) && decide (n ≤ 4294967295))
 else if k = 117 ∨ k = 111 then l.isEmpty && (decide (0 ≤ n) && decide (n ≤ 4294967295))
 else if k = 115 then decide (n = 0) && (decide (l.length ≤ 200) && !l.contains 0)
 else if k = 97 then decide (n = 0) && decide (l.length ≤ 200)
 else false
theorem index_none_WireA (s : List UInt8) (h : (0 : UInt8) ∉ s) : Lib.indexByte s 0 = -1 := by
 induction s with
 | nil => rfl
 | cons b s ih =>
  have hb : (b == (0 : UInt8)) = false := beq_eq_false_iff_ne.2 fun e => h (by rw [e]; exact List.mem_cons_self ..)
  rw [Lib.indexByte, hb, ih (fun hm => h (List.mem_cons_of_mem _ hm)), if_neg (by decide), if_pos (by decide)]
theorem such_num (k : Nat) (n : Int) (s : ByteArray) (w : World) (hk : k = 105 ∨ k = 102) :
  Calls Tryz.prog 172 #[.agg #[.int .u8 k, .int .i64 n, .string s]] w fun e w' => e = .returned (.bool (suchB k n s.data.toList)) ∧ Below w.heap.size w w' := by
 rcases hk with rfl | rfl
 all_goals
  go_enter Tryz.func172, Tryz.ntmps172
  go_wp2
  all_goals
   go_ret
   refine ⟨ret_bool_WordT ?_, (Below.refl _ _).alloc (Nat.le_refl _) _⟩
   rw [← data_toList]
   simp_all [suchB]
   try omega
theorem such_new (n : Int) (s : ByteArray) (w : World) :
  Calls Tryz.prog 172 #[.agg #[.int .u8 110, .int .i64 n, .string s]] w fun e w' => e = .returned (.bool (suchB 110 n s.data.toList)) ∧ Below w.heap.size w w' := by
 go_enter Tryz.func172, Tryz.ntmps172
 go_wp2
 all_goals
  go_ret
  refine ⟨ret_bool_WordT ?_, (Below.refl _ _).alloc (Nat.le_refl _) _⟩
  rw [← data_toList]
  simp_all [suchB]
  try omega
theorem such_unsigned (k : Nat) (n : Int) (s : ByteArray) (w : World) (hk : k = 117 ∨ k = 111) :
  Calls Tryz.prog 172 #[.agg #[.int .u8 k, .int .i64 n, .string s]] w fun e w' => e = .returned (.bool (suchB k n s.data.toList)) ∧ Below w.heap.size w w' := by
 rcases hk with rfl | rfl
 all_goals
  go_enter Tryz.func172, Tryz.ntmps172
  go_wp2
  all_goals
   go_ret
   refine ⟨ret_bool_WordT ?_, (Below.refl _ _).alloc (Nat.le_refl _) _⟩
   rw [← data_toList]
   simp_all [suchB]
   try omega
theorem such_text (n : Int) (s : ByteArray) (hs : s.size ≤ 1152921504606846976) (w : World) :
  Calls Tryz.prog 172 #[.agg #[.int .u8 115, .int .i64 n, .string s]] w fun e w' => e = .returned (.bool (suchB 115 n s.data.toList)) ∧ Below w.heap.size w w' := by
 have hx := ext37
 have hsz := size_toList s
 by_cases h0 : (0 : UInt8) ∈ s.data.toList
 ·have hi := fun (c : Int) (u : World) => Lib.run_indexByteString (P := Tryz.prog) s c u
  have hge : 0 ≤ Lib.indexByte s.data.toList 0 := by have := (index_le _ h0 []).1; rwa [List.append_nil] at this
  have H0 : Hid ((0 : UInt8) ∈ s.data.toList) := h0
  clear h0 hsz
  go_enter Tryz.func172, Tryz.ntmps172
  go_wp2
  go_ret
  refine ⟨ret_bool_WordT ?_, (Below.refl _ _).alloc (Nat.le_refl _) _⟩
  have := H0.out
  simp [suchB, this]
 ·have hi := fun (c : Int) (u : World) => Lib.run_indexByteString (P := Tryz.prog) s c u
  have hge : Lib.indexByte s.data.toList 0 = -1 := index_none_WireA _ h0
  have H0 : Hid ((0 : UInt8) ∉ s.data.toList) := h0
  have HS : Hid (s.data.toList.length = s.size) := hsz
  clear h0 hsz
  go_enter Tryz.func172, Tryz.ntmps172
  go_wp2
  all_goals
   go_ret
   refine ⟨ret_bool_WordT ?_, (Below.refl _ _).alloc (Nat.le_refl _) _⟩
   have := H0.out
   have h2 := HS.out
   simp_all [suchB]
   try omega
theorem such_list (n : Int) (s : ByteArray) (hs : s.size ≤ 1152921504606846976) (w : World) :
  Calls Tryz.prog 172 #[.agg #[.int .u8 97, .int .i64 n, .string s]] w fun e w' => e = .returned (.bool (suchB 97 n s.data.toList)) ∧ Below w.heap.size w w' := by
 have HS : Hid (s.data.toList.length = s.size) := size_toList s
 go_enter Tryz.func172, Tryz.ntmps172
 go_wp2
 all_goals
  go_ret
  refine ⟨ret_bool_WordT ?_, (Below.refl _ _).alloc (Nat.le_refl _) _⟩
  have h2 := HS.out
  simp_all [suchB]
  try omega
theorem such_none (k : Nat) (n : Int) (s : ByteArray) (w : World) (h1 : k ≠ 105) (h2 : k ≠ 102) (h3 : k ≠ 110) (h4 : k ≠ 117) (h5 : k ≠ 111) (h6 : k ≠ 115) (h7 : k ≠ 97) :
  Calls Tryz.prog 172 #[.agg #[.int .u8 k, .int .i64 n, .string s]] w fun e w' => e = .returned (.bool (suchB k n s.data.toList)) ∧ Below w.heap.size w w' := by
 have e1 : ((k : Int) == 105) = false := beq_eq_false_iff_ne.2 (by omega)
 have e2 : ((k : Int) == 102) = false := beq_eq_false_iff_ne.2 (by omega)
 have e3 : ((k : Int) == 110) = false := beq_eq_false_iff_ne.2 (by omega)
 have e4 : ((k : Int) == 117) = false := beq_eq_false_iff_ne.2 (by omega)
 have e5 : ((k : Int) == 111) = false := beq_eq_false_iff_ne.2 (by omega)
 have e6 : ((k : Int) == 115) = false := beq_eq_false_iff_ne.2 (by omega)
 have e7 : ((k : Int) == 97) = false := beq_eq_false_iff_ne.2 (by omega)
 have H : Hid (suchB k n s.data.toList = false) := by simp [Hid, suchB, h1, h2, h3, h4, h5, h6, h7]
 clear h1 h2 h3 h4 h5 h6 h7
 rw [H.out]
 go_enter Tryz.func172, Tryz.ntmps172
 go_wp2
 go_ret
 exact ⟨rfl, (Below.refl _ _).alloc (Nat.le_refl _) _⟩
theorem such_any (k : Nat) (n : Int) (s : ByteArray) (hs : s.size ≤ 1152921504606846976) (w : World) :
  Calls Tryz.prog 172 #[.agg #[.int .u8 k, .int .i64 n, .string s]] w fun e w' => e = .returned (.bool (suchB k n s.data.toList)) ∧ Below w.heap.size w w' := by
 by_cases h1 : k = 105
 ·exact such_num k n s w (.inl h1)
 by_cases h2 : k = 102
 ·exact such_num k n s w (.inr h2)
 by_cases h3 : k = 110
 ·subst h3; exact such_new n s w
 by_cases h4 : k = 117
 ·exact such_unsigned k n s w (.inl h4)
 by_cases h5 : k = 111
 ·exact such_unsigned k n s w (.inr h5)
 by_cases h6 : k = 115
 ·subst h6; exact such_text n s hs w
 by_cases h7 : k = 97
 ·subst h7; exact such_list n s hs w
 exact such_none k n s w h1 h2 h3 h4 h5 h6 h7
def okArg (k : Nat) (n : Int) (l : List UInt8) (z : Nat) : Bool := decide (k = z) && suchB k n l
theorem checkArg_any (k : Nat) (n : Int) (s : ByteArray) (hs : s.size ≤ 1152921504606846976) (z : Nat) (w : World) (es : List Addr) (hA : w.cell? ⟨2, 0, none⟩ = some (erv es 1)) :
  Calls Tryz.prog 116 #[.agg #[.int .u8 k, .int .i64 n, .string s], .int .u8 z] w fun e w' => e = .returned (erv es (if okArg k n s.data.toList z then 0 else 1)) ∧ Below w.heap.size w w' := by
 have HS : Hid (∀ u, Calls Tryz.prog 172 #[.agg #[.int .u8 k, .int .i64 n, .string s]] u fun e w' => e = .returned (.bool (suchB k n s.data.toList)) ∧ Below u.heap.size u w') := fun u => such_any k n s hs u
 have HB : Hid (∀ o u, Below (w.alloc o).heap.size (w.alloc o) u → Below w.heap.size w u ∧ u.cell? ⟨2, 0, none⟩ = some (erv es 1)) := fun o u hu => by
  have hb : Below w.heap.size w u := ((Below.refl _ _).alloc (Nat.le_refl _) o).trans (hu.mono (by simp))
  exact ⟨hb, by rw [hb.cell (World.block_lt_of_cell? w _ hA)]; exact hA⟩
 have hl := World.block_lt_of_cell? w _ hA
 clear hs
 by_cases hkz : k = z
 ·subst hkz
  have H : Hid (okArg k n s.data.toList k = suchB k n s.data.toList) := by simp [Hid, okArg]
  rw [H.out]
  generalize suchB k n s.data.toList = q at *
  have hne : ((k : Int) != k) = false := by simp
  go_enter Tryz.func116, Tryz.ntmps116
  go_wp2_with fail
  refine (HS.out _).mono ?_
  rintro e w1 ⟨rfl, b1⟩
  obtain ⟨b2, hA2⟩ := HB.out _ _ b1
  clear b1 HB HS H
  cases q
  ·go_wp2
   go_ret
   exact ⟨rfl, b2⟩
  ·go_wp2
   go_ret
   exact ⟨rfl, b2⟩
 ·have H : Hid (okArg k n s.data.toList z = false) := by simp [Hid, okArg, hkz]
  rw [H.out]
  have hne : ((k : Int) != z) = true := by rw [bne_iff_ne]; omega
  clear hkz HS
  obtain ⟨b2, hA2⟩ := HB.out (.cells #[.int .u8 k, .int .i64 n, .string s] 34) _ (Below.refl _ _)
  clear HB
  go_enter Tryz.func116, Tryz.ntmps116
  go_wp2
  go_ret
  exact ⟨rfl, b2⟩
end
section
structure AV where
 k : Nat
 n : Int
 s : ByteArray
def AV.t (x : AV) : List UInt8 := x.s.data.toList
def ac_WireB (x : AV) : List Value := [.int .u8 x.k, .int .i64 x.n, .string x.s]
def acs (l : List AV) : List Value := l.flatMap ac_WireB
structure AV.Ok (x : AV) : Prop where
 k : x.k < 256
 lo : -9223372036854775808 ≤ x.n
 hi : x.n ≤ 9223372036854775807
 s : x.s.size ≤ maxLen
theorem acs_length (l : List AV) : (acs l).length = l.length * 3 := by
 induction l with
 | nil => rfl
 | cons x l ih =>
  rw [acs, List.flatMap_cons, List.length_append, List.length_cons]
  show 3 + (acs l).length = _
  omega
theorem acs_append (a b : List AV) : acs (a ++ b) = acs a ++ acs b := by simp [acs]
theorem acs_one (l : List AV) : ∀ u ∈ acs l, u.oneCell' = true := by
 intro u hu
 obtain ⟨x, _, hx⟩ := List.mem_flatMap.1 hu
 simp only [ac_WireB, List.mem_cons, List.not_mem_nil, or_false] at hx
 rcases hx with rfl | rfl | rfl <;> rfl
theorem acs_at (l : List AV) (j : Nat) (x : AV) (h : l[j]? = some x) : (acs l)[j * 3]? = some (.int .u8 x.k) ∧ (acs l)[j * 3 + 1]? = some (.int .i64 x.n) ∧ (acs l)[j * 3 + 2]? = some (.string x.s) := by
 induction l generalizing j with
 | nil => simp at h
 | cons y l ih =>
  have e : acs (y :: l) = .int .u8 y.k :: .int .i64 y.n :: .string y.s :: acs l := rfl
  cases j with
  | zero =>
   simp only [List.getElem?_cons_zero, Option.some.injEq] at h
   subst h
   rw [e]
   exact ⟨rfl, rfl, rfl⟩
  | succ j =>
   obtain ⟨h1, h2, h3⟩ := ih j (by simpa using h)
   rw [e, show (j + 1) * 3 = j * 3 + 1 + 1 + 1 by omega]
   simp only [List.getElem?_cons_succ]
   exact ⟨h1, h2, h3⟩
structure RdA (w : World) (a : Option Addr) (n c : Nat) (l : List AV) : Prop where
 len : l.length = n
 le : n ≤ c
 max : c ≤ maxLen
 hnil : a = none → c = 0
 cells : ∀ x, a = some x → ∀ j u, (acs l)[j]? = some u → w.cell? (x.add j) = some u
 wf : ∀ x ∈ l, x.Ok
theorem RdA.nil (w : World) : RdA w none 0 0 [] := ⟨rfl, Nat.le_refl _, Nat.zero_le _, fun _ => rfl, (fun _ h => by cases h), fun _ h => by cases h⟩
theorem RdA.plain {w : World} {a : Option Addr} {n c : Nat} {l : List AV} (h : RdA w a n c l) (hn : 0 < n) : ∃ b off, a = some ⟨b, off, none⟩ ∧ b < w.heap.size ∧
  ∀ j x, l[j]? = some x → w.cell? ⟨b, off + j * 3, none⟩ = some (.int .u8 x.k) ∧ w.cell? ⟨b, off + j * 3 + 1, none⟩ = some (.int .i64 x.n) ∧ w.cell? ⟨b, off + j * 3 + 2, none⟩ = some (.string x.s) := by
 cases a with
 | none => have := h.hnil rfl; have := h.le; omega
 | some x =>
  obtain ⟨b, off, spot⟩ := x
  have hl := h.len
  obtain ⟨y, hy⟩ : ∃ y, l[0]? = some y := ⟨_, List.getElem?_eq_getElem (by omega)⟩
  have h0 := h.cells _ rfl 0 _ (acs_at l 0 y hy).1
  have hspot : spot = none := by simpa [Addr.add] using World.cell?_spot h0
  subst hspot
  refine ⟨b, off, rfl, World.block_lt_of_cell? w _ (by simpa [Addr.add] using h0), fun j x hx => ?_⟩
  obtain ⟨h1, h2, h3⟩ := acs_at l j x hx
  have e1 := h.cells _ rfl _ _ h1
  have e2 := h.cells _ rfl _ _ h2
  have e3 := h.cells _ rfl _ _ h3
  rw [Go.WideShapes.add_plain] at e1 e2 e3
  exact ⟨e1, e2, e3⟩
theorem RdA.below {w w' : World} {B : Nat} {a : Option Addr} {n c : Nat} {l : List AV} (h : RdA w a n c l) (hb : Below B w w') (ha : ∀ x, a = some x → 0 < l.length → x.block < B) : RdA w' a n c l :=
 ⟨h.len, h.le, h.max, h.hnil, fun x hx j u hu => by
  have hj : j < l.length * 3 := by
   rcases Nat.lt_or_ge j (l.length * 3) with h' | h'
   ·exact h'
   ·rw [List.getElem?_eq_none (by rw [acs_length]; exact h')] at hu; cases hu
  rw [hb.cell (p := x.add j) (by have := ha x hx (by omega); unfold Addr.add; split <;> simpa using this)]
  exact h.cells x hx j u hu, h.wf⟩
theorem RdA.low {w : World} {a : Option Addr} {n c : Nat} {l : List AV} (h : RdA w a n c l) : ∀ x, a = some x → 0 < l.length → x.block < w.heap.size := fun x hx hl => by
 have hl' := h.len
 obtain ⟨b, off, rfl, hb, _⟩ := h.plain (by omega)
 cases hx
 exact hb
theorem rda_of_owns {w : World} {base e n : Nat} {v : Value} {l : List AV} (h : w.ownsRow base e 3 v n (acs l)) (hw : ∀ x ∈ l, x.Ok) : ∃ a c, v = .slice a n c ∧ RdA w a n c l ∧ (∀ x, a = some x → base ≤ x.block ∧ x.block < w.heap.size) := by
 have hl : l.length = n := by have := h.1; rw [acs_length] at this; omega
 rcases h.2 with ⟨rfl, rfl⟩ | ⟨g, cap, cur, rfl, hb, hg, hn, hm, _, _⟩
 ·obtain rfl : l = [] := List.eq_nil_of_length_eq_zero hl
  exact ⟨none, 0, rfl, RdA.nil w, fun x hx => by cases hx⟩
 ·refine ⟨some ⟨g, 0, none⟩, cap, rfl, ⟨hl, hn, hm, (fun h => by cases h), fun x hx => ?_, hw⟩, fun x hx => ?_⟩
  ·cases hx
   exact h.cells rfl
  ·cases hx
   exact ⟨hb, (Array.getElem?_eq_some_iff.1 hg).1⟩
def Small (l : List AV) : Prop := ∀ x ∈ l, x.s.size ≤ 140737488355328
def okArgs : List AV → List UInt8 → Bool
 | [], [] => true
 | x :: l, z :: s => okArg x.k x.n x.t z.toNat && okArgs l s
 | _, _ => false
def headOk (o p : Int) : Bool := decide (1 ≤ o) && (decide (o ≤ 4294967295) && (decide (0 ≤ p) && decide (p ≤ 65535)))
def chk_WireB (o p : Int) (l : List AV) (s : List UInt8) : Bool := headOk o p && okArgs l s
theorem okArgs_length : ∀ (l : List AV) (s : List UInt8), okArgs l s = true → l.length = s.length
 | [], [], _ => rfl
 | x :: l, z :: s, h => by
  rw [okArgs, Bool.and_eq_true] at h
  rw [List.length_cons, List.length_cons, okArgs_length l s h.2]
 | [], _ :: _, h => by cases h
 | _ :: _, [], h => by cases h
theorem okArgs_drop (l : List AV) (s : List UInt8) (hl : l.length = s.length) (j : Nat) (hj : j ≤ l.length) (h : ∀ (i : Nat) (x : AV) (z : UInt8), i < j → l[i]? = some x → s[i]? = some z → okArg x.k x.n x.t z.toNat = true) : okArgs l s = okArgs (l.drop j) (s.drop j) := by
 induction j generalizing l s with
 | zero => rfl
 | succ j ih =>
  match l, s, hl with
  | [], [], _ => simp at hj
  | x :: l, z :: s, hl =>
   rw [okArgs, h 0 x z (by omega) rfl rfl, Bool.true_and, List.drop_succ_cons, List.drop_succ_cons]
   exact ih l s (by simpa using hl) (by simpa using hj) (fun i x z hi hx hz => h (i + 1) x z (by omega) (by simpa using hx) (by simpa using hz))
theorem okArgs_all (l : List AV) (s : List UInt8) (hl : l.length = s.length) (h : ∀ (i : Nat) (x : AV) (z : UInt8), i < l.length → l[i]? = some x → s[i]? = some z → okArg x.k x.n x.t z.toNat = true) : okArgs l s = true := by
 rw [okArgs_drop l s hl l.length (Nat.le_refl _) h, List.drop_length, hl, List.drop_length]
 rfl
theorem okArgs_not (l : List AV) (s : List UInt8) (j : Nat) (x : AV) (z : UInt8) (hx : l[j]? = some x) (hz : s[j]? = some z) (h : okArg x.k x.n x.t z.toNat = false) : okArgs l s = false := by
 induction j generalizing l s with
 | zero =>
  match l, s with
  | [], _ => simp at hx
  | _ :: _, [] => simp at hz
  | y :: l, c :: s =>
   simp only [List.getElem?_cons_zero, Option.some.injEq] at hx hz
   subst hx hz
   rw [okArgs, h, Bool.false_and]
 | succ j ih =>
  match l, s with
  | [], _ => simp at hx
  | _ :: _, [] => simp at hz
  | y :: l, c :: s =>
   rw [okArgs, ih l s (by simpa using hx) (by simpa using hz), Bool.and_false]
def noB : Bool → Nat
 | true => 0
 | false => 1
def fnd_WireB (v : Value) (i : Int) : Value := .iface 182 (.agg #[v, .int .i64 i])
def Er_WireB (es : List Addr) (r : Value) (k : Nat) : Prop := r = erv es k ∨ (k ≠ 0 ∧ ∃ i, r = fnd_WireB (erv es k) i)
theorem Er_WireB.nil {es : List Addr} {r : Value} (h : Er_WireB es r 0) : r = .nilIface := by
 rcases h with rfl | ⟨h, _⟩
 ·rfl
 ·exact absurd rfl h
theorem Er_WireB.some {es : List Addr} {r : Value} {k : Nat} (h : Er_WireB es r (k + 1)) : ∃ t v, r = .iface t v := by
 rcases h with rfl | ⟨_, i, rfl⟩
 ·exact ⟨_, _, rfl⟩
 ·exact ⟨_, _, rfl⟩
theorem str_at (s : ByteArray) (j : Nat) (hj : j < s.size) : s.data.toList[j]? = some s[j] := by
 have h : j < s.data.toList.length := by rw [size_toList]; exact hj
 rw [List.getElem?_eq_getElem h]
 rfl
end
section
def bslice (P : Program) (t : TypeId) (len : Nat) (parts : List (Nat × Value)) : Option (TypeId × Array Value) :=
 match P.underlying t with
 | some (.slice e) =>
  match P.info? e with
  | some ie =>
   match ie.zero with
   | some z => if len * ie.size > 2 ^ 24 then none else if len * ie.size = 0 then none else
     (Instr.fill (fun i => some (i * ie.size, ie.size)) ((Array.range (len * ie.size)).map (z.cells[· % z.cells.size]!)) parts).map fun c => (e, c)
   | none => none
  | none => none
 | _ => none
def runsB (P : Program) : List Oper → Act → Nat → Option (Act × List Obj)
 | [], a, _ => some (a, [])
 | o :: l, a, n =>
  match o.guard, o.op with
  | none, .build t parts =>
   match P.built t (parts.map fun (i, x) => (i, a.eval x)).toList with
   | some cells => runsB P l (a.put o.dst (.agg cells)) n
   | none => none
  | none, .buildSlice t len parts =>
   match bslice P t len (parts.map fun (i, x) => (i, a.eval x)).toList with
   | some (e, cells) =>
    match runsB P l (a.put o.dst (.slice (some ⟨n, 0, none⟩) len len)) (n + 1) with
    | some (a', os) => some (a', .cells cells e :: os)
    | none => none
   | none => none
  | _, _ => none
def allocs : List Obj → World → World
 | [], w => w
 | b :: l, w => allocs l (w.alloc b)
theorem size_alloc (w : World) (b : Obj) : (w.alloc b).heap.size = w.heap.size + 1 := by
 show (w.heap.push b).size = _
 exact Array.size_push b
theorem wpList_runsB {P : Program} {ops : Array Oper} {rest : List Oper} {Q : Exit → Act → World → Prop} :
  ∀ (l : List Oper) (a : Act) (w : World) (n : Nat) (a' : Act) (os : List Obj), w.heap.size = n → runsB P l a n = some (a', os) →
   wpList P ops Q rest a' (allocs os w) → wpList P ops Q (l ++ rest) a w := by
 intro l
 induction l with
 | nil =>
  intro a w n a' os _ h hk
  simp only [runsB, Option.some.injEq, Prod.mk.injEq] at h
  obtain ⟨rfl, rfl⟩ := h
  exact hk
 | cons o l ih =>
  intro a w n a' os hn h hk
  rw [List.cons_append]
  unfold runsB at h
  split at h
  ·rename_i t parts hg ho
   split at h
   ·rename_i cells hb
    exact wpList_buildTo hg t parts ho _ rfl cells hb (ih _ w n a' os hn h hk)
   ·cases h
  ·rename_i t len parts hg ho
   split at h
   ·rename_i e cells hb
    split at h
    ·rename_i a2 os2 hr
     simp only [Option.some.injEq, Prod.mk.injEq] at h
     obtain ⟨rfl, rfl⟩ := h
     unfold bslice at hb
     split at hb
     ·rename_i e2 hu
      split at hb
      ·rename_i ie hie
       split at hb
       ·rename_i z hz
        split at hb
        ·cases hb
        ·rename_i h1
         split at hb
         ·cases hb
         ·rename_i h2
          obtain ⟨c, hc, hcc⟩ := Option.map_eq_some_iff.1 hb
          simp only [Prod.mk.injEq] at hcc
          obtain ⟨rfl, rfl⟩ := hcc
          refine wpList_buildSlice hg t e2 len parts ho c ie z hu hie hz h1 h2 hc ?_
          rw [hn]
          exact ih _ _ (n + 1) a2 os2 (by rw [size_alloc, hn]) hr hk
       ·cases hb
      ·cases hb
     ·cases hb
    ·cases h
   ·cases h
  ·cases h
theorem allocs_below : ∀ (l : List Obj) (w : World) (B : Nat), B ≤ w.heap.size → Below B w (allocs l w)
 | [], w, B, _ => Below.refl _ _
 | b :: l, w, B, h => ((Below.refl B w).alloc h b).trans ((allocs_below l (w.alloc b) B (by rw [size_alloc]; omega)))
theorem allocs_size : ∀ (l : List Obj) (w : World), (allocs l w).heap.size = w.heap.size + l.length
 | [], w => rfl
 | b :: l, w => by rw [allocs, allocs_size l, size_alloc, List.length_cons]; omega
theorem allocs_block : ∀ (l : List Obj) (w : World) (i : Nat) (b : Obj), l[i]? = some b → (allocs l w).heap[w.heap.size + i]? = some b
 | [], w, i, b, h => by simp at h
 | c :: l, w, 0, b, h => by
  simp only [List.getElem?_cons_zero, Option.some.injEq] at h
  subst h
  rw [allocs, Nat.add_zero, (allocs_below l (w.alloc c) _ (Nat.le_refl _)).block _ (by rw [size_alloc]; omega)]
  show (w.heap.push c)[w.heap.size]? = some c
  exact Array.getElem?_push_size
 | c :: l, w, i + 1, b, h => by
  have h2 := allocs_block l (w.alloc c) i b (by simpa using h)
  rw [size_alloc] at h2
  rw [allocs, show w.heap.size + (i + 1) = w.heap.size + 1 + i by omega]
  exact h2
theorem wpList_litvar {P : Program} {ops : Array Oper} {rest : List Oper} {Q : Exit → Act → World → Prop} {a : Act} {w : World} {o1 o2 o3 : Oper} (t : TypeId) (parts : Array (Nat × Operand)) (d1 d2 : Tmp)
  (h1 : o1.guard = none ∧ o1.op = .build t parts ∧ o1.dst = some d1) (h2 : o2.guard = none ∧ o2.op = .alloc t ∧ o2.dst = some d2) (h3 : o3.guard = none ∧ o3.op = .store t (.tmp d2) (.tmp d1) ∧ o3.dst = none)
  (cells : Array Value) (hf : P.built t (parts.map fun (i, x) => (i, a.eval x)).toList = some cells) (z : Value) (n : Nat) (hz : (P.info? t).map (fun i => (i.zero, i.size)) = some (some z, n)) (hn : z.cells.size = n) (hc : cells.size = n) (hall : cells.all (·.oneCell') = true)
  (N : Nat) (hN : w.heap.size = N) (a' : Act) (ha : (a.put (some d1) (.agg cells)).put (some d2) (.pointer (some ⟨N, 0, none⟩)) = a') (hx : a'.eval (.tmp d2) = .pointer (some ⟨N, 0, none⟩)) (hy : a'.eval (.tmp d1) = .agg cells)
  (h : wpList P ops Q rest a' (w.alloc (.cells cells t))) : wpList P ops Q (o1 :: o2 :: o3 :: rest) a w := by
 obtain ⟨z1, z2⟩ := zero_of_info hz
 refine wpList_buildTo h1.1 t parts h1.2.1 _ h1.2.2 cells hf ?_
 refine wpList_plain h2.1 fun K hK => ?_
 unfold Oper.wp execOp
 simp only [h2.2.1, Instr.alloc, Sem.run_bind, z1, Result.andThen_ok, newVar, newRow, Sem.run_pure]
 have hr : Sem.run P (newObj (Obj.cells z.cells t)) w = .ok w.heap.size (w.alloc (Obj.cells z.cells t)) := by simp
 simp only [hr, Result.andThen_ok]
 show K ((a.put (some d1) (.agg cells)).put o2.dst (.pointer (some ⟨w.heap.size, 0, none⟩))) (w.alloc (.cells z.cells t))
 rw [h2.2.2]
 refine hK _ _ ?_
 subst hN
 rw [ha]
 refine wpList_store_rowTo h3.1 t _ _ h3.2.1 h3.2.2 w.heap.size cells hx hy t z.cells (heap_alloc_last w _) (by rw [z2, hc]) (by rw [hn, hc]) hall ?_
 rw [World.setRow_alloc_new]
 exact h
end
section
abbrev Hd := Option Addr × Nat × Nat
def hd_SigA (y : Hd) : Value := .slice y.1 y.2.1 y.2.2
theorem len18 {α : Type} {l : List α} (h : l.length = 18) : ∃ y0 y1 y2 y3 y4 y5 y6 y7 y8 y9 y10 y11 y12 y13 y14 y15 y16 y17, l = [y0, y1, y2, y3, y4, y5, y6, y7, y8, y9, y10, y11, y12, y13, y14, y15, y16, y17] := by
 match l, h with
 | [y0, y1, y2, y3, y4, y5, y6, y7, y8, y9, y10, y11, y12, y13, y14, y15, y16, y17], _ => exact ⟨y0, y1, y2, y3, y4, y5, y6, y7, y8, y9, y10, y11, y12, y13, y14, y15, y16, y17, rfl⟩
theorem tab_cell (l : List Hd) (e : TypeId) (w : World) (k : Nat) (y : Hd) (hy : l[k]? = some y) :
  (w.alloc (.cells (l.map hd_SigA).toArray e)).cell? ⟨w.heap.size, k, none⟩ = some (.slice y.1 y.2.1 y.2.2) := by
 rw [World.cell?_alloc_at _ _ _ _ rfl]
 show (l.map hd_SigA).toArray[k]? = some (.slice y.1 y.2.1 y.2.2)
 rw [List.getElem?_toArray, List.getElem?_map, hy]
 rfl
theorem below1 (w : World) (b : Obj) : Below w.heap.size w (w.alloc b) := (Below.refl w.heap.size w).alloc (Nat.le_refl _) b
theorem below2 (w : World) (b c : Obj) : Below w.heap.size w ((w.alloc b).alloc c) := (below1 w b).trans ((Below.refl w.heap.size _).alloc (by rw [size_alloc]; omega) c)
theorem tab_cell2 (l : List Hd) (e : TypeId) (w : World) (k : Nat) (y : Hd) (hy : l[k]? = some y) (c : Obj) :
  ((w.alloc (.cells (l.map hd_SigA).toArray e)).alloc c).cell? ⟨w.heap.size, k, none⟩ = some (.slice y.1 y.2.1 y.2.2) := by
 rw [(below1 (w.alloc (.cells (l.map hd_SigA).toArray e)) c).cell (by show w.heap.size < _; rw [size_alloc]; omega)]
 exact tab_cell l e w k y hy
theorem atReq_far (l : List Hd) (hl : l.length = 18) (f o : Int) (w : World) (hf : f < 0 ∨ 18 ≤ f) :
  Calls Tryz.prog 114 #[.agg (l.map hd_SigA).toArray, .int .i64 f, .int .i64 o] w fun e w' => e = .returned (.tuple #[.agg #[.string ⟨#[]⟩, .int .i64 0, .bool false], .bool false]) ∧ Below w.heap.size w w' := by
 obtain ⟨y0, y1, y2, y3, y4, y5, y6, y7, y8, y9, y10, y11, y12, y13, y14, y15, y16, y17, rfl⟩ := len18 hl
 simp only [List.map_cons, List.map_nil, hd_SigA]
 clear hl
 go_enter Tryz.func114, Tryz.ntmps114
 by_cases h1 : f < 0
 ·have h1' : decide (f < 0) = true := decide_eq_true h1
  go_wp2
  refine bodyPost_ret (v := .tuple #[.agg #[.string ⟨#[]⟩, .int .i64 0, .bool false], .bool false]) ?_ rfl ⟨rfl, below2 _ _ _⟩
  simp [results, Tryz.results114, go_sem]
 ·have h2 : 18 ≤ f := by omega
  have h1' : decide (f < 0) = false := decide_eq_false h1
  have h2' : decide (18 ≤ f) = true := decide_eq_true h2
  go_wp2
  refine bodyPost_ret (v := .tuple #[.agg #[.string ⟨#[]⟩, .int .i64 0, .bool false], .bool false]) ?_ rfl ⟨rfl, below2 _ _ _⟩
  simp [results, Tryz.results114, go_sem]
theorem atReq_none (l : List Hd) (hl : l.length = 18) (k : Nat) (hk : k < 18) (y : Hd) (hy : l[k]? = some y) (o : Int) (w : World) (ho : o < 0 ∨ y.2.1 ≤ o) :
  Calls Tryz.prog 114 #[.agg (l.map hd_SigA).toArray, .int .i64 k, .int .i64 o] w fun e w' => e = .returned (.tuple #[.agg #[.string ⟨#[]⟩, .int .i64 0, .bool false], .bool false]) ∧ Below w.heap.size w w' := by
 have hc := tab_cell2 l 240 w k y hy (.cells #[.string ⟨#[]⟩, .int .i64 0, .bool false] 176)
 obtain ⟨yp, yn, yc⟩ := y
 obtain ⟨y0, y1, y2, y3, y4, y5, y6, y7, y8, y9, y10, y11, y12, y13, y14, y15, y16, y17, rfl⟩ := len18 hl
 simp only [List.map_cons, List.map_nil, hd_SigA] at hc ⊢
 simp only at ho
 clear hl hy
 go_enter Tryz.func114, Tryz.ntmps114
 have h1' : decide ((k : Int) < 0) = false := decide_eq_false (by omega)
 have h2' : decide (18 ≤ (k : Int)) = false := decide_eq_false (by omega)
 have h2 : (k : Int) < 18 := by omega
 by_cases h3 : o < 0
 ·have h3' : decide (o < 0) = true := decide_eq_true h3
  go_wp2
  refine bodyPost_ret (v := .tuple #[.agg #[.string ⟨#[]⟩, .int .i64 0, .bool false], .bool false]) ?_ rfl ⟨rfl, below2 _ _ _⟩
  simp [results, Tryz.results114, go_sem]
 ·have h4 : (yn : Int) ≤ o := by omega
  have h3' : decide (o < 0) = false := decide_eq_false h3
  have h4' : decide ((yn : Int) ≤ o) = true := decide_eq_true h4
  go_wp2
  refine bodyPost_ret (v := .tuple #[.agg #[.string ⟨#[]⟩, .int .i64 0, .bool false], .bool false]) ?_ rfl ⟨rfl, below2 _ _ _⟩
  simp [results, Tryz.results114, go_sem]
theorem atReq_some (l : List Hd) (hl : l.length = 18) (k : Nat) (hk : k < 18) (B n c : Nat) (hy : l[k]? = some (some ⟨B, 0, none⟩, n, c)) (j : Nat) (w : World) (hj : j < n) (s : ByteArray) (m : Int) (b : Bool) (c0 : w.cell? ⟨B, j * 3, none⟩ = some (.string s)) (c1 : w.cell? ⟨B, j * 3 + 1, none⟩ = some (.int .i64 m)) (c2 : w.cell? ⟨B, j * 3 + 2, none⟩ = some (.bool b)) :
  Calls Tryz.prog 114 #[.agg (l.map hd_SigA).toArray, .int .i64 k, .int .i64 j] w fun e w' => e = .returned (.tuple #[.agg #[.string s, .int .i64 m, .bool b], .bool true]) ∧ Below w.heap.size w w' := by
 have hc := tab_cell2 l 240 w k _ hy (.cells #[.string ⟨#[]⟩, .int .i64 0, .bool false] 176)
 have hB : B < w.heap.size := World.block_lt_of_cell? w _ c0
 obtain ⟨y0, y1, y2, y3, y4, y5, y6, y7, y8, y9, y10, y11, y12, y13, y14, y15, y16, y17, rfl⟩ := len18 hl
 simp only [List.map_cons, List.map_nil, hd_SigA] at hc ⊢
 clear hl hy
 go_enter Tryz.func114, Tryz.ntmps114
 have h1' : decide ((k : Int) < 0) = false := decide_eq_false (by omega)
 have h2' : decide (18 ≤ (k : Int)) = false := decide_eq_false (by omega)
 have h2 : (k : Int) < 18 := by omega
 have h3' : decide ((j : Int) < 0) = false := decide_eq_false (by omega)
 have h4' : decide (n ≤ j) = false := decide_eq_false (by omega)
 have h4 : (j : Int) < (n : Int) := by omega
 go_wp2
 refine bodyPost_ret (v := .tuple #[.agg #[.string s, .int .i64 m, .bool b], .bool true]) ?_ rfl ⟨rfl, below2 _ _ _⟩
 simp [results, Tryz.results114, go_sem]
theorem atStr_far (l : List Hd) (hl : l.length = 18) (f o : Int) (w : World) (hf : f < 0 ∨ 18 ≤ f) :
  Calls Tryz.prog 231 #[.agg (l.map hd_SigA).toArray, .int .i64 f, .int .i64 o] w fun e w' => e = .returned (.tuple #[.string ⟨#[]⟩, .bool false]) ∧ Below w.heap.size w w' := by
 obtain ⟨y0, y1, y2, y3, y4, y5, y6, y7, y8, y9, y10, y11, y12, y13, y14, y15, y16, y17, rfl⟩ := len18 hl
 simp only [List.map_cons, List.map_nil, hd_SigA]
 clear hl
 go_enter Tryz.func231, Tryz.ntmps231
 by_cases h1 : f < 0
 ·have h1' : decide (f < 0) = true := decide_eq_true h1
  go_wp2
  go_ret2
  exact ⟨rfl, below1 _ _⟩
 ·have h2 : 18 ≤ f := by omega
  have h1' : decide (f < 0) = false := decide_eq_false h1
  have h2' : decide (18 ≤ f) = true := decide_eq_true h2
  go_wp2
  go_ret2
  exact ⟨rfl, below1 _ _⟩
theorem atStr_none (l : List Hd) (hl : l.length = 18) (k : Nat) (hk : k < 18) (y : Hd) (hy : l[k]? = some y) (o : Int) (w : World) (ho : o < 0 ∨ y.2.1 ≤ o) :
  Calls Tryz.prog 231 #[.agg (l.map hd_SigA).toArray, .int .i64 k, .int .i64 o] w fun e w' => e = .returned (.tuple #[.string ⟨#[]⟩, .bool false]) ∧ Below w.heap.size w w' := by
 have hc := tab_cell l 332 w k y hy
 obtain ⟨yp, yn, yc⟩ := y
 obtain ⟨y0, y1, y2, y3, y4, y5, y6, y7, y8, y9, y10, y11, y12, y13, y14, y15, y16, y17, rfl⟩ := len18 hl
 simp only [List.map_cons, List.map_nil, hd_SigA] at hc ⊢
 simp only at ho
 clear hl hy
 go_enter Tryz.func231, Tryz.ntmps231
 have h1' : decide ((k : Int) < 0) = false := decide_eq_false (by omega)
 have h2' : decide (18 ≤ (k : Int)) = false := decide_eq_false (by omega)
 have h2 : (k : Int) < 18 := by omega
 by_cases h3 : o < 0
 ·have h3' : decide (o < 0) = true := decide_eq_true h3
  go_wp2
  go_ret2
  exact ⟨rfl, below1 _ _⟩
 ·have h4 : (yn : Int) ≤ o := by omega
  have h3' : decide (o < 0) = false := decide_eq_false h3
  have h4' : decide ((yn : Int) ≤ o) = true := decide_eq_true h4
  go_wp2
  go_ret2
  exact ⟨rfl, below1 _ _⟩
theorem atStr_some (l : List Hd) (hl : l.length = 18) (k : Nat) (hk : k < 18) (B n c : Nat) (hy : l[k]? = some (some ⟨B, 0, none⟩, n, c)) (j : Nat) (w : World) (hj : j < n) (s : ByteArray) (c0 : w.cell? ⟨B, j, none⟩ = some (.string s)) :
  Calls Tryz.prog 231 #[.agg (l.map hd_SigA).toArray, .int .i64 k, .int .i64 j] w fun e w' => e = .returned (.tuple #[.string s, .bool true]) ∧ Below w.heap.size w w' := by
 have hc := tab_cell l 332 w k _ hy
 have hB : B < w.heap.size := World.block_lt_of_cell? w _ c0
 obtain ⟨y0, y1, y2, y3, y4, y5, y6, y7, y8, y9, y10, y11, y12, y13, y14, y15, y16, y17, rfl⟩ := len18 hl
 simp only [List.map_cons, List.map_nil, hd_SigA] at hc ⊢
 clear hl hy
 go_enter Tryz.func231, Tryz.ntmps231
 have h1' : decide ((k : Int) < 0) = false := decide_eq_false (by omega)
 have h2' : decide (18 ≤ (k : Int)) = false := decide_eq_false (by omega)
 have h2 : (k : Int) < 18 := by omega
 have h3' : decide ((j : Int) < 0) = false := decide_eq_false (by omega)
 have h4' : decide (n ≤ j) = false := decide_eq_false (by omega)
 have h4 : (j : Int) < (n : Int) := by omega
 go_wp2
 go_ret2
 exact ⟨rfl, below1 _ _⟩
end
end Go.Proofs.YtpbgbpcdohdecaaGreatDoor
