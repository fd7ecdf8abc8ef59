/- WordBack's walk: for every number, text and bytes the law returns true; nothing that was there is turned. -/
import Derived.Test.YtmddkaemknoepaaDoorWordC
import Derived.Test.YtmddkaemknoepaaDoorWordM
namespace Go.Proofs.YtmddkaemknoepaaDoor.wordBack
open Go Go.RowKit

theorem below_drew {u v : World} {B : Nat} (h : Below B u v) {w' : World} (hq : ∃ q, w' = v.drewN q) : Below B u w' := by
  obtain ⟨q, rfl⟩ := hq
  exact ⟨h.os, h.tape, h.output, h.size, h.block⟩

/-- tableaulaw00.Bytes: a copy. -/
theorem bytes_any (w : World) (a : Option Addr) (n c : Nat) (l : List UInt8) (hr : Rd w a n c l) (hn : n ≤ 225000000000000) :
    Calls Tryd.prog 26 #[.slice a n c] w fun e w' => ∃ r, e = .returned r ∧ w'.ownsRow w.heap.size 5 1 r n (bc l) ∧ Below w.heap.size w w' := by
  obtain ⟨i0, hi, hz0, hz1, hz2⟩ := info_parts infoU8
  have HS : Hid (Src Tryd.prog 1 22 (.slice a n c) n (bc l) w) := hr.src Tryd.underlying22
  clear hr
  go_enter Tryd.func26, Tryd.ntmps26
  go_wp2_with (at_builtin; refine wpList_append_own_src _ rfl (.const (.slice none 0 0)) (.tmp 3) 22 22 rfl w.heap.size 5 i0 (.int .u8 0) 1 1 Tryd.underlying22 hi hz0 hz1 hz2 rfl (.slice none 0 0) 0 [] rfl (World.ownsRow_nil _ _ _ _) (.slice a n c) n (bc l) rfl HS.out (by simp only [maxLen]; omega) (fits1 (by omega)) (Nat.le_refl _) ?_; intro v2 w2 ho2 hg2)
  rw [Nat.zero_add, List.nil_append] at ho2
  go_ret
  exact ⟨_, rfl, ho2, (Below.refl _ _).grown hg2 (Nat.le_refl _) (fun k hk => by cases hk)⟩

/-- The bytes that the law puts. -/
def all (v : Nat) (s : List UInt8) : List UInt8 := le4 v ++ putl (s ++ [0]) ++ putl s

theorem all_length (v : Nat) (s : List UInt8) : (all v s).length = 12 + (s.length + 4) / 4 * 4 + (s.length + 3) / 4 * 4 := by
  simp only [all, List.length_append, putl_length, le4, List.length_cons, List.length_nil]
  omega

theorem get_all (v : Nat) (hv : v < 4294967296) (s : List UInt8) : getE (all v s) 0 = 0 ∧ getV (all v s) 0 = v := by
  have hl := all_length v s
  have h0 := getE_ok (l := all v s) (k := 0) (by omega)
  have h1 := getV_ok (l := all v s) (k := 0) (by omega)
  refine ⟨h0, h1.trans ?_⟩
  rw [all, List.append_assoc]
  exact num4_at [] _ v hv

theorem text_all (v : Nat) (s : List UInt8) (hs : s.length ≤ 4095) (h0 : (0 : UInt8) ∉ s) : txtE (all v s) 4 = 0 ∧ txtS (all v s) 4 = s ∧ txtN (all v s) 4 = 8 + (s.length + 4) / 4 * 4 := by
  obtain ⟨e1, e2, e3⟩ := txt_in (le4 v) s (putl s) hs h0
  rw [← List.append_assoc] at e1 e2 e3
  refine ⟨e1, e2, e3.trans ?_⟩
  rw [putl_length, List.length_append]
  simp only [le4, List.length_cons, List.length_nil]
  omega

theorem list_all (v : Nat) (s more : List UInt8) (hs : s.length ≤ 4095) : lstE (all v s ++ more) ((8 + (s.length + 4) / 4 * 4 : Nat) : Int) = 0 ∧ lstS (all v s ++ more) ((8 + (s.length + 4) / 4 * 4 : Nat) : Int) = s ∧ lstN (all v s ++ more) ((8 + (s.length + 4) / 4 * 4 : Nat) : Int) = (all v s).length := by
  obtain ⟨e1, e2, e3⟩ := lst_in (le4 v ++ putl (s ++ [0])) s more (by omega)
  have hp : (le4 v ++ putl (s ++ [0])).length = 8 + (s.length + 4) / 4 * 4 := by
    rw [List.length_append, putl_length, List.length_append]
    simp only [le4, List.length_cons, List.length_nil]
    omega
  rw [hp, ← List.append_assoc] at e1 e2 e3
  refine ⟨e1, e2, e3.trans ?_⟩
  rw [all, List.length_append, hp]

theorem same (s : ByteArray) : (⟨s.data.toList.toArray⟩ : ByteArray) = s := by simp

theorem rd_low {w : World} {a : Option Addr} {n c : Nat} {l : List UInt8} (h : Rd w a n c l) : ∀ x, a = some x → 0 < l.length → x.block < w.heap.size := fun x hx hl => by
  have hl' := h.len
  obtain ⟨b, off, rfl, hb, _⟩ := h.plain (by omega)
  cases hx
  exact hb

theorem no_zero {s : ByteArray} {k : Nat} (hk : ¬ k < s.size) (h : ∀ j (hj : j < s.size), j < k → s[j] ≠ 0) : (0 : UInt8) ∉ s.data.toList := by
  intro hm
  obtain ⟨j, hj, e⟩ := List.getElem_of_mem hm
  rw [size_toList] at hj
  exact h j hj (by omega) (by rw [← e]; rfl)

set_option maxRecDepth 100000 in
set_option maxHeartbeats 2000000 in
theorem core (v : Nat) (hv : v < 4294967296) (s : ByteArray) (a : Option Addr) (n c : Nat) (l : List UInt8) (w : World) (hr : Rd w a n c l) (hn : n ≤ 140737488351232) (hs : s.size ≤ 4095) (es : List Addr) (hE : E4 w es) :
    Calls Tryd.prog 4 #[.int .u32 v, .string s, .slice a n c] w fun e w' => e = .returned (.bool true) ∧ Below w.heap.size w w' := by
  have hnl : ¬ ((4095 : Int) < s.size) := by omega
  have hsz := size_toList s
  have HR : Hid (Rd w a n c l) := hr
  have HE : Hid (E4 w es) := hE
  have HZ : Hid (s.data.toList.length = s.size) := hsz
  clear hr hE hsz
  go_enter Tryd.func4, Tryd.ntmps4
  go_wp2
  go_loop [7] (fun i => ∃ k : Nat, k ≤ s.size ∧ i = .int .i64 k ∧ ∀ j (hj : j < s.size), j < k → s[j] ≠ 0) (fun i => s.size - (intOf i).toNat)
  case atStart => exact ⟨0, Nat.zero_le _, rfl, fun j _ h => by omega⟩
  case round =>
    obtain ⟨k, hk, rfl, hz⟩ := hrel
    have Hz : Hid (∀ j (hj : j < s.size), j < k → s[j] ≠ 0) := hz
    clear hz
    by_cases hlt : k < s.size
    · by_cases h0 : s[k] = 0
      · have h0' : ((s[k].toNat : Int) == 0) = true := by rw [h0]; rfl
        have H0 : Hid (s[k] = 0) := h0
        clear h0
        go_wp2_with fail
        refine (awake_any _).mono ?_
        rintro e w1 ⟨rfl, b1⟩
        go_wp2
        go_ret
        exact ⟨rfl, b1⟩
      · have h0' : ((s[k].toNat : Int) == 0) = false := beq_eq_false_iff_ne.2 fun e => h0 (UInt8.toNat_inj.1 (by simpa using e))
        have H0 : Hid (s[k] ≠ 0) := h0
        clear h0
        go_wp2
        go_round
        case rel => exact ⟨k + 1, by omega, by go_num, fun j hj h => by rcases Nat.lt_or_ge j k with h' | h'; exact Hz.out j hj h'; obtain rfl : j = k := (by omega); exact H0.out⟩
        case measure => simp [intOf]; omega
    · have hz0 := no_zero hlt Hz.out
      have hzl := HZ.out
      obtain ⟨g1, g2⟩ := get_all v hv s.data.toList
      obtain ⟨t1, t2, t3⟩ := text_all v s.data.toList (by omega) hz0
      obtain ⟨l1, l2, l3⟩ := list_all v s.data.toList l (by omega)
      have hN := all_length v s.data.toList
      have H12 : Hid (le4 v ++ putl (s.data.toList ++ [0]) ++ putl s.data.toList = all v s.data.toList) := rfl
      have hp1 := putl_length (s.data.toList ++ [0])
      have hp2 := putl_length s.data.toList
      rw [List.length_append, hzl] at hp1
      rw [hzl] at hp2
      generalize hm : 8 + (s.data.toList.length + 4) / 4 * 4 = m at t3 l1 l2 l3
      generalize hAA : all v s.data.toList = A at *
      generalize hNN : A.length = N at *
      have hN4 : ((N : Int) % 4 == 0) = true := by rw [beq_iff_eq]; omega
      have hNb : N ≤ 20000 := by omega
      have G1 : Hid (getE A 0 = 0 ∧ getV A 0 = v) := ⟨g1, g2⟩
      have T1 : Hid (txtE A 4 = 0 ∧ txtS A 4 = s.data.toList ∧ txtN A 4 = m) := ⟨t1, t2, t3⟩
      have L1 : Hid (lstE (A ++ l) (m : Int) = 0 ∧ lstS (A ++ l) (m : Int) = s.data.toList ∧ lstN (A ++ l) (m : Int) = N) := ⟨l1, l2, l3⟩
      have HN : Hid (A.length = N) := hNN
      have HP1 : Hid ((putl (s.data.toList ++ [0])).length ≤ 10000) := by simp only [Hid]; simp at hp1; omega
      have HN3 : Hid (4 + (putl (s.data.toList ++ [0])).length + (putl s.data.toList).length = N) := by simp only [Hid]; simp at hp1; omega
      clear hz0 hzl g1 g2 t1 t2 t3 l1 l2 l3 hN hp1 hp2 hm hAA hNN
      go_wp2_with fail
      refine (put_any w none 0 0 [] (Rd.nil w) v hv (by decide)).mono ?_
      rintro e w1 ⟨r1, rfl, o1, b1⟩
      obtain ⟨a1, c1, rfl, q1, _⟩ := rd_of_owns o1
      have Q1 : Hid (Rd w1 a1 4 c1 (le4 v)) := q1
      clear o1 q1
      go_wp2_with fail
      refine (putText_any w1 a1 4 c1 _ Q1.out s (by omega) (by decide)).mono ?_
      rintro e w2 ⟨r2, rfl, o2, b2⟩
      obtain ⟨a2, c2, rfl, q2, _⟩ := rd_of_owns o2
      have b2 : Below w.heap.size w w2 := b1.trans (b2.mono b1.size)
      have Q2 : Hid (Rd w2 a2 (4 + (putl (s.data.toList ++ [0])).length) c2 (le4 v ++ putl (s.data.toList ++ [0]))) := q2
      clear o2 q2
      go_wp2_with fail
      refine (putList_any w2 a2 _ c2 _ Q2.out s (by omega) (by have := HP1.out; omega)).mono ?_
      rintro e w3 ⟨r3, rfl, o3, b3⟩
      have b3 : Below w.heap.size w w3 := b2.trans (b3.mono b2.size)
      rw [H12.out, HN3.out] at o3
      obtain ⟨a3, c3, rfl, q3, k3⟩ := rd_of_owns o3
      have Q3 : Hid (Rd w3 a3 N c3 A) := q3
      have K3 : Hid (∀ x, a3 = some x → x.block < w3.heap.size) := fun x hx => (k3 x hx).2
      have E3 : Hid (E4 w3 es) := HE.out.below b3
      clear o3 q3 k3
      have HG : Hid (∀ _ : Unit, Calls Tryd.prog 19 #[.slice a3 N c3, .int .i64 0] w3 fun e w' => e = .returned (.tuple #[.int .u32 v, .nilIface]) ∧ Below w3.heap.size w3 w') := fun _ => by
        refine (get_any w3 a3 N c3 A Q3.out (by omega) es E3.out 0).mono ?_
        rintro e w' ⟨rfl, hq⟩
        rw [G1.out.1, G1.out.2]
        exact ⟨rfl, below_drew (Below.refl _ _) hq⟩
      have HT : Hid (∀ u, Below w3.heap.size w3 u → Calls Tryd.prog 21 #[.slice a3 N c3, .int .i64 4] u fun e w' => e = .returned (.tuple #[.string s, .int .i64 m, .nilIface]) ∧ Below u.heap.size u w') := fun u hu => by
        refine (getText_any u a3 N c3 A (Q3.out.below hu fun x hx _ => K3.out x hx) (by omega) es (E3.out.below hu) 4).mono ?_
        rintro e w' ⟨rfl, hq⟩
        rw [T1.out.1, T1.out.2.1, T1.out.2.2, same]
        exact ⟨rfl, below_drew (Below.refl _ _) hq⟩
      have HB : Hid (∀ u, Below w3.heap.size w3 u → Calls Tryd.prog 26 #[.slice a3 N c3] u fun e w' => ∃ r, e = .returned r ∧ w'.ownsRow u.heap.size 5 1 r N (bc A) ∧ Below u.heap.size u w') := fun u hu =>
        bytes_any u a3 N c3 A (Q3.out.below hu fun x hx _ => K3.out x hx) (by omega)
      go_wp2_with fail
      refine (HG.out ()).mono ?_
      rintro e w4 ⟨rfl, b4⟩
      go_wp2_with fail
      refine (HT.out w4 b4).mono ?_
      rintro e w5 ⟨rfl, b5⟩
      have b5 : Below w3.heap.size w3 w5 := b4.trans (b5.mono b4.size)
      go_wp2_with fail
      refine (HB.out w5 b5).mono ?_
      rintro e w6 ⟨r6, rfl, o6, b6⟩
      have s6 := b6.size
      have b6' : Below w3.heap.size w3 w6 := b5.trans (b6.mono b5.size)
      have bw6 : Below w.heap.size w w6 := b3.trans (b6'.mono b3.size)
      obtain ⟨i0, hi, hz0, hz1, hz2⟩ := info_parts infoU8
      have HS : Hid (Src Tryd.prog 1 22 (.slice a n c) n (bc l) w6) := (HR.out.below bw6 (rd_low HR.out)).src Tryd.underlying22
      go_wp2_with (at_builtin; refine wpList_append_own_src _ rfl (.tmp 51) (.tmp 52) 22 22 rfl w5.heap.size 5 i0 (.int .u8 0) 1 1 Tryd.underlying22 hi hz0 hz1 hz2 rfl r6 N (bc A) rfl o6 (.slice a n c) n (bc l) rfl HS.out (by simp only [maxLen]; omega) (fits1 (by omega)) s6 ?_; intro v7 w7 o7 g7)
      have s5 := b5.size
      have b7 : Below w3.heap.size w3 w7 := b6'.grown g7 b6'.size (fun k hk => Nat.le_trans s5 (row_lt o6 k hk))
      rw [← bc_append] at o7
      obtain ⟨a7, c7, rfl, q7, _⟩ := rd_of_owns o7
      have HL : Hid (∀ _ : Unit, Calls Tryd.prog 23 #[.slice a7 (N + n) c7, .int .i64 m] w7 fun e w' => e = .returned (.tuple #[.string s, .int .i64 N, .nilIface]) ∧ Below w7.heap.size w7 w') := fun _ => by
        refine (getList_any w7 a7 (N + n) c7 (A ++ l) q7 (by omega) es (E3.out.below b7) m).mono ?_
        rintro e w' ⟨rfl, hq⟩
        rw [L1.out.1, L1.out.2.1, L1.out.2.2, same]
        exact ⟨rfl, below_drew (Below.refl _ _) hq⟩
      clear o6 b6 o7 g7 q7 bw6
      go_wp2_with fail
      refine (HL.out ()).mono ?_
      rintro e w8 ⟨rfl, b8⟩
      have b8 : Below w3.heap.size w3 w8 := b7.trans (b8.mono b7.size)
      go_wp2_with fail
      refine (awake_any _).mono ?_
      rintro e w9 ⟨rfl, b9⟩
      have b9 : Below w3.heap.size w3 w9 := b8.trans (b9.mono b8.size)
      go_wp2
      go_ret
      exact ⟨rfl, b3.trans (b9.mono b3.size)⟩

set_option maxRecDepth 100000 in
theorem long (v : Int) (s : ByteArray) (a : Option Addr) (n c : Nat) (w : World) (hs : 4095 < s.size) :
    Calls Tryd.prog 4 #[.int .u32 v, .string s, .slice a n c] w fun e w' => e = .returned (.bool true) ∧ Below w.heap.size w w' := by
  go_enter Tryd.func4, Tryd.ntmps4
  go_wp2_with fail
  refine (awake_any _).mono ?_
  rintro e w1 ⟨rfl, b1⟩
  go_wp2
  go_ret
  exact ⟨rfl, b1⟩

theorem walk (v : Int) (s : ByteArray) (a : Option Addr) (n c : Nat) (zs : List Int) (w : World) (hv : (Lit.int .u32 v).wf = true) (_ : s.size ≤ 140737488351232) (hr : RdI .u8 w a n c zs) (hc : c * 1 ≤ 140737488351232) (hL : laidMetH Tryd.prog Rows.wordBackRow.laid w) :
    Calls Tryd.prog 4 #[.int .u32 v, .string s, .slice a n c] w fun e w' => e = .returned (.bool true) ∧ Below w.heap.size w w' := by
  obtain ⟨es, hF⟩ := errs4 hL
  obtain ⟨l, hr', _⟩ := hr.bytes
  have hle := hr.le
  have hv' : 0 ≤ v ∧ v ≤ 4294967295 := by simpa [Lit.wf, IntKind.min, IntKind.max, IntKind.signed, IntKind.bits] using hv
  by_cases h : s.size ≤ 4095
  · obtain ⟨k, rfl⟩ := Int.eq_ofNat_of_zero_le hv'.1
    exact core k (by omega) s a n c l w hr' (by omega) h es (E4.of hF rfl)
  · exact long v s a n c w (by omega)
end Go.Proofs.YtmddkaemknoepaaDoor.wordBack
