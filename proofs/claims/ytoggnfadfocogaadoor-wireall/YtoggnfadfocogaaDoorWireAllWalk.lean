/- WireAll's walk: for every message, signature, raw message and bytes the law returns true; nothing that was there is turned. -/
import Derived.Test.YtoggnfadfocogaaDoorWireN
import Derived.Test.YtoggnfadfocogaaDoorKindB
import Derived.Test.YtoggnfadfocogaaDoorRef4B
import Derived.Test.YtoggnfadfocogaaDoorRef4D
import Derived.Test.YtoggnfadfocogaaDoorRef4E
namespace Go.Proofs.YtoggnfadfocogaaDoor.wireAll
open Go Go.RowKit

/-- tableaulaw00.Bytes: a copy. -/
theorem bytes_any (w : World) (a : Option Addr) (n c : Nat) (l : List UInt8) (hr : Rd w a n c l) (hn : n ≤ 225000000000000) :
    Calls Tryd.prog 17 #[.slice a n c] w fun e w' => ∃ r, e = .returned r ∧ w'.ownsRow w.heap.size 5 1 r n (bc l) ∧ Below w.heap.size w w' := by
  obtain ⟨i0, hi, hz0, hz1, hz2⟩ := info_parts infoU8
  have HS : Hid (Src Tryd.prog 1 27 (.slice a n c) n (bc l) w) := hr.src Tryd.underlying27
  clear hr
  go_enter Tryd.func17, Tryd.ntmps17
  go_wp2_with (at_builtin; refine wpList_append_own_src _ rfl (.const (.slice none 0 0)) (.tmp 3) 27 27 rfl w.heap.size 5 i0 (.int .u8 0) 1 1 Tryd.underlying27 hi hz0 hz1 hz2 rfl (.slice none 0 0) 0 [] rfl (World.ownsRow_nil _ _ _ _) (.slice a n c) n (bc l) rfl HS.out (by simp only [maxLen]; omega) (fits1 (by omega)) (Nat.le_refl _) ?_; intro v2 w2 ho2 hg2)
  rw [Nat.zero_add, List.nil_append] at ho2
  go_ret
  exact ⟨_, rfl, ho2, (Below.refl _ _).grown hg2 (Nat.le_refl _) (fun k hk => by cases hk)⟩

theorem getE_le (l : List UInt8) (p : Int) : getE l p ≤ 16 := by unfold getE; split <;> (try split) <;> omega
theorem lstE_le (l : List UInt8) (p : Int) : lstE l p ≤ 16 := by
  have := getE_le l p
  unfold lstE
  split
  · omega
  · split
    · omega
    · split
      · omega
      · split <;> omega
theorem txtE_le (l : List UInt8) (p : Int) : txtE l p ≤ 16 := by
  have := lstE_le l p
  unfold txtE
  split
  · omega
  · split <;> omega
theorem gaE_le (l : List UInt8) (p z : Nat) : gaE l p z ≤ 16 := by
  have h1 := getE_le l p
  have h2 := lstE_le l p
  have h3 := txtE_le l p
  have h4 : rdE l p z ≤ 16 := by
    unfold rdE
    split
    · omega
    · split
      · omega
      · split <;> omega
  unfold gaE
  split
  · omega
  · split <;> omega
theorem gets_le (b : List UInt8) : ∀ (s : List UInt8) (p : Nat), (gets b p s).1 ≤ 16
  | [], p => by simp [gets]
  | z :: s, p => by
    have h1 := gaE_le b p z.toNat
    have h2 := gets_le b s (gaX b p z.toNat)
    unfold gets
    split
    · exact h2
    · exact h1
theorem gets_len (b : List UInt8) : ∀ (s : List UInt8) (p : Nat), (gets b p s).2.1.length ≤ s.length
  | [], p => by simp [gets]
  | z :: s, p => by
    have h2 := gets_len b s (gaX b p z.toNat)
    unfold gets
    split
    · simpa using h2
    · simp
theorem gotL_len (o q : Int) (t s : ByteArray) (h : s.size ≤ 1000000) : (gotL o q t.data.toList s.data.toList).length ≤ 1000000 := by
  have h1 := gets_len t.data.toList s.data.toList 0
  have h2 := size_toList s
  unfold gotL
  split
  · omega
  · simp
theorem noB_le (b : Bool) : noB b ≤ 16 := by cases b <;> decide
theorem gotE_le (o q : Int) (b s : List UInt8) : gotE o q b s ≤ 16 := by
  have h1 := gets_le b s 0
  have h2 := noB_le (chk o q (gets b 0 s).2.1 s)
  unfold gotE
  split
  · omega
  · split <;> omega
theorem putE_le (o q : Int) (l : List AV) (s : List UInt8) : putE o q l s ≤ 16 := by
  unfold putE
  split
  · split <;> omega
  · omega
theorem hdE_le (l : List UInt8) : hdE l ≤ 16 := by
  unfold hdE
  split
  · omega
  · split
    · omega
    · split <;> omega

theorem rd_low {w : World} {a : Option Addr} {n c : Nat} {l : List UInt8} (h : Rd w a n c l) : ∀ x, a = some x → 0 < l.length → x.block < w.heap.size := fun x hx hl => by
  have hl' := h.len
  obtain ⟨b, off, rfl, hb, _⟩ := h.plain (by omega)
  cases hx
  exact hb

/-- A slice that may be turned into this text in this world and in each later one. -/
def Txt (w : World) (v : Value) (s : ByteArray) : Prop := ∀ x, Below w.heap.size w x → (convert 27 9 v).run Tryd.prog x = .ok (.string s) x

theorem txt_of_rd {w : World} {a : Option Addr} {n c : Nat} {l : List UInt8} (h : Rd w a n c l) : Txt w (.slice a n c) ⟨l.toArray⟩ := fun _ hx =>
  (h.below hx (rd_low h)).conv 27 9 5 Tryd.underlying27 Tryd.underlying5 Tryd.underlying9

def putS (o q : Int) (l : List AV) (E : Nat) : ByteArray := if E = 0 then ⟨(putB o q l).toArray⟩ else ⟨#[]⟩

/-- What is put, as a text. -/
theorem txt_put {base : Nat} {w : World} {o q : Int} {l : List AV} {E : Nat} {v : Value} (h : PutIs base w E (putB o q l) v) : ∃ a n c, v = .slice a n c ∧ Txt w (.slice a n c) (putS o q l E) := by
  by_cases hE : E = 0
  · obtain ⟨a, c, rfl, hr, _⟩ := rd_of_owns (h.1 hE)
    refine ⟨a, _, c, rfl, ?_⟩
    rw [putS, if_pos hE]
    exact txt_of_rd hr
  · obtain rfl := h.2 hE
    refine ⟨none, 0, 0, rfl, ?_⟩
    rw [putS, if_neg hE]
    exact txt_of_rd (Rd.nil w)

theorem Txt.on {w u : World} {v : Value} {s : ByteArray} (h : Txt w v s) (hb : Below w.heap.size w u) : Txt u v s := fun x hx => h x (Below.on hb hx)

/-- A variable of the law's that holds a message. -/
structure Var (b : Nat) (O Q : Int) (a : Option Addr) (n c : Nat) (l : List AV) (u : World) : Prop where
  c0 : u.cell? ⟨b, 0, none⟩ = some (.int .i64 O)
  c1 : u.cell? ⟨b, 1, none⟩ = some (.int .i64 Q)
  c2 : u.cell? ⟨b, 2, none⟩ = some (.slice a n c)
  rd : RdA u a n c l

theorem Var.on {b : Nat} {O Q : Int} {a : Option Addr} {n c : Nat} {l : List AV} {u v : World} (h : Var b O Q a n c l u) (hb : Below u.heap.size u v) : Var b O Q a n c l v := by
  have hc : ∀ {b i x}, u.cell? ⟨b, i, none⟩ = some x → v.cell? ⟨b, i, none⟩ = some x := fun {b i x} hx => by
    rw [hb.cell (World.block_lt_of_cell? u _ hx)]; exact hx
  exact ⟨hc h.c0, hc h.c1, hc h.c2, h.rd.below hb h.rd.low⟩

theorem Var.new (w : World) (O Q : Int) {a : Option Addr} {n c : Nat} {l : List AV} (h : RdA w a n c l) : Var w.heap.size O Q a n c l (w.alloc (.cells #[.int .i64 O, .int .i64 Q, .slice a n c] 24)) :=
  ⟨by simp, by simp, by simp, h.below ((Below.refl _ _).alloc (Nat.le_refl _) _) h.low⟩

/-- What stays, behind every call. -/
structure Stay (w : World) (o q ro rq : Int) (a : Option Addr) (n c : Nat) (t : ByteArray) (l : List AV) (b3 : Option Addr) (n3 c3 : Nat) (bl : List UInt8) (es : List Addr) (u : World) : Prop where
  m0 : u.cell? ⟨w.heap.size, 0, none⟩ = some (.int .i64 o)
  m1 : u.cell? ⟨w.heap.size, 1, none⟩ = some (.int .i64 q)
  m2 : u.cell? ⟨w.heap.size, 2, none⟩ = some (.slice a n c)
  r0 : u.cell? ⟨w.heap.size + 1, 0, none⟩ = some (.int .i64 ro)
  r1 : u.cell? ⟨w.heap.size + 1, 1, none⟩ = some (.int .i64 rq)
  r2 : u.cell? ⟨w.heap.size + 1, 2, none⟩ = some (.string t)
  low : w.heap.size + 1 < u.heap.size
  bel : Below w.heap.size w u
  rd : RdA u a n c l
  rb : Rd u b3 n3 c3 bl
  er : Errs u gerrs es

theorem Stay.e4 {w : World} {o q ro rq : Int} {a : Option Addr} {n c : Nat} {t : ByteArray} {l : List AV} {b3 : Option Addr} {n3 c3 : Nat} {bl : List UInt8} {es : List Addr} {u : World} (h : Stay w o q ro rq a n c t l b3 n3 c3 bl es u) : E4 u es := E4.of h.er rfl

theorem Stay.start (w : World) (o q ro rq : Int) (a : Option Addr) (n c : Nat) (t : ByteArray) (l : List AV) (b3 : Option Addr) (n3 c3 : Nat) (bl : List UInt8) (es : List Addr) (hr : RdA w a n c l) (hb3 : Rd w b3 n3 c3 bl) (hE : Errs w gerrs es) :
    Stay w o q ro rq a n c t l b3 n3 c3 bl es ((w.alloc (.cells #[.int .i64 o, .int .i64 q, .slice a n c] 24)).alloc (.cells #[.int .i64 ro, .int .i64 rq, .string t] 26)) := by
  have hb : Below w.heap.size w ((w.alloc (.cells #[.int .i64 o, .int .i64 q, .slice a n c] 24)).alloc (.cells #[.int .i64 ro, .int .i64 rq, .string t] 26)) := ((Below.refl _ _).alloc (Nat.le_refl _) _).alloc (by simp) _
  exact ⟨by simp, by simp, by simp, by simp, by simp, by simp, by simp, hb, hr.below hb hr.low, hb3.below hb (rd_low hb3), hE.below hb⟩

theorem Stay.on {w : World} {o q ro rq : Int} {a : Option Addr} {n c : Nat} {t : ByteArray} {l : List AV} {b3 : Option Addr} {n3 c3 : Nat} {bl : List UInt8} {es : List Addr} {u v : World} (h : Stay w o q ro rq a n c t l b3 n3 c3 bl es u) (hb : Below u.heap.size u v) : Stay w o q ro rq a n c t l b3 n3 c3 bl es v := by
  have hc : ∀ {b i x}, u.cell? ⟨b, i, none⟩ = some x → v.cell? ⟨b, i, none⟩ = some x := fun {b i x} hx => by
    rw [hb.cell (World.block_lt_of_cell? u _ hx)]; exact hx
  exact ⟨hc h.m0, hc h.m1, hc h.m2, hc h.r0, hc h.r1, hc h.r2, Nat.lt_of_lt_of_le h.low hb.size, Below.on h.bel hb, h.rd.below hb h.rd.low, h.rb.below hb (rd_low h.rb), h.er.below hb⟩

set_option maxRecDepth 100000 in
set_option maxHeartbeats 2000000 in
theorem core (o q ro rq : Int) (a : Option Addr) (n c : Nat) (s t : ByteArray) (l : List AV) (b3 : Option Addr) (n3 c3 : Nat) (bl : List UInt8) (w : World) (hr : RdA w a n c l) (hs : s.size ≤ maxLen) (ht : t.size ≤ maxLen) (hb3 : Rd w b3 n3 c3 bl) (hn3 : n3 ≤ 140737488351232) (es : List Addr) (hE : Errs w gerrs es) :
    Calls Tryd.prog 3 #[.agg #[.int .i64 o, .int .i64 q, .slice a n c], .string s, .agg #[.int .i64 ro, .int .i64 rq, .string t], .slice b3 n3 c3] w fun e w' => e = .returned (.bool true) ∧ Below w.heap.size w w' := by
  have hS := Stay.start w o q ro rq a n c t l b3 n3 c3 bl es hr hb3 hE
  have HF : Hid (Calls Tryd.prog 9 #[.agg #[.int .i64 o, .int .i64 q, .slice a n c], .string s] ((w.alloc (.cells #[.int .i64 o, .int .i64 q, .slice a n c] 24)).alloc (.cells #[.int .i64 ro, .int .i64 rq, .string t] 26)) fun e w' => FewRet l s e ∧ Stay w o q ro rq a n c t l b3 n3 c3 bl es w') := by
    refine (few_any o q a n c l s hs _ hS.rd).mono ?_
    rintro e w' ⟨h1, h2⟩
    exact ⟨h1, hS.on h2⟩
  have HW : Hid (∀ u, Stay w o q ro rq a n c t l b3 n3 c3 bl es u → Calls Tryd.prog 10 #[] u fun e w' => e = .returned (.bool true) ∧ Below w.heap.size w w') := fun u hu => by
    refine (awake4_any u es hu.e4).mono ?_
    rintro e w' ⟨rfl, hb⟩
    exact ⟨rfl, Below.on hu.bel hb⟩
  have htn : t.size ≤ 9223372036854775807 := by simp only [maxLen] at ht; omega
  have hln := hr.len
  clear hS hr hE hs ht hb3
  go_enter Tryd.func3, Tryd.ntmps3
  go_wp2_with fail
  refine HF.out.mono ?_
  rintro e w1 ⟨⟨b, rfl, hf⟩, hS⟩
  have HS1 : Hid (Stay w o q ro rq a n c t l b3 n3 c3 bl es w1) := hS
  have m0 := hS.m0
  have m1 := hS.m1
  have m2 := hS.m2
  have r2 := hS.r2
  clear hS HF
  cases b with
  | false =>
    go_wp2_with fail
    refine (HW.out w1 HS1.out).mono ?_
    rintro e w99 ⟨rfl, b99⟩
    go_wp2
    go_ret
    exact ⟨rfl, b99⟩
  | true =>
    have hF := hf rfl
    clear hf
    by_cases h1 : 6000 < t.size
    · have e1 : decide ((6000 : Int) < t.size) = true := decide_eq_true (by omega)
      clear hF
      go_wp2_with fail
      refine (HW.out w1 HS1.out).mono ?_
      rintro e w99 ⟨rfl, b99⟩
      go_wp2
      go_ret
      exact ⟨rfl, b99⟩
    have e1 : decide ((6000 : Int) < t.size) = false := decide_eq_false (by omega)
    have hF1 := hF.1
    have hF2 := hF.2.1
    have HSM : Hid (Small l) := fun x hx => by have := hF.2.2 x hx; omega
    have htl : t.size ≤ 6000 := by omega
    clear h1 hF
    have HM : Hid (Calls Tryd.prog 12 #[.agg #[.int .i64 o, .int .i64 q, .slice a n c]] w1 fun e w' => ∃ a2 c2, e = .returned (.agg #[.int .i64 o, .int .i64 q, .slice a2 n c2]) ∧ RdA w' a2 n c2 l ∧ Stay w o q ro rq a n c t l b3 n3 c3 bl es w') := by
      refine (msg_any o q a n c l w1 HS1.out.rd (by omega)).mono ?_
      rintro e w' ⟨a2, c2, rfl, hr2, hb⟩
      exact ⟨a2, c2, rfl, hr2, HS1.out.on hb⟩
    go_wp2_with fail
    refine HM.out.mono ?_
    rintro e w2 ⟨a2, c2, rfl, hr2, hS2⟩
    have HP : Hid (Calls Tryd.prog 11 #[.agg #[.int .i64 o, .int .i64 q, .slice a2 n c2], .string s] w2 fun e w' => ∃ g1 g2 g3 r, e = .returned (.tuple #[.slice g1 g2 g3, r]) ∧ Er es r (putE o q l s.data.toList) ∧ Txt w' (.slice g1 g2 g3) (putS o q l (putE o q l s.data.toList)) ∧ Stay w o q ro rq a n c t l b3 n3 c3 bl es w') := by
      refine (Put_any o q a2 n c2 l s w2 hr2 HSM.out (by omega) es hS2.e4).mono ?_
      rintro e w' ⟨v, r, rfl, h1, h2, h3⟩
      obtain ⟨g1, g2, g3, rfl, h4⟩ := txt_put h2
      exact ⟨g1, g2, g3, r, rfl, h1, h4, hS2.on h3⟩
    clear HM hr2 hS2 HS1 m0 m1 m2 r2
    go_wp2_with fail
    refine HP.out.mono ?_
    rintro e w3 ⟨x1, x2, x3, r3, rfl, he3, hx3, hS3⟩
    have HE3 : Hid (Er es r3 (putE o q l s.data.toList)) := he3
    have HRP : Hid (Calls Tryd.prog 13 #[.agg #[.int .i64 o, .int .i64 q, .slice a n c], .string s] w3 fun e w' => ∃ g1 g2 g3, e = .returned (.tuple #[.slice g1 g2 g3, .int .i64 (putE o q l s.data.toList : Nat)]) ∧ Txt w' (.slice x1 x2 x3) (putS o q l (putE o q l s.data.toList)) ∧ Txt w' (.slice g1 g2 g3) (putS o q l (putE o q l s.data.toList)) ∧ Stay w o q ro rq a n c t l b3 n3 c3 bl es w') := by
      refine (rPutM_any o q a n c l s w3 hS3.rd HSM.out (by omega)).mono ?_
      rintro e w' ⟨v, rfl, h2, h3⟩
      obtain ⟨g1, g2, g3, rfl, h4⟩ := txt_put h2
      exact ⟨g1, g2, g3, rfl, hx3.on h3, h4, hS3.on h3⟩
    have m0 := hS3.m0
    have m1 := hS3.m1
    have m2 := hS3.m2
    clear HP he3 hx3 hS3
    go_wp2_with fail
    refine HRP.out.mono ?_
    rintro e w4 ⟨y1, y2, y3, rfl, hx4, hy4, hS4⟩
    have HX4 : Hid (Txt w4 (.slice x1 x2 x3) (putS o q l (putE o q l s.data.toList)) ∧ Txt w4 (.slice y1 y2 y3) (putS o q l (putE o q l s.data.toList))) := ⟨hx4, hy4⟩
    have HG : Hid (Calls Tryd.prog 14 #[.agg #[.int .i64 ro, .int .i64 rq, .string t], .string s] w4 fun e w' => ∃ g1 g2 g3 r, e = .returned (.tuple #[.agg #[.int .i64 (gotO ro rq t.data.toList s.data.toList), .int .i64 (gotQ ro rq t.data.toList s.data.toList), .slice g1 g2 g3], r]) ∧ Er es r (gotE ro rq t.data.toList s.data.toList) ∧ RdA w' g1 g2 g3 (gotL ro rq t.data.toList s.data.toList) ∧ Below w4.heap.size w4 w' ∧ Stay w o q ro rq a n c t l b3 n3 c3 bl es w') := by
      refine (Get_any ro rq t s (by omega) (by omega) w4 es hS4.e4).mono ?_
      rintro e w' ⟨v, r, rfl, h1, ⟨g1, g2, g3, rfl, h2, _, _⟩, h3⟩
      exact ⟨g1, g2, g3, r, rfl, h1, h2, h3, hS4.on h3⟩
    have r0 := hS4.r0
    have r1 := hS4.r1
    have r2 := hS4.r2
    have HS4 : Hid (Stay w o q ro rq a n c t l b3 n3 c3 bl es w4) := hS4
    clear HRP hx4 hy4 hS4 m0 m1 m2
    have HRG : Hid (∀ u, Stay w o q ro rq a n c t l b3 n3 c3 bl es u → Calls Tryd.prog 15 #[.agg #[.int .i64 ro, .int .i64 rq, .string t], .string s] u fun e w' => ∃ g1 g2 g3, e = .returned (.tuple #[.agg #[.int .i64 (gotO ro rq t.data.toList s.data.toList), .int .i64 (gotQ ro rq t.data.toList s.data.toList), .slice g1 g2 g3], .int .i64 (gotE ro rq t.data.toList s.data.toList : Nat)]) ∧ RdA w' g1 g2 g3 (gotL ro rq t.data.toList s.data.toList) ∧ Below u.heap.size u w') := fun u hu => by
      refine (rGetM_any ro rq t s (by omega) (by omega) u).mono ?_
      rintro e w' ⟨v, rfl, ⟨g1, g2, g3, rfl, h2, _, _⟩, h3⟩
      exact ⟨g1, g2, g3, rfl, h2, h3⟩
    have HGE : Hid (gotE ro rq t.data.toList s.data.toList ≤ 16 ∧ putE o q l s.data.toList ≤ 16 ∧ hdE bl ≤ 16 ∧ (gotL ro rq t.data.toList s.data.toList).length ≤ 1000000) := ⟨gotE_le _ _ _ _, putE_le _ _ _ _, hdE_le _, by
      exact gotL_len ro rq t s (by omega)⟩
    have HCK : Hid (∀ u, Stay w o q ro rq a n c t l b3 n3 c3 bl es u → ∀ a2 c2, RdA u a2 n c2 l → Calls Tryd.prog 20 #[.agg #[.int .i64 o, .int .i64 q, .slice a2 n c2], .string s] u fun e w' => ∃ r, e = .returned r ∧ Er es r (noB (chk o q l s.data.toList)) ∧ Below u.heap.size u w') := fun u hu a2 c2 h2 =>
      check_any o q a2 n c2 l s u h2 HSM.out (by omega) es hu.e4.arg
    have HRC : Hid (∀ u, Stay w o q ro rq a n c t l b3 n3 c3 bl es u → Calls Tryd.prog 21 #[.agg #[.int .i64 o, .int .i64 q, .slice a n c], .string s] u fun e w' => e = .returned (.int .i64 (noB (chk o q l s.data.toList) : Nat)) ∧ Below u.heap.size u w') := fun u hu =>
      rcheck_any o q a n c l s u hu.rd HSM.out (by omega)
    have HNB : Hid (noB (chk o q l s.data.toList) ≤ 16) := noB_le _
    clear HSM
    generalize putS o q l (putE o q l s.data.toList) = PS at *
    generalize putE o q l s.data.toList = PE at *
    generalize noB (chk o q l s.data.toList) = CE at *
    generalize gotO ro rq t.data.toList s.data.toList = O at *
    generalize gotQ ro rq t.data.toList s.data.toList = Q at *
    generalize gotL ro rq t.data.toList s.data.toList = L at *
    generalize gotE ro rq t.data.toList s.data.toList = GE at *
    go_wp2_with fail
    refine HG.out.mono ?_
    rintro e w5 ⟨p1, p2, p3, r5, rfl, he5, hp5, hb5, hS5⟩
    have HE5 : Hid (Er es r5 GE) := he5
    have hb5' : Below w5.heap.size w5 (w5.alloc (.cells #[.int .i64 O, .int .i64 Q, .slice p1 p2 p3] 24)) := (Below.refl _ _).alloc (Nat.le_refl _) _
    have HV5 : Hid (Var w5.heap.size O Q p1 p2 p3 L (w5.alloc (.cells #[.int .i64 O, .int .i64 Q, .slice p1 p2 p3] 24))) := Var.new w5 O Q hp5
    have HS5 : Hid (Stay w o q ro rq a n c t l b3 n3 c3 bl es (w5.alloc (.cells #[.int .i64 O, .int .i64 Q, .slice p1 p2 p3] 24))) := hS5.on hb5'
    have HX5 : Hid (Txt (w5.alloc (.cells #[.int .i64 O, .int .i64 Q, .slice p1 p2 p3] 24)) (.slice x1 x2 x3) PS ∧ Txt (w5.alloc (.cells #[.int .i64 O, .int .i64 Q, .slice p1 p2 p3] 24)) (.slice y1 y2 y3) PS) := ⟨(HX4.out.1.on hb5).on hb5', (HX4.out.2.on hb5).on hb5'⟩
    have hlp := hp5.len
    clear he5 hp5 hb5 hb5' hS5 HG HX4 HS4 r0 r1 r2
    have hSx := HS5.out
    have r0 := hSx.r0
    have r1 := hSx.r1
    have r2 := hSx.r2
    clear hSx
    generalize hB5 : w5.heap.size = B5 at *
    generalize hW5 : w5.alloc (.cells #[.int .i64 O, .int .i64 Q, .slice p1 p2 p3] 24) = v5 at *
    go_wp2_with fail
    refine (HRG.out _ HS5.out).mono ?_
    rintro e w6 ⟨q1, q2, q3, rfl, hq6, hb6⟩
    have hlq := hq6.len
    obtain rfl : q2 = p2 := by omega
    have hb6' : Below w6.heap.size w6 (w6.alloc (.cells #[.int .i64 O, .int .i64 Q, .slice q1 q2 q3] 24)) := (Below.refl _ _).alloc (Nat.le_refl _) _
    have HV6 : Hid (Var B5 O Q p1 q2 p3 L (w6.alloc (.cells #[.int .i64 O, .int .i64 Q, .slice q1 q2 q3] 24)) ∧ Var w6.heap.size O Q q1 q2 q3 L (w6.alloc (.cells #[.int .i64 O, .int .i64 Q, .slice q1 q2 q3] 24))) := ⟨(HV5.out.on hb6).on hb6', Var.new w6 O Q hq6⟩
    have HS6 : Hid (Stay w o q ro rq a n c t l b3 n3 c3 bl es (w6.alloc (.cells #[.int .i64 O, .int .i64 Q, .slice q1 q2 q3] 24))) := (HS5.out.on hb6).on hb6'
    have HX6 : Hid (Txt (w6.alloc (.cells #[.int .i64 O, .int .i64 Q, .slice q1 q2 q3] 24)) (.slice x1 x2 x3) PS ∧ Txt (w6.alloc (.cells #[.int .i64 O, .int .i64 Q, .slice q1 q2 q3] 24)) (.slice y1 y2 y3) PS) := ⟨(HX5.out.1.on hb6).on hb6', (HX5.out.2.on hb6).on hb6'⟩
    clear hq6 hb6 hb6' HV5 HS5 HX5 HRG r0 r1 r2 hW5
    generalize hB6 : w6.heap.size = B6 at *
    generalize hW6 : w6.alloc (.cells #[.int .i64 O, .int .i64 Q, .slice q1 q2 q3] 24) = v6 at *
    have HBy : Hid (Calls Tryd.prog 17 #[.slice b3 n3 c3] v6 fun e w' => ∃ g1 g3, e = .returned (.slice g1 n3 g3) ∧ Rd w' g1 n3 g3 bl ∧ Below v6.heap.size v6 w') := by
      refine (bytes_any v6 b3 n3 c3 bl HS6.out.rb (by omega)).mono ?_
      rintro e w' ⟨r, rfl, h1, h2⟩
      obtain ⟨g1, g3, rfl, h3, _⟩ := rd_of_owns h1
      exact ⟨g1, g3, rfl, h3, h2⟩
    go_wp2_with fail
    refine HBy.out.mono ?_
    clear hW6
    rintro e w7 ⟨z1, z3, rfl, hz7, hb7⟩
    have HH : Hid (Calls Tryd.prog 16 #[.slice z1 n3 z3] w7 fun e w' => e = .returned (.tuple #[.int .i64 (hdO bl), .int .i64 (hdP bl), .int .i64 (hdS bl), erv es (hdE bl)]) ∧ Below v6.heap.size v6 w') := by
      refine (head_any w7 z1 n3 z3 bl hz7 (by omega) es (HS6.out.on hb7).e4).mono ?_
      rintro e w' ⟨rfl, k, rfl⟩
      exact ⟨rfl, below_drewN hb7 k⟩
    have HRH : Hid (∀ u, Below v6.heap.size v6 u → Calls Tryd.prog 18 #[.slice b3 n3 c3] u fun e w' => e = .returned (.tuple #[.int .i64 (hdO bl), .int .i64 (hdP bl), .int .i64 (hdS bl), .int .i64 (hdE bl)]) ∧ Below v6.heap.size v6 w') := fun u hu => by
      refine (rhead_any u b3 n3 c3 bl (HS6.out.on hu).rb (by omega)).mono ?_
      rintro e w' ⟨rfl, k, rfl⟩
      exact ⟨rfl, below_drewN hu k⟩
    have HE8 : Hid (Er es (erv es (hdE bl)) (hdE bl)) := .inl rfl
    clear hz7 hb7 HBy
    generalize hdO bl = h0 at *
    generalize hdP bl = h1 at *
    generalize hdS bl = h2 at *
    generalize erv es (hdE bl) = r8 at *
    generalize hdE bl = HDE at *
    go_wp2_with fail
    refine HH.out.mono ?_
    rintro e w8 ⟨rfl, hb8⟩
    clear HH
    go_wp2_with fail
    refine (HRH.out _ hb8).mono ?_
    rintro e X ⟨rfl, hbX⟩
    have HSX : Hid (Stay w o q ro rq a n c t l b3 n3 c3 bl es X) := HS6.out.on hbX
    have hX := HSX.out
    have VP := HV6.out.1.on hbX
    have VQ := HV6.out.2.on hbX
    have TX := HX6.out.1.on hbX
    have TY := HX6.out.2.on hbX
    have BX : Hid (Below w.heap.size w X) := hX.bel
    have tm0 := fun x (hx : Below X.heap.size X x) => (hX.on hx).m0
    have tm1 := fun x (hx : Below X.heap.size X x) => (hX.on hx).m1
    have tm2 := fun x (hx : Below X.heap.size X x) => (hX.on hx).m2
    have tp0 := fun x (hx : Below X.heap.size X x) => (VP.on hx).c0
    have tp1 := fun x (hx : Below X.heap.size X x) => (VP.on hx).c1
    have tp2 := fun x (hx : Below X.heap.size X x) => (VP.on hx).c2
    have tq0 := fun x (hx : Below X.heap.size X x) => (VQ.on hx).c0
    have tq1 := fun x (hx : Below X.heap.size X x) => (VQ.on hx).c1
    have tq2 := fun x (hx : Below X.heap.size X x) => (VQ.on hx).c2
    have tx : ∀ x, Below X.heap.size X x → (convert 27 9 (.slice x1 x2 x3)).run Tryd.prog x = .ok (.string PS) x := TX
    have ty : ∀ x, Below X.heap.size X x → (convert 27 9 (.slice y1 y2 y3)).run Tryd.prog x = .ok (.string PS) x := TY
    have C1 : Hid (∀ u, Below X.heap.size X u → Calls Tryd.prog 12 #[.agg #[.int .i64 o, .int .i64 q, .slice a n c]] u fun e w' => ∃ a2 c2, e = .returned (.agg #[.int .i64 o, .int .i64 q, .slice a2 n c2]) ∧ RdA w' a2 n c2 l ∧ Below X.heap.size X w') := fun u hu => by
      refine (msg_any o q a n c l u (hX.on hu).rd (by omega)).mono ?_
      rintro e w' ⟨a2, c2, rfl, hr2, hb⟩
      exact ⟨a2, c2, rfl, hr2, Below.on hu hb⟩
    have C3 : Hid (∀ u, Below X.heap.size X u → ∀ a2 c2, RdA u a2 n c2 l → Calls Tryd.prog 20 #[.agg #[.int .i64 o, .int .i64 q, .slice a2 n c2], .string s] u fun e w' => ∃ r, e = .returned r ∧ Er es r CE ∧ Below X.heap.size X w') := fun u hu a2 c2 h2 => by
      refine (HCK.out u (hX.on hu) a2 c2 h2).mono ?_
      rintro e w' ⟨r, rfl, h1, hb⟩
      exact ⟨r, rfl, h1, Below.on hu hb⟩
    have CK : ∀ r k, Er es r k → k ≤ 16 → ∀ u, Below X.heap.size X u → Calls Tryd.prog 19 #[r] u fun e w' => e = .returned (.int .i64 k) ∧ Below X.heap.size X w' := fun r k hr hk u hu => by
      refine (kind_er u es (hX.on hu).er r k hk hr).mono ?_
      rintro e w' ⟨rfl, hb⟩
      exact ⟨rfl, Below.on hu hb⟩
    have C4 : Hid (∀ r, Er es r CE → ∀ u, Below X.heap.size X u → Calls Tryd.prog 19 #[r] u fun e w' => e = .returned (.int .i64 CE) ∧ Below X.heap.size X w') := fun r hr => CK r CE hr HNB.out
    have C7 : Hid (∀ u, Below X.heap.size X u → Calls Tryd.prog 21 #[.agg #[.int .i64 o, .int .i64 q, .slice a n c], .string s] u fun e w' => e = .returned (.int .i64 CE) ∧ Below X.heap.size X w') := fun u hu => by
      refine (HRC.out u (hX.on hu)).mono ?_
      rintro e w' ⟨rfl, hb⟩
      exact ⟨rfl, Below.on hu hb⟩
    have C18 : Hid (∀ u, Below X.heap.size X u → Calls Tryd.prog 19 #[r3] u fun e w' => e = .returned (.int .i64 PE) ∧ Below X.heap.size X w') := CK r3 PE HE3.out HGE.out.2.1
    have C25 : Hid (∀ u, Below X.heap.size X u → Calls Tryd.prog 22 #[.agg #[.int .i64 O, .int .i64 Q, .slice p1 q2 p3], .agg #[.int .i64 O, .int .i64 Q, .slice q1 q2 q3]] u fun e w' => e = .returned (.bool true) ∧ Below X.heap.size X w') := fun u hu => by
      have h5 := HGE.out.2.2.2
      refine (same_any O Q p1 q2 p3 q1 q3 L u (VP.on hu).rd (VQ.on hu).rd (by omega)).mono ?_
      rintro e w' ⟨rfl, hb⟩
      exact ⟨rfl, Below.on hu hb⟩
    have C29 : Hid (∀ u, Below X.heap.size X u → Calls Tryd.prog 19 #[r5] u fun e w' => e = .returned (.int .i64 GE) ∧ Below X.heap.size X w') := CK r5 GE HE5.out HGE.out.1
    have C50 : Hid (∀ u, Below X.heap.size X u → Calls Tryd.prog 19 #[r8] u fun e w' => e = .returned (.int .i64 HDE) ∧ Below X.heap.size X w') := CK r8 HDE HE8.out HGE.out.2.2.1
    have C55 : Hid (∀ u, Below X.heap.size X u → Calls Tryd.prog 10 #[] u fun e w' => e = .returned (.bool true) ∧ Below X.heap.size X w') := fun u hu => by
      refine (awake4_any u es (hX.on hu).e4).mono ?_
      rintro e w' ⟨rfl, hb⟩
      exact ⟨rfl, Below.on hu hb⟩
    clear hbX HSX hX VP VQ TX TY CK HV6 HX6 HS6 HRH hb8 HE3 HE5 HE8 HGE HCK HRC HNB HW hlp hlq
    go_wp2_with fail
    refine wp_region_held_drew (S := fun x => Below X.heap.size X x) (by kernel_rfl) (Below.refl _ _).drew (fun hHeld => ?_)
    have hHeld : Below X.heap.size X X.drew := hHeld
    refine wpAnyH_take (i := 0) (v := ?_) rfl (by kernel_rfl) (by kernel_rfl) (by kernel_rfl) (fun _ _ _ h => h) (Or.inl ⟨by kernel_rfl, ?hy0⟩) (by assumption) ?_
    case hy0 => (intro w hSw; (try dsimp only at hSw); go_simp; try with_reducible rfl)
    try simp only [Act.put, List.getElem_toArray, List.getElem_cons_zero, List.setIfInBounds_toArray, List.set_cons_zero, List.set_cons_succ]
    refine wpAnyH_take (i := 2) (v := ?_) rfl (by kernel_rfl) (by kernel_rfl) (by kernel_rfl) (fun _ _ _ h => h) (Or.inl ⟨by kernel_rfl, ?hy2⟩) (by assumption) ?_
    case hy2 => (intro w hSw; (try dsimp only at hSw); go_simp; try with_reducible rfl)
    try simp only [Act.put, List.getElem_toArray, List.getElem_cons_zero, List.getElem_cons_succ, List.setIfInBounds_toArray, List.set_cons_zero, List.set_cons_succ]
    refine wpAnyH_take (i := 5) (v := ?_) rfl (by kernel_rfl) (by kernel_rfl) (by kernel_rfl) (fun _ _ _ h => h) (Or.inl ⟨by kernel_rfl, ?hy5⟩) (by assumption) ?_
    case hy5 => (intro w hSw; (try dsimp only at hSw); go_simp; try with_reducible rfl)
    try simp only [Act.put, List.getElem_toArray, List.getElem_cons_zero, List.getElem_cons_succ, List.setIfInBounds_toArray, List.set_cons_zero, List.set_cons_succ]
    refine wpAnyH_take (i := 6) (v := ?_) rfl (by kernel_rfl) (by kernel_rfl) (by kernel_rfl) (fun _ _ _ h => h) (Or.inl ⟨by kernel_rfl, ?hy6⟩) (by assumption) ?_
    case hy6 => (intro w hSw; (try dsimp only at hSw); go_simp; try with_reducible rfl)
    try simp only [Act.put, List.getElem_toArray, List.getElem_cons_zero, List.getElem_cons_succ, List.setIfInBounds_toArray, List.set_cons_zero, List.set_cons_succ]
    refine wpAnyH_ready (rs := [1]) (by kernel_rfl) (by simp) ?_
    refine AllReadyH.cons rfl (fun K hK => ?_) AllReadyH.nil
    go_simp
    go_wp2_with fail
    refine (C1.out _ hHeld).mono ?_
    rintro e k1 ⟨aM, cM, rfl, hM, hS'⟩
    refine hK.out _ _ hS' (fun _ => ?_)
    clear hK K hHeld
    have hHeld : Below X.heap.size X k1 := hS'
    clear hS'
    refine wpAnyH_ready (rs := [3]) (by kernel_rfl) (by simp) ?_
    refine AllReadyH.cons rfl (fun K hK => ?_) AllReadyH.nil
    go_simp
    go_wp2_with fail
    refine (C3.out _ hHeld _ _ hM).mono ?_
    rintro e k3 ⟨rC, rfl, hC, hS'⟩
    refine hK.out _ _ hS' (fun _ => ?_)
    clear hK K hHeld
    have hHeld : Below X.heap.size X k3 := hS'
    clear hS'
    refine wpAnyH_ready (rs := [4]) (by kernel_rfl) (by simp) ?_
    refine AllReadyH.cons rfl (fun K hK => ?_) AllReadyH.nil
    go_simp
    go_wp2_with fail
    refine (C4.out _ hC _ hHeld).mono ?_
    rintro e k4 ⟨rfl, hS'⟩
    refine hK.out _ _ hS' (fun _ => ?_)
    clear hK K hHeld
    have hHeld : Below X.heap.size X k4 := hS'
    clear hS'
    refine wpAnyH_ready (rs := [7]) (by kernel_rfl) (by simp) ?_
    refine AllReadyH.cons rfl (fun K hK => ?_) AllReadyH.nil
    go_simp
    go_wp2_with fail
    refine (C7.out _ hHeld).mono ?_
    rintro e k7 ⟨rfl, hS'⟩
    refine hK.out _ _ hS' (fun _ => ?_)
    clear hK K hHeld
    have hHeld : Below X.heap.size X k7 := hS'
    clear hS'
    refine wpAnyH_take (i := 8) (v := ?_) rfl (by kernel_rfl) (by kernel_rfl) (by kernel_rfl) (fun _ _ _ h => h) (Or.inl ⟨by kernel_rfl, ?hy8⟩) (by assumption) ?_
    case hy8 => (intro w hSw; (try dsimp only at hSw); go_simp; try with_reducible rfl)
    try simp only [Act.put, List.getElem_toArray, List.getElem_cons_zero, List.getElem_cons_succ, List.setIfInBounds_toArray, List.set_cons_zero, List.set_cons_succ]
    refine wpAnyH_take (i := 9) (v := ?_) rfl (by kernel_rfl) (by kernel_rfl) (by kernel_rfl) (fun _ _ _ h => h) (Or.inl ⟨by kernel_rfl, ?hy9⟩) (by assumption) ?_
    case hy9 => (intro w hSw; (try dsimp only at hSw); go_simp; try with_reducible rfl)
    try simp only [Act.put, List.getElem_toArray, List.getElem_cons_zero, List.getElem_cons_succ, List.setIfInBounds_toArray, List.set_cons_zero, List.set_cons_succ]
    refine wpAnyH_take (i := 10) (v := ?_) rfl (by kernel_rfl) (by kernel_rfl) (by kernel_rfl) (fun _ _ _ h => h) (Or.inl ⟨by kernel_rfl, ?hy10⟩) (by assumption) ?_
    case hy10 => (intro w hSw; (try dsimp only at hSw); go_simp; try with_reducible rfl)
    try simp only [Act.put, List.getElem_toArray, List.getElem_cons_zero, List.getElem_cons_succ, List.setIfInBounds_toArray, List.set_cons_zero, List.set_cons_succ]
    refine wpAnyH_take (i := 11) (v := ?_) rfl (by kernel_rfl) (by kernel_rfl) (by kernel_rfl) (fun _ _ _ h => h) (Or.inl ⟨by kernel_rfl, ?hy11⟩) (by assumption) ?_
    case hy11 => (intro w hSw; (try dsimp only at hSw); go_simp; try with_reducible rfl)
    try simp only [Act.put, List.getElem_toArray, List.getElem_cons_zero, List.getElem_cons_succ, List.setIfInBounds_toArray, List.set_cons_zero, List.set_cons_succ]
    refine wpAnyH_take (i := 12) (v := ?_) rfl (by kernel_rfl) (by kernel_rfl) (by kernel_rfl) (fun _ _ _ h => h) (Or.inl ⟨by kernel_rfl, ?hy12⟩) (by assumption) ?_
    case hy12 => (intro w hSw; (try dsimp only at hSw); go_simp; try with_reducible rfl)
    try simp only [Act.put, List.getElem_toArray, List.getElem_cons_zero, List.getElem_cons_succ, List.setIfInBounds_toArray, List.set_cons_zero, List.set_cons_succ]
    refine wpAnyH_take (i := 13) (v := ?_) rfl (by kernel_rfl) (by kernel_rfl) (by kernel_rfl) (fun _ _ _ h => h) (Or.inl ⟨by kernel_rfl, ?hy13⟩) (by assumption) ?_
    case hy13 => (intro w hSw; (try dsimp only at hSw); go_simp; try with_reducible rfl)
    try simp only [Act.put, List.getElem_toArray, List.getElem_cons_zero, List.getElem_cons_succ, List.setIfInBounds_toArray, List.set_cons_zero, List.set_cons_succ]
    refine wpAnyH_take (i := 14) (v := ?_) rfl (by kernel_rfl) (by kernel_rfl) (by kernel_rfl) (fun _ _ _ h => h) (Or.inl ⟨by kernel_rfl, ?hy14⟩) (by assumption) ?_
    case hy14 => (intro w hSw; (try dsimp only at hSw); go_simp; try with_reducible rfl)
    try simp only [Act.put, List.getElem_toArray, List.getElem_cons_zero, List.getElem_cons_succ, List.setIfInBounds_toArray, List.set_cons_zero, List.set_cons_succ]
    refine wpAnyH_take (i := 15) (v := ?_) rfl (by kernel_rfl) (by kernel_rfl) (by kernel_rfl) (fun _ _ _ h => h) (Or.inl ⟨by kernel_rfl, ?hy15⟩) (by assumption) ?_
    case hy15 => (intro w hSw; (try dsimp only at hSw); go_simp; try with_reducible rfl)
    try simp only [Act.put, List.getElem_toArray, List.getElem_cons_zero, List.getElem_cons_succ, List.setIfInBounds_toArray, List.set_cons_zero, List.set_cons_succ]
    refine wpAnyH_take (i := 16) (v := ?_) rfl (by kernel_rfl) (by kernel_rfl) (by kernel_rfl) (fun _ _ _ h => h) (Or.inl ⟨by kernel_rfl, ?hy16⟩) (by assumption) ?_
    case hy16 => (intro w hSw; (try dsimp only at hSw); go_simp; try with_reducible rfl)
    try simp only [Act.put, List.getElem_toArray, List.getElem_cons_zero, List.getElem_cons_succ, List.setIfInBounds_toArray, List.set_cons_zero, List.set_cons_succ]
    refine wpAnyH_take (i := 17) (v := ?_) rfl (by kernel_rfl) (by kernel_rfl) (by kernel_rfl) (fun _ _ _ h => h) (Or.inl ⟨by kernel_rfl, ?hy17⟩) (by assumption) ?_
    case hy17 => (intro w hSw; (try dsimp only at hSw); go_simp; try with_reducible rfl)
    try simp only [Act.put, List.getElem_toArray, List.getElem_cons_zero, List.getElem_cons_succ, List.setIfInBounds_toArray, List.set_cons_zero, List.set_cons_succ]
    refine wpAnyH_take (i := 19) (v := ?_) rfl (by kernel_rfl) (by kernel_rfl) (by kernel_rfl) (fun _ _ _ h => h) (Or.inl ⟨by kernel_rfl, ?hy19⟩) (by assumption) ?_
    case hy19 => (intro w hSw; (try dsimp only at hSw); go_simp; try with_reducible rfl)
    try simp only [Act.put, List.getElem_toArray, List.getElem_cons_zero, List.getElem_cons_succ, List.setIfInBounds_toArray, List.set_cons_zero, List.set_cons_succ]
    refine wpAnyH_ready (rs := [18]) (by kernel_rfl) (by simp) ?_
    refine AllReadyH.cons rfl (fun K hK => ?_) AllReadyH.nil
    go_simp
    go_wp2_with fail
    refine (C18.out _ hHeld).mono ?_
    rintro e k18 ⟨rfl, hS'⟩
    refine hK.out _ _ hS' (fun _ => ?_)
    clear hK K hHeld
    have hHeld : Below X.heap.size X k18 := hS'
    clear hS'
    refine wpAnyH_take (i := 20) (v := ?_) rfl (by kernel_rfl) (by kernel_rfl) (by kernel_rfl) (fun _ _ _ h => h) (Or.inl ⟨by kernel_rfl, ?hy20⟩) (by assumption) ?_
    case hy20 => (intro w hSw; (try dsimp only at hSw); go_simp; try with_reducible rfl)
    try simp only [Act.put, List.getElem_toArray, List.getElem_cons_zero, List.getElem_cons_succ, List.setIfInBounds_toArray, List.set_cons_zero, List.set_cons_succ]
    refine wpAnyH_take (i := 21) (v := ?_) rfl (by kernel_rfl) (by kernel_rfl) (by kernel_rfl) (fun _ _ _ h => h) (Or.inl ⟨by kernel_rfl, ?hy21⟩) (by assumption) ?_
    case hy21 => (intro w hSw; (try dsimp only at hSw); go_simp; try with_reducible rfl)
    try simp only [Act.put, List.getElem_toArray, List.getElem_cons_zero, List.getElem_cons_succ, List.setIfInBounds_toArray, List.set_cons_zero, List.set_cons_succ]
    refine wpAnyH_take (i := 22) (v := ?_) rfl (by kernel_rfl) (by kernel_rfl) (by kernel_rfl) (fun _ _ _ h => h) (Or.inl ⟨by kernel_rfl, ?hy22⟩) (by assumption) ?_
    case hy22 => (intro w hSw; (try dsimp only at hSw); go_simp; try with_reducible rfl)
    try simp only [Act.put, List.getElem_toArray, List.getElem_cons_zero, List.getElem_cons_succ, List.setIfInBounds_toArray, List.set_cons_zero, List.set_cons_succ]
    refine wpAnyH_take (i := 23) (v := ?_) rfl (by kernel_rfl) (by kernel_rfl) (by kernel_rfl) (fun _ _ _ h => h) (Or.inl ⟨by kernel_rfl, ?hy23⟩) (by assumption) ?_
    case hy23 => (intro w hSw; (try dsimp only at hSw); go_simp; try with_reducible rfl)
    try simp only [Act.put, List.getElem_toArray, List.getElem_cons_zero, List.getElem_cons_succ, List.setIfInBounds_toArray, List.set_cons_zero, List.set_cons_succ]
    refine wpAnyH_take (i := 24) (v := ?_) rfl (by kernel_rfl) (by kernel_rfl) (by kernel_rfl) (fun _ _ _ h => h) (Or.inl ⟨by kernel_rfl, ?hy24⟩) (by assumption) ?_
    case hy24 => (intro w hSw; (try dsimp only at hSw); go_simp; try with_reducible rfl)
    try simp only [Act.put, List.getElem_toArray, List.getElem_cons_zero, List.getElem_cons_succ, List.setIfInBounds_toArray, List.set_cons_zero, List.set_cons_succ]
    refine wpAnyH_ready (rs := [25]) (by kernel_rfl) (by simp) ?_
    refine AllReadyH.cons rfl (fun K hK => ?_) AllReadyH.nil
    go_simp
    go_wp2_with fail
    refine (C25.out _ hHeld).mono ?_
    rintro e k25 ⟨rfl, hS'⟩
    refine hK.out _ _ hS' (fun _ => ?_)
    clear hK K hHeld
    have hHeld : Below X.heap.size X k25 := hS'
    clear hS'
    refine wpAnyH_take (i := 26) (v := ?_) rfl (by kernel_rfl) (by kernel_rfl) (by kernel_rfl) (fun _ _ _ h => h) (Or.inl ⟨by kernel_rfl, ?hy26⟩) (by assumption) ?_
    case hy26 => (intro w hSw; (try dsimp only at hSw); go_simp; try with_reducible rfl)
    try simp only [Act.put, List.getElem_toArray, List.getElem_cons_zero, List.getElem_cons_succ, List.setIfInBounds_toArray, List.set_cons_zero, List.set_cons_succ]
    refine wpAnyH_take (i := 27) (v := ?_) rfl (by kernel_rfl) (by kernel_rfl) (by kernel_rfl) (fun _ _ _ h => h) (Or.inl ⟨by kernel_rfl, ?hy27⟩) (by assumption) ?_
    case hy27 => (intro w hSw; (try dsimp only at hSw); go_simp; try with_reducible rfl)
    try simp only [Act.put, List.getElem_toArray, List.getElem_cons_zero, List.getElem_cons_succ, List.setIfInBounds_toArray, List.set_cons_zero, List.set_cons_succ]
    refine wpAnyH_take (i := 28) (v := ?_) rfl (by kernel_rfl) (by kernel_rfl) (by kernel_rfl) (fun _ _ _ h => h) (Or.inl ⟨by kernel_rfl, ?hy28⟩) (by assumption) ?_
    case hy28 => (intro w hSw; (try dsimp only at hSw); go_simp; try with_reducible rfl)
    try simp only [Act.put, List.getElem_toArray, List.getElem_cons_zero, List.getElem_cons_succ, List.setIfInBounds_toArray, List.set_cons_zero, List.set_cons_succ]
    refine wpAnyH_take (i := 30) (v := ?_) rfl (by kernel_rfl) (by kernel_rfl) (by kernel_rfl) (fun _ _ _ h => h) (Or.inl ⟨by kernel_rfl, ?hy30⟩) (by assumption) ?_
    case hy30 => (intro w hSw; (try dsimp only at hSw); go_simp; try with_reducible rfl)
    try simp only [Act.put, List.getElem_toArray, List.getElem_cons_zero, List.getElem_cons_succ, List.setIfInBounds_toArray, List.set_cons_zero, List.set_cons_succ]
    refine wpAnyH_ready (rs := [29]) (by kernel_rfl) (by simp) ?_
    refine AllReadyH.cons rfl (fun K hK => ?_) AllReadyH.nil
    go_simp
    go_wp2_with fail
    refine (C29.out _ hHeld).mono ?_
    rintro e k29 ⟨rfl, hS'⟩
    refine hK.out _ _ hS' (fun _ => ?_)
    clear hK K hHeld
    have hHeld : Below X.heap.size X k29 := hS'
    clear hS'
    refine wpAnyH_take (i := 31) (v := ?_) rfl (by kernel_rfl) (by kernel_rfl) (by kernel_rfl) (fun _ _ _ h => h) (Or.inl ⟨by kernel_rfl, ?hy31⟩) (by assumption) ?_
    case hy31 => (intro w hSw; (try dsimp only at hSw); go_simp; try with_reducible rfl)
    try simp only [Act.put, List.getElem_toArray, List.getElem_cons_zero, List.getElem_cons_succ, List.setIfInBounds_toArray, List.set_cons_zero, List.set_cons_succ]
    refine wpAnyH_take (i := 32) (v := ?_) rfl (by kernel_rfl) (by kernel_rfl) (by kernel_rfl) (fun _ _ _ h => h) (Or.inl ⟨by kernel_rfl, ?hy32⟩) (by assumption) ?_
    case hy32 => (intro w hSw; (try dsimp only at hSw); go_simp; try with_reducible rfl)
    try simp only [Act.put, List.getElem_toArray, List.getElem_cons_zero, List.getElem_cons_succ, List.setIfInBounds_toArray, List.set_cons_zero, List.set_cons_succ]
    refine wpAnyH_take (i := 33) (v := ?_) rfl (by kernel_rfl) (by kernel_rfl) (by kernel_rfl) (fun _ _ _ h => h) (Or.inl ⟨by kernel_rfl, ?hy33⟩) (by assumption) ?_
    case hy33 => (intro w hSw; (try dsimp only at hSw); go_simp; try with_reducible rfl)
    try simp only [Act.put, List.getElem_toArray, List.getElem_cons_zero, List.getElem_cons_succ, List.setIfInBounds_toArray, List.set_cons_zero, List.set_cons_succ]
    refine wpAnyH_take (i := 34) (v := ?_) rfl (by kernel_rfl) (by kernel_rfl) (by kernel_rfl) (fun _ _ _ h => h) (Or.inl ⟨by kernel_rfl, ?hy34⟩) (by assumption) ?_
    case hy34 => (intro w hSw; (try dsimp only at hSw); go_simp; try with_reducible rfl)
    try simp only [Act.put, List.getElem_toArray, List.getElem_cons_zero, List.getElem_cons_succ, List.setIfInBounds_toArray, List.set_cons_zero, List.set_cons_succ]
    refine wpAnyH_take (i := 35) (v := ?_) rfl (by kernel_rfl) (by kernel_rfl) (by kernel_rfl) (fun _ _ _ h => h) (Or.inl ⟨by kernel_rfl, ?hy35⟩) (by assumption) ?_
    case hy35 => (intro w hSw; (try dsimp only at hSw); go_simp; try with_reducible rfl)
    try simp only [Act.put, List.getElem_toArray, List.getElem_cons_zero, List.getElem_cons_succ, List.setIfInBounds_toArray, List.set_cons_zero, List.set_cons_succ]
    refine wpAnyH_take (i := 36) (v := ?_) rfl (by kernel_rfl) (by kernel_rfl) (by kernel_rfl) (fun _ _ _ h => h) (Or.inl ⟨by kernel_rfl, ?hy36⟩) (by assumption) ?_
    case hy36 => (intro w hSw; (try dsimp only at hSw); go_simp; try with_reducible rfl)
    try simp only [Act.put, List.getElem_toArray, List.getElem_cons_zero, List.getElem_cons_succ, List.setIfInBounds_toArray, List.set_cons_zero, List.set_cons_succ]
    refine wpAnyH_take (i := 37) (v := ?_) rfl (by kernel_rfl) (by kernel_rfl) (by kernel_rfl) (fun _ _ _ h => h) (Or.inl ⟨by kernel_rfl, ?hy37⟩) (by assumption) ?_
    case hy37 => (intro w hSw; (try dsimp only at hSw); go_simp; try with_reducible rfl)
    try simp only [Act.put, List.getElem_toArray, List.getElem_cons_zero, List.getElem_cons_succ, List.setIfInBounds_toArray, List.set_cons_zero, List.set_cons_succ]
    refine wpAnyH_take (i := 38) (v := ?_) rfl (by kernel_rfl) (by kernel_rfl) (by kernel_rfl) (fun _ _ _ h => h) (Or.inl ⟨by kernel_rfl, ?hy38⟩) (by assumption) ?_
    case hy38 => (intro w hSw; (try dsimp only at hSw); go_simp; try with_reducible rfl)
    try simp only [Act.put, List.getElem_toArray, List.getElem_cons_zero, List.getElem_cons_succ, List.setIfInBounds_toArray, List.set_cons_zero, List.set_cons_succ]
    refine wpAnyH_take (i := 39) (v := ?_) rfl (by kernel_rfl) (by kernel_rfl) (by kernel_rfl) (fun _ _ _ h => h) (Or.inl ⟨by kernel_rfl, ?hy39⟩) (by assumption) ?_
    case hy39 => (intro w hSw; (try dsimp only at hSw); go_simp; try with_reducible rfl)
    try simp only [Act.put, List.getElem_toArray, List.getElem_cons_zero, List.getElem_cons_succ, List.setIfInBounds_toArray, List.set_cons_zero, List.set_cons_succ]
    refine wpAnyH_take (i := 40) (v := ?_) rfl (by kernel_rfl) (by kernel_rfl) (by kernel_rfl) (fun _ _ _ h => h) (Or.inl ⟨by kernel_rfl, ?hy40⟩) (by assumption) ?_
    case hy40 => (intro w hSw; (try dsimp only at hSw); go_simp; try with_reducible rfl)
    try simp only [Act.put, List.getElem_toArray, List.getElem_cons_zero, List.getElem_cons_succ, List.setIfInBounds_toArray, List.set_cons_zero, List.set_cons_succ]
    refine wpAnyH_take (i := 41) (v := ?_) rfl (by kernel_rfl) (by kernel_rfl) (by kernel_rfl) (fun _ _ _ h => h) (Or.inl ⟨by kernel_rfl, ?hy41⟩) (by assumption) ?_
    case hy41 => (intro w hSw; (try dsimp only at hSw); go_simp; try with_reducible rfl)
    try simp only [Act.put, List.getElem_toArray, List.getElem_cons_zero, List.getElem_cons_succ, List.setIfInBounds_toArray, List.set_cons_zero, List.set_cons_succ]
    refine wpAnyH_take (i := 42) (v := ?_) rfl (by kernel_rfl) (by kernel_rfl) (by kernel_rfl) (fun _ _ _ h => h) (Or.inl ⟨by kernel_rfl, ?hy42⟩) (by assumption) ?_
    case hy42 => (intro w hSw; (try dsimp only at hSw); go_simp; try with_reducible rfl)
    try simp only [Act.put, List.getElem_toArray, List.getElem_cons_zero, List.getElem_cons_succ, List.setIfInBounds_toArray, List.set_cons_zero, List.set_cons_succ]
    refine wpAnyH_take (i := 43) (v := ?_) rfl (by kernel_rfl) (by kernel_rfl) (by kernel_rfl) (fun _ _ _ h => h) (Or.inl ⟨by kernel_rfl, ?hy43⟩) (by assumption) ?_
    case hy43 => (intro w hSw; (try dsimp only at hSw); go_simp; try with_reducible rfl)
    try simp only [Act.put, List.getElem_toArray, List.getElem_cons_zero, List.getElem_cons_succ, List.setIfInBounds_toArray, List.set_cons_zero, List.set_cons_succ]
    refine wpAnyH_take (i := 44) (v := ?_) rfl (by kernel_rfl) (by kernel_rfl) (by kernel_rfl) (fun _ _ _ h => h) (Or.inl ⟨by kernel_rfl, ?hy44⟩) (by assumption) ?_
    case hy44 => (intro w hSw; (try dsimp only at hSw); go_simp; try with_reducible rfl)
    try simp only [Act.put, List.getElem_toArray, List.getElem_cons_zero, List.getElem_cons_succ, List.setIfInBounds_toArray, List.set_cons_zero, List.set_cons_succ]
    refine wpAnyH_take (i := 45) (v := ?_) rfl (by kernel_rfl) (by kernel_rfl) (by kernel_rfl) (fun _ _ _ h => h) (Or.inl ⟨by kernel_rfl, ?hy45⟩) (by assumption) ?_
    case hy45 => (intro w hSw; (try dsimp only at hSw); go_simp; try with_reducible rfl)
    try simp only [Act.put, List.getElem_toArray, List.getElem_cons_zero, List.getElem_cons_succ, List.setIfInBounds_toArray, List.set_cons_zero, List.set_cons_succ]
    refine wpAnyH_take (i := 46) (v := ?_) rfl (by kernel_rfl) (by kernel_rfl) (by kernel_rfl) (fun _ _ _ h => h) (Or.inl ⟨by kernel_rfl, ?hy46⟩) (by assumption) ?_
    case hy46 => (intro w hSw; (try dsimp only at hSw); go_simp; try with_reducible rfl)
    try simp only [Act.put, List.getElem_toArray, List.getElem_cons_zero, List.getElem_cons_succ, List.setIfInBounds_toArray, List.set_cons_zero, List.set_cons_succ]
    refine wpAnyH_take (i := 47) (v := ?_) rfl (by kernel_rfl) (by kernel_rfl) (by kernel_rfl) (fun _ _ _ h => h) (Or.inl ⟨by kernel_rfl, ?hy47⟩) (by assumption) ?_
    case hy47 => (intro w hSw; (try dsimp only at hSw); go_simp; try with_reducible rfl)
    try simp only [Act.put, List.getElem_toArray, List.getElem_cons_zero, List.getElem_cons_succ, List.setIfInBounds_toArray, List.set_cons_zero, List.set_cons_succ]
    refine wpAnyH_take (i := 48) (v := ?_) rfl (by kernel_rfl) (by kernel_rfl) (by kernel_rfl) (fun _ _ _ h => h) (Or.inl ⟨by kernel_rfl, ?hy48⟩) (by assumption) ?_
    case hy48 => (intro w hSw; (try dsimp only at hSw); go_simp; try with_reducible rfl)
    try simp only [Act.put, List.getElem_toArray, List.getElem_cons_zero, List.getElem_cons_succ, List.setIfInBounds_toArray, List.set_cons_zero, List.set_cons_succ]
    refine wpAnyH_take (i := 49) (v := ?_) rfl (by kernel_rfl) (by kernel_rfl) (by kernel_rfl) (fun _ _ _ h => h) (Or.inl ⟨by kernel_rfl, ?hy49⟩) (by assumption) ?_
    case hy49 => (intro w hSw; (try dsimp only at hSw); go_simp; try with_reducible rfl)
    try simp only [Act.put, List.getElem_toArray, List.getElem_cons_zero, List.getElem_cons_succ, List.setIfInBounds_toArray, List.set_cons_zero, List.set_cons_succ]
    refine wpAnyH_take (i := 51) (v := ?_) rfl (by kernel_rfl) (by kernel_rfl) (by kernel_rfl) (fun _ _ _ h => h) (Or.inl ⟨by kernel_rfl, ?hy51⟩) (by assumption) ?_
    case hy51 => (intro w hSw; (try dsimp only at hSw); go_simp; try with_reducible rfl)
    try simp only [Act.put, List.getElem_toArray, List.getElem_cons_zero, List.getElem_cons_succ, List.setIfInBounds_toArray, List.set_cons_zero, List.set_cons_succ]
    refine wpAnyH_ready (rs := [50]) (by kernel_rfl) (by simp) ?_
    refine AllReadyH.cons rfl (fun K hK => ?_) AllReadyH.nil
    go_simp
    go_wp2_with fail
    refine (C50.out _ hHeld).mono ?_
    rintro e k50 ⟨rfl, hS'⟩
    refine hK.out _ _ hS' (fun _ => ?_)
    clear hK K hHeld
    have hHeld : Below X.heap.size X k50 := hS'
    clear hS'
    refine wpAnyH_take (i := 52) (v := ?_) rfl (by kernel_rfl) (by kernel_rfl) (by kernel_rfl) (fun _ _ _ h => h) (Or.inl ⟨by kernel_rfl, ?hy52⟩) (by assumption) ?_
    case hy52 => (intro w hSw; (try dsimp only at hSw); go_simp; try with_reducible rfl)
    try simp only [Act.put, List.getElem_toArray, List.getElem_cons_zero, List.getElem_cons_succ, List.setIfInBounds_toArray, List.set_cons_zero, List.set_cons_succ]
    refine wpAnyH_take (i := 53) (v := ?_) rfl (by kernel_rfl) (by kernel_rfl) (by kernel_rfl) (fun _ _ _ h => h) (Or.inl ⟨by kernel_rfl, ?hy53⟩) (by assumption) ?_
    case hy53 => (intro w hSw; (try dsimp only at hSw); go_simp; try with_reducible rfl)
    try simp only [Act.put, List.getElem_toArray, List.getElem_cons_zero, List.getElem_cons_succ, List.setIfInBounds_toArray, List.set_cons_zero, List.set_cons_succ]
    refine wpAnyH_take (i := 54) (v := ?_) rfl (by kernel_rfl) (by kernel_rfl) (by kernel_rfl) (fun _ _ _ h => h) (Or.inl ⟨by kernel_rfl, ?hy54⟩) (by assumption) ?_
    case hy54 => (intro w hSw; (try dsimp only at hSw); go_simp; try with_reducible rfl)
    try simp only [Act.put, List.getElem_toArray, List.getElem_cons_zero, List.getElem_cons_succ, List.setIfInBounds_toArray, List.set_cons_zero, List.set_cons_succ]
    refine wpAnyH_ready (rs := [55]) (by kernel_rfl) (by simp) ?_
    refine AllReadyH.cons rfl (fun K hK => ?_) AllReadyH.nil
    go_simp
    go_wp2_with fail
    refine (C55.out _ hHeld).mono ?_
    rintro e k55 ⟨rfl, hS'⟩
    refine hK.out _ _ hS' (fun _ => ?_)
    clear hK K hHeld
    have hHeld : Below X.heap.size X k55 := hS'
    clear hS'
    refine wpAnyH_take (i := 56) (v := ?_) rfl (by kernel_rfl) (by kernel_rfl) (by kernel_rfl) (fun _ _ _ h => h) (Or.inl ⟨by kernel_rfl, ?hy56⟩) (by assumption) ?_
    case hy56 => (intro w hSw; (try dsimp only at hSw); go_simp; try with_reducible rfl)
    try simp only [Act.put, List.getElem_toArray, List.getElem_cons_zero, List.getElem_cons_succ, List.setIfInBounds_toArray, List.set_cons_zero, List.set_cons_succ]
    refine wpAnyH_take (i := 57) (v := ?_) rfl (by kernel_rfl) (by kernel_rfl) (by kernel_rfl) (fun _ _ _ h => h) (Or.inl ⟨by kernel_rfl, ?hy57⟩) (by assumption) ?_
    case hy57 => (intro w hSw; (try dsimp only at hSw); go_simp; try with_reducible rfl)
    try simp only [Act.put, List.getElem_toArray, List.getElem_cons_zero, List.getElem_cons_succ, List.setIfInBounds_toArray, List.set_cons_zero, List.set_cons_succ]
    refine wpAnyH_done (by kernel_rfl) ?_ _
    have HH9 : Hid _ := hHeld
    clear hHeld C1 C3 C4 C7 C18 C25 C29 C50 C55 tm0 tm1 tm2 tp0 tp1 tp2 tq0 tq1 tq2 tx ty
    go_wp2
    go_ret
    exact ⟨rfl, Below.on BX.out HH9.out⟩

theorem walk (o q : Int) (a : Option Addr) (n c : Nat) (l : List AV) (s : ByteArray) (ro rq : Int) (t : ByteArray) (b3 : Option Addr) (n3 c3 : Nat) (zs : List Int) (w : World) (_ : -9223372036854775808 ≤ o ∧ o ≤ 9223372036854775807) (_ : -9223372036854775808 ≤ q ∧ q ≤ 9223372036854775807) (hr : RdA w a n c l) (hs : s.size ≤ 140737488351232)
    (_ : -9223372036854775808 ≤ ro ∧ ro ≤ 9223372036854775807) (_ : -9223372036854775808 ≤ rq ∧ rq ≤ 9223372036854775807) (ht : t.size ≤ maxLen) (hb3 : RdI .u8 w b3 n3 c3 zs) (hc3 : c3 * 1 ≤ 140737488351232) (hL : laidMetH Tryd.prog Rows.wireAllRow.laid w) :
    Calls Tryd.prog 3 #[.agg #[.int .i64 o, .int .i64 q, .slice a n c], .string s, .agg #[.int .i64 ro, .int .i64 rq, .string t], .slice b3 n3 c3] w fun e w' => e = .returned (.bool true) ∧ Below w.heap.size w w' := by
  obtain ⟨es, hF⟩ := errs16 hL
  obtain ⟨bl, hr', _⟩ := hb3.bytes
  have hle := hb3.le
  exact core o q ro rq a n c s t l b3 n3 c3 bl w hr (by simp only [maxLen]; omega) ht hr' (by omega) es hF
end Go.Proofs.YtoggnfadfocogaaDoor.wireAll
