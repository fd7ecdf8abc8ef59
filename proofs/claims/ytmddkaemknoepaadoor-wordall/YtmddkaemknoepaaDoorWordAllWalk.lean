/- WordAll's walk: for every slice of bytes, number, text and place the law returns true; nothing that was there is turned. -/
import Derived.Test.YtmddkaemknoepaaDoorWordC
import Derived.Test.YtmddkaemknoepaaDoorRefB
import Derived.Test.YtmddkaemknoepaaDoorKindA
import Derived.Deep.DeepCutAuto
import Derived.Deep.RegionHeld
import Derived.OpenShut
namespace Go.Proofs.YtmddkaemknoepaaDoor.wordAll
open Go Go.RowKit
set_option linter.unusedSimpArgs false

theorem below_drew {u v : World} {B : Nat} (h : Below B u v) {w' : World} (hq : ∃ q, w' = v.drewN q) : Below B u w' := by
  obtain ⟨q, rfl⟩ := hq
  exact ⟨h.os, h.tape, h.output, h.size, h.block⟩

theorem step {w u w' : World} (h : Below w.heap.size w u) (hb : Below u.heap.size u w') : Below w.heap.size w w' := h.trans (hb.mono h.size)

/-- A slice that may be turned into this text in this world and in each later one. -/
def Txt (w : World) (v : Value) (s : ByteArray) : Prop := ∀ x, Below w.heap.size w x → (convert 22 9 v).run Tryd.prog x = .ok (.string s) x

theorem txt_of_rd {w : World} {a : Option Addr} {n c : Nat} {l : List UInt8} (h : Rd w a n c l) (hb : ∀ x, a = some x → 0 < l.length → x.block < w.heap.size) : Txt w (.slice a n c) ⟨l.toArray⟩ := fun _ hx =>
  (h.below hx hb).conv 22 9 5 Tryd.underlying22 Tryd.underlying5 Tryd.underlying9

theorem txt_of_own {w : World} {base n : Nat} {v : Value} {l : List UInt8} (h : w.ownsRow base 5 1 v n (bc l)) : Txt w v ⟨l.toArray⟩ := by
  obtain ⟨a, c, rfl, hr, hk⟩ := rd_of_owns h
  exact txt_of_rd hr (fun x hx _ => (hk x hx).2)

theorem join (a b : List UInt8) : (⟨(a ++ b).toArray⟩ : ByteArray) = ⟨a.toArray⟩ ++ ⟨b.toArray⟩ := by
  apply ByteArray.ext
  simp

theorem rd_low {w : World} {a : Option Addr} {n c : Nat} {l : List UInt8} (h : Rd w a n c l) : ∀ x, a = some x → 0 < l.length → x.block < w.heap.size := fun x hx hl => by
  have hl' := h.len
  obtain ⟨b, off, rfl, hb, _⟩ := h.plain (by omega)
  cases hx
  exact hb

theorem wpAnyH_mono {P : Program} {md : Region.Mode} {ops : Array Oper} {Q : Exit → Act → World → Prop} {S S' : World → Prop} (h : ∀ x, S' x → S x) : ∀ {fuel : Nat} {listed : Array Bool} {a : Act} {w : World}, wpAnyH P md ops Q S' fuel listed a w → wpAnyH P md ops Q S fuel listed a w
  | 0, _, _, _, hh => hh
  | _ + 1, _, _, _, hh => ⟨hh.1, fun i hi => wpOp_mono (fun _ _ q => ⟨h _ q.1, wpAnyH_mono h q.2⟩) (hh.2 i hi)⟩

theorem wrap32_bd (x : Int) : -2147483648 ≤ IntKind.i32.wrap x ∧ IntKind.i32.wrap x ≤ 2147483647 := by
  have h : (Lit.int .i32 (IntKind.i32.wrap x)).wf = true := wf_wrap _ _
  simpa [Lit.wf, IntKind.min, IntKind.max, IntKind.signed, IntKind.bits] using h

theorem getE_le (l : List UInt8) (p : Int) : getE l p ≤ 16 := by unfold getE; split <;> (try split) <;> omega
theorem lstE_le (l : List UInt8) (p : Int) : lstE l p ≤ 16 := by
  have := getE_le l p
  unfold lstE
  split
  · omega
  · split
    · omega
    · split
      · omega
      · split <;> omega
theorem txtE_le (l : List UInt8) (p : Int) : txtE l p ≤ 16 := by
  have := lstE_le l p
  unfold txtE
  split
  · omega
  · split <;> omega

theorem one99 : ∀ u ∈ [Value.int .u8 99], u.oneCell' = true := by
  intro u hu
  simp at hu
  subst hu
  rfl

theorem own_shape {w : World} {base e n : Nat} {v : Value} {xs : List Value} (h : w.ownsRow base e 1 v n xs) (hn : 0 < n) : ∃ b c, v = .slice (some ⟨b, 0, none⟩) n c ∧ n ≤ c ∧ c ≤ maxLen := by
  rcases h.2 with ⟨_, h0⟩ | ⟨g, cap, cur, rfl, _, _, h1, h2, _⟩
  · omega
  · exact ⟨g, cap, rfl, h1, h2⟩

theorem split99 {w : World} {base e b n c : Nat} {l : List UInt8} (h : w.ownsRow base e 1 (.slice (some ⟨b, 0, none⟩) (n + 1) c) (n + 1) (bc l ++ [.int .u8 99])) :
    Rd w (some ⟨b, 0, none⟩) n c l ∧ b < w.heap.size ∧ w.cell? ⟨b, n, none⟩ = some (.int .u8 99) := by
  have hl : l.length = n := by have := h.1; rw [List.length_append, bc_length] at this; simp at this; omega
  have hc := h.cells (g := b) rfl
  rcases h.2 with ⟨h0, _⟩ | ⟨g, cap, cur, h0, _, hg, h1, h2, _⟩
  · cases h0
  · cases h0
    refine ⟨⟨hl, by omega, h2, (fun h => by cases h), fun x hx j u hu => ?_⟩, (Array.getElem?_eq_some_iff.1 hg).1, ?_⟩
    · cases hx
      have hj : j < (bc l).length := by
        rcases Nat.lt_or_ge j (bc l).length with h' | h'
        · exact h'
        · rw [List.getElem?_eq_none h'] at hu; cases hu
      exact hc j u (by rw [List.getElem?_append_left hj]; exact hu)
    · have := hc n (.int .u8 99) (by rw [List.getElem?_append_right (by rw [bc_length]; omega), bc_length, hl, Nat.sub_self]; rfl)
      rw [Go.WideShapes.add_plain, Nat.zero_add] at this
      exact this

set_option maxRecDepth 100000 in
set_option maxHeartbeats 8000000 in
theorem core (a : Option Addr) (n c : Nat) (l : List UInt8) (v : Nat) (hv : v < 4294967296) (s : ByteArray) (p k : Int) (w : World) (hr : Rd w a n c l) (hn : n ≤ 140737488351232) (hs : s.size ≤ 5000) (es : List Addr) (hE : E4 w es) (hF : Errs w gerrs es) :
    Calls Tryd.prog 3 #[.slice a n c, .int .u32 v, .string s, .int .i64 p, .int .i64 k] w fun e w' => e = .returned (.bool true) ∧ Below w.heap.size w w' := by
  obtain ⟨i0, hi, hz0, hz1, hz2⟩ := info_parts infoU8
  have hnl : ¬ ((5000 : Int) < s.size) := by omega
  have HR : Hid (Rd w a n c l) := hr
  have HE : Hid (E4 w es) := hE
  have HF : Hid (Errs w gerrs es) := hF
  have HS : Hid (Src Tryd.prog 1 22 (.slice a n c) n (bc l) w) := hr.src Tryd.underlying22
  clear hr hE hF
  go_enter Tryd.func3, Tryd.ntmps3
  go_wp2_with (first | (at_builtin; refine wpList_append_own_src _ rfl (.const (.slice none 0 0)) (.tmp 32) 22 22 rfl w.heap.size 5 i0 (.int .u8 0) 1 1 Tryd.underlying22 hi hz0 hz1 hz2 rfl (.slice none 0 0) 0 [] rfl (World.ownsRow_nil _ _ _ _) (.slice a n c) n (bc l) rfl HS.out (by simp only [maxLen]; omega) (fits1 (by omega)) (Nat.le_refl _) ?_; intro v1 w1 o1 g1; rw [Nat.zero_add, List.nil_append] at o1; have s1 := g1.size) | (at_builtin; refine wpList_append_own_src _ rfl (.tmp 33) (.tmp 34) 22 22 rfl w.heap.size 5 i0 (.int .u8 0) 1 1 Tryd.underlying22 hi hz0 hz1 hz2 rfl v1 n (bc l) rfl (o1.alloc _) (.slice (some ⟨w1.heap.size, 0, none⟩) 1 1) 1 [.int .u8 99] rfl (Src.ofSlice _ Tryd.underlying22 ⟨w1.heap.size, 0, none⟩ 1 1 [.int .u8 99] rfl (cell1 _ _ _) one99) (by simp only [maxLen]; omega) (fits1 (by omega)) (by simp; omega) ?_; intro v2 w2 o2 g2; obtain ⟨b2, c2, hv2, hl2, hm2⟩ := own_shape o2 (by omega); unfold maxLen at hm2; rw [hv2]))
  have bel2 : Below w.heap.size w w2 := by
    have b1 : Below w.heap.size w w1 := (Below.refl _ _).grown g1 (Nat.le_refl _) (fun k hk => by cases hk)
    exact (b1.alloc s1 _).grown g2 (by simp; omega) (row_lt o1)
  have hR2 : Rd w2 (some ⟨b2, 0, none⟩) n c2 l ∧ b2 < w2.heap.size ∧ w2.cell? ⟨b2, n, none⟩ = some (.int .u8 99) := by
    subst hv2
    exact split99 o2
  obtain ⟨hR, hb2s, h99⟩ := hR2
  have R2 : Hid (Rd w2 (some ⟨b2, 0, none⟩) n c2 l) := hR
  have H99 : Hid (w2.cell? ⟨b2, n, none⟩ = some (.int .u8 99)) := h99
  have HB2 : Hid (b2 < w2.heap.size) := hb2s
  have HRb : Hid (Rd w2 a n c l) := HR.out.below bel2 (rd_low HR.out)
  have HE2 : Hid (E4 w2 es) := HE.out.below bel2
  have HF2 : Hid (Errs w2 gerrs es) := HF.out.below bel2
  have BEL : Hid (Below w.heap.size w w2) := bel2
  have tb : ∀ x, Below w2.heap.size w2 x → (convert 22 9 (.slice a n c)).run Tryd.prog x = .ok (.string ⟨l.toArray⟩) x := txt_of_rd HRb.out (rd_low HRb.out)
  have R2u : Hid (∀ u, Below w2.heap.size w2 u → Rd u (some ⟨b2, 0, none⟩) n c2 l) := fun u hu => R2.out.below hu (rd_low R2.out)
  clear o1 g1 s1 o2 g2 hv2 hR hb2s h99 bel2 HS HR HE HF
  have C9 : Hid (∀ u, Below w2.heap.size w2 u → Calls Tryd.prog 9 #[.slice (some ⟨b2, 0, none⟩) n c2, .int .u32 v] u fun e w' => ∃ r, e = .returned r ∧ (convert 22 9 r).run Tryd.prog w' = .ok (.string (⟨l.toArray⟩ ++ ⟨(le4 v).toArray⟩)) w' ∧ (∀ x, Below w'.heap.size w' x → (convert 22 9 r).run Tryd.prog x = .ok (.string (⟨l.toArray⟩ ++ ⟨(le4 v).toArray⟩)) x) ∧ Below u.heap.size u w') := fun u hu => by
    refine (put_any u _ n c2 l (R2u.out u hu) v hv (by omega)).mono ?_
    rintro e w' ⟨r, rfl, ho, hb⟩
    have ht := txt_of_own ho
    try rw [join] at ht
    exact ⟨r, rfl, ht w' (Below.refl _ _), ht, hb⟩
  have C10 : Hid (∀ u, Below w2.heap.size w2 u → Calls Tryd.prog 10 #[.int .u32 v] u fun e w' => ∃ r, e = .returned r ∧ (convert 22 9 r).run Tryd.prog w' = .ok (.string (⟨(le4 v).toArray⟩)) w' ∧ (∀ x, Below w'.heap.size w' x → (convert 22 9 r).run Tryd.prog x = .ok (.string (⟨(le4 v).toArray⟩)) x) ∧ Below u.heap.size u w') := fun u hu => by
    refine (rPut_any u v hv).mono ?_
    rintro e w' ⟨r, rfl, ho, hb⟩
    have ht := txt_of_own ho
    try rw [join] at ht
    exact ⟨r, rfl, ht w' (Below.refl _ _), ht, hb⟩
  have C11 : Hid (∀ u, Below w2.heap.size w2 u → Calls Tryd.prog 11 #[.slice (some ⟨b2, 0, none⟩) n c2, .string s] u fun e w' => ∃ r, e = .returned r ∧ (convert 22 9 r).run Tryd.prog w' = .ok (.string (⟨l.toArray⟩ ++ ⟨(putl (s.data.toList ++ [0])).toArray⟩)) w' ∧ (∀ x, Below w'.heap.size w' x → (convert 22 9 r).run Tryd.prog x = .ok (.string (⟨l.toArray⟩ ++ ⟨(putl (s.data.toList ++ [0])).toArray⟩)) x) ∧ Below u.heap.size u w') := fun u hu => by
    refine (putText_any u _ n c2 l (R2u.out u hu) s (by omega) (by omega)).mono ?_
    rintro e w' ⟨r, rfl, ho, hb⟩
    have ht := txt_of_own ho
    try rw [join] at ht
    exact ⟨r, rfl, ht w' (Below.refl _ _), ht, hb⟩
  have C12 : Hid (∀ u, Below w2.heap.size w2 u → Calls Tryd.prog 12 #[.string s] u fun e w' => ∃ r, e = .returned r ∧ (convert 22 9 r).run Tryd.prog w' = .ok (.string (⟨(putl (s.data.toList ++ [0])).toArray⟩)) w' ∧ (∀ x, Below w'.heap.size w' x → (convert 22 9 r).run Tryd.prog x = .ok (.string (⟨(putl (s.data.toList ++ [0])).toArray⟩)) x) ∧ Below u.heap.size u w') := fun u hu => by
    refine (rPutText_any u s (by omega)).mono ?_
    rintro e w' ⟨r, rfl, ho, hb⟩
    have ht := txt_of_own ho
    try rw [join] at ht
    exact ⟨r, rfl, ht w' (Below.refl _ _), ht, hb⟩
  have C13 : Hid (∀ u, Below w2.heap.size w2 u → Calls Tryd.prog 13 #[.slice (some ⟨b2, 0, none⟩) n c2, .string s] u fun e w' => ∃ r, e = .returned r ∧ (convert 22 9 r).run Tryd.prog w' = .ok (.string (⟨l.toArray⟩ ++ ⟨(putl s.data.toList).toArray⟩)) w' ∧ (∀ x, Below w'.heap.size w' x → (convert 22 9 r).run Tryd.prog x = .ok (.string (⟨l.toArray⟩ ++ ⟨(putl s.data.toList).toArray⟩)) x) ∧ Below u.heap.size u w') := fun u hu => by
    refine (putList_any u _ n c2 l (R2u.out u hu) s (by omega) (by omega)).mono ?_
    rintro e w' ⟨r, rfl, ho, hb⟩
    have ht := txt_of_own ho
    try rw [join] at ht
    exact ⟨r, rfl, ht w' (Below.refl _ _), ht, hb⟩
  have C14 : Hid (∀ u, Below w2.heap.size w2 u → Calls Tryd.prog 14 #[.string s] u fun e w' => ∃ r, e = .returned r ∧ (convert 22 9 r).run Tryd.prog w' = .ok (.string (⟨(putl s.data.toList).toArray⟩)) w' ∧ (∀ x, Below w'.heap.size w' x → (convert 22 9 r).run Tryd.prog x = .ok (.string (⟨(putl s.data.toList).toArray⟩)) x) ∧ Below u.heap.size u w') := fun u hu => by
    refine (rPutList_any u s (by omega)).mono ?_
    rintro e w' ⟨r, rfl, ho, hb⟩
    have ht := txt_of_own ho
    try rw [join] at ht
    exact ⟨r, rfl, ht w' (Below.refl _ _), ht, hb⟩
  have hsz : s.data.toList.length = s.size := size_toList s
  have hLs : (⟨l.toArray⟩ : ByteArray).size ≤ 140737488351232 := by show l.length ≤ _; have := HRb.out.len; omega
  have hX1s : (⟨(le4 v).toArray⟩ : ByteArray).size ≤ 100000 := by show (le4 v).length ≤ _; simp [le4]
  have hX2s : (⟨(putl (s.data.toList ++ [0])).toArray⟩ : ByteArray).size ≤ 100000 := by show (putl (s.data.toList ++ [0])).length ≤ _; rw [putl_length, List.length_append]; simp; omega
  have hX3s : (⟨(putl s.data.toList).toArray⟩ : ByteArray).size ≤ 100000 := by show (putl s.data.toList).length ≤ _; rw [putl_length]; omega
  clear hsz
  generalize (⟨l.toArray⟩ : ByteArray) = L at *
  generalize (⟨(le4 v).toArray⟩ : ByteArray) = X1 at *
  generalize (⟨(putl (s.data.toList ++ [0])).toArray⟩ : ByteArray) = X2 at *
  generalize (⟨(putl s.data.toList).toArray⟩ : ByteArray) = X3 at *
  go_cut [91] (fun q wc => q = .bool false ∧ Below w2.heap.size w2 wc)
  case first =>
    have F15 : Hid (∀ u, Calls Tryd.prog 15 #[.int .i64 k] u fun e w' => e = .returned (.int .i32 (fixed k)) ∧ w' = u) := fixed_any k
    have F16 : Hid (∀ u, Calls Tryd.prog 16 #[.int .i64 k] u fun e w' => e = .returned (.int .i32 (fixed k)) ∧ w' = u) := rFixed_any k
    have F17 : Hid (∀ u, Calls Tryd.prog 17 #[.int .i32 (IntKind.i32.wrap (v : Int))] u fun e w' => e = .returned (.int .i64 (IntKind.i32.wrap (v : Int) / 256)) ∧ w' = u) := whole_any _ (wrap32_bd _).1 (wrap32_bd _).2
    have F18 : Hid (∀ u, Calls Tryd.prog 18 #[.int .i32 (IntKind.i32.wrap (v : Int))] u fun e w' => e = .returned (.int .i64 (IntKind.i32.wrap (v : Int) / 256)) ∧ w' = u) := rWhole_any _ (wrap32_bd _).1 (wrap32_bd _).2
    have q1 : ¬ 9223372036854775807 < L.size + X1.size := by omega
    have q2 : ¬ 9223372036854775807 < L.size + X2.size := by omega
    have q3 : ¬ 9223372036854775807 < L.size + X3.size := by omega
    clear HRb HE2 HF2 BEL R2u R2 H99 HB2 hi hz0 hz1 hz2 hs hnl hl2 hm2 hn hv
    refine wp_region_held_drew (S := fun x => Below w2.heap.size w2 x) (by kernel_rfl) (Below.refl _ _).drew (fun hHeld => ?_)
    have hHeld : Below w2.heap.size w2 w2.drew := hHeld
    have bw : Below w2.heap.size w2 w2.drew := (Below.refl _ _).drew
    refine wpAnyH_take (i := 0) (v := ?_) rfl (by kernel_rfl) (by kernel_rfl) (by kernel_rfl) (fun _ _ _ h => h) (Or.inl ⟨by kernel_rfl, ?hy0⟩) (by assumption) ?_
    case hy0 => (intro w hSw; (try dsimp only at hSw); go_simp; try with_reducible rfl)
    try simp only [Act.put, List.getElem_toArray, List.getElem_cons_zero, List.getElem_cons_succ, List.setIfInBounds_toArray, List.set_cons_zero, List.set_cons_succ]
    refine wpAnyH_take (i := 1) (v := ?_) rfl (by kernel_rfl) (by kernel_rfl) (by kernel_rfl) (fun _ _ _ h => h) (Or.inl ⟨by kernel_rfl, ?hy1⟩) (by assumption) ?_
    case hy1 => (intro w hSw; (try dsimp only at hSw); go_simp; try with_reducible rfl)
    try simp only [Act.put, List.getElem_toArray, List.getElem_cons_zero, List.getElem_cons_succ, List.setIfInBounds_toArray, List.set_cons_zero, List.set_cons_succ]
    refine wpAnyH_take (i := 4) (v := ?_) rfl (by kernel_rfl) (by kernel_rfl) (by kernel_rfl) (fun _ _ _ h => h) (Or.inl ⟨by kernel_rfl, ?hy4⟩) (by assumption) ?_
    case hy4 => (intro w hSw; (try dsimp only at hSw); go_simp; try with_reducible rfl)
    try simp only [Act.put, List.getElem_toArray, List.getElem_cons_zero, List.getElem_cons_succ, List.setIfInBounds_toArray, List.set_cons_zero, List.set_cons_succ]
    refine wpAnyH_take (i := 5) (v := ?_) rfl (by kernel_rfl) (by kernel_rfl) (by kernel_rfl) (fun _ _ _ h => h) (Or.inl ⟨by kernel_rfl, ?hy5⟩) (by assumption) ?_
    case hy5 => (intro w hSw; (try dsimp only at hSw); go_simp; try with_reducible rfl)
    try simp only [Act.put, List.getElem_toArray, List.getElem_cons_zero, List.getElem_cons_succ, List.setIfInBounds_toArray, List.set_cons_zero, List.set_cons_succ]
    refine wpAnyH_take (i := 6) (v := ?_) rfl (by kernel_rfl) (by kernel_rfl) (by kernel_rfl) (fun _ _ _ h => h) (Or.inl ⟨by kernel_rfl, ?hy6⟩) (by assumption) ?_
    case hy6 => (intro w hSw; (try dsimp only at hSw); go_simp; try with_reducible rfl)
    try simp only [Act.put, List.getElem_toArray, List.getElem_cons_zero, List.getElem_cons_succ, List.setIfInBounds_toArray, List.set_cons_zero, List.set_cons_succ]
    refine wpAnyH_ready (rs := [2]) (by kernel_rfl) (by simp) ?_
    refine AllReadyH.cons rfl (fun K hK => ?_) AllReadyH.nil
    go_simp
    go_wp2_with fail
    refine (C9.out _ bw).mono ?_
    rintro e u2 ⟨r2, rfl, t0, t1, hb⟩
    clear t0
    have hS' := step hHeld hb
    refine hK.out _ _ hS' (fun _ => ?_)
    clear hK K
    refine wpAnyH_mono (S' := fun x => Below u2.heap.size u2 x) (fun x hx => step hS' hx) ?_
    replace bw := step bw hb
    replace tb := fun x hx => tb x (step hS' hx)
    clear hHeld hb hS'
    have hHeld : Below u2.heap.size u2 u2 := Below.refl _ _
    refine wpAnyH_take (i := 3) (v := ?_) rfl (by kernel_rfl) (by kernel_rfl) (by kernel_rfl) (fun _ _ _ h => h) (Or.inl ⟨by kernel_rfl, ?hy3⟩) (by assumption) ?_
    case hy3 => (intro w hSw; (try dsimp only at hSw); go_simp; try with_reducible rfl)
    try simp only [Act.put, List.getElem_toArray, List.getElem_cons_zero, List.getElem_cons_succ, List.setIfInBounds_toArray, List.set_cons_zero, List.set_cons_succ]
    refine wpAnyH_ready (rs := [7]) (by kernel_rfl) (by simp) ?_
    refine AllReadyH.cons rfl (fun K hK => ?_) AllReadyH.nil
    go_simp
    go_wp2_with fail
    refine (C10.out _ bw).mono ?_
    rintro e u7 ⟨r7, rfl, t0, t1, hb⟩
    clear t0
    have hS' := step hHeld hb
    refine hK.out _ _ hS' (fun _ => ?_)
    clear hK K
    refine wpAnyH_mono (S' := fun x => Below u7.heap.size u7 x) (fun x hx => step hS' hx) ?_
    replace bw := step bw hb
    replace tb := fun x hx => tb x (step hS' hx)
    clear hHeld hb hS'
    have hHeld : Below u7.heap.size u7 u7 := Below.refl _ _
    refine wpAnyH_take (i := 8) (v := ?_) rfl (by kernel_rfl) (by kernel_rfl) (by kernel_rfl) (fun _ _ _ h => h) (Or.inl ⟨by kernel_rfl, ?hy8⟩) (by assumption) ?_
    case hy8 => (intro w hSw; (try dsimp only at hSw); go_simp; try with_reducible rfl)
    try simp only [Act.put, List.getElem_toArray, List.getElem_cons_zero, List.getElem_cons_succ, List.setIfInBounds_toArray, List.set_cons_zero, List.set_cons_succ]
    refine wpAnyH_take (i := 9) (v := ?_) rfl (by kernel_rfl) (by kernel_rfl) (by kernel_rfl) (fun _ _ _ h => h) (Or.inl ⟨by kernel_rfl, ?hy9⟩) (by assumption) ?_
    case hy9 => (intro w hSw; (try dsimp only at hSw); go_simp; try with_reducible rfl)
    try simp only [Act.put, List.getElem_toArray, List.getElem_cons_zero, List.getElem_cons_succ, List.setIfInBounds_toArray, List.set_cons_zero, List.set_cons_succ]
    refine wpAnyH_take (i := 10) (v := ?_) rfl (by kernel_rfl) (by kernel_rfl) (by kernel_rfl) (fun _ _ _ h => h) (Or.inl ⟨by kernel_rfl, ?hy10⟩) (by assumption) ?_
    case hy10 => (intro w hSw; (try dsimp only at hSw); go_simp; try with_reducible rfl)
    try simp only [Act.put, List.getElem_toArray, List.getElem_cons_zero, List.getElem_cons_succ, List.setIfInBounds_toArray, List.set_cons_zero, List.set_cons_succ]
    refine wpAnyH_take (i := 11) (v := ?_) rfl (by kernel_rfl) (by kernel_rfl) (by kernel_rfl) (fun _ _ _ h => h) (Or.inl ⟨by kernel_rfl, ?hy11⟩) (by assumption) ?_
    case hy11 => (intro w hSw; (try dsimp only at hSw); go_simp; try with_reducible rfl)
    try simp only [Act.put, List.getElem_toArray, List.getElem_cons_zero, List.getElem_cons_succ, List.setIfInBounds_toArray, List.set_cons_zero, List.set_cons_succ]
    refine wpAnyH_take (i := 12) (v := ?_) rfl (by kernel_rfl) (by kernel_rfl) (by kernel_rfl) (fun _ _ _ h => h) (Or.inl ⟨by kernel_rfl, ?hy12⟩) (by assumption) ?_
    case hy12 => (intro w hSw; (try dsimp only at hSw); go_simp; try with_reducible rfl)
    try simp only [Act.put, List.getElem_toArray, List.getElem_cons_zero, List.getElem_cons_succ, List.setIfInBounds_toArray, List.set_cons_zero, List.set_cons_succ]
    refine wpAnyH_take (i := 13) (v := ?_) rfl (by kernel_rfl) (by kernel_rfl) (by kernel_rfl) (fun _ _ _ h => h) (Or.inl ⟨by kernel_rfl, ?hy13⟩) (by assumption) ?_
    case hy13 => (intro w hSw; (try dsimp only at hSw); go_simp; try with_reducible rfl)
    try simp only [Act.put, List.getElem_toArray, List.getElem_cons_zero, List.getElem_cons_succ, List.setIfInBounds_toArray, List.set_cons_zero, List.set_cons_succ]
    refine wpAnyH_take (i := 16) (v := ?_) rfl (by kernel_rfl) (by kernel_rfl) (by kernel_rfl) (fun _ _ _ h => h) (Or.inl ⟨by kernel_rfl, ?hy16⟩) (by assumption) ?_
    case hy16 => (intro w hSw; (try dsimp only at hSw); go_simp; try with_reducible rfl)
    try simp only [Act.put, List.getElem_toArray, List.getElem_cons_zero, List.getElem_cons_succ, List.setIfInBounds_toArray, List.set_cons_zero, List.set_cons_succ]
    refine wpAnyH_take (i := 17) (v := ?_) rfl (by kernel_rfl) (by kernel_rfl) (by kernel_rfl) (fun _ _ _ h => h) (Or.inl ⟨by kernel_rfl, ?hy17⟩) (by assumption) ?_
    case hy17 => (intro w hSw; (try dsimp only at hSw); go_simp; try with_reducible rfl)
    try simp only [Act.put, List.getElem_toArray, List.getElem_cons_zero, List.getElem_cons_succ, List.setIfInBounds_toArray, List.set_cons_zero, List.set_cons_succ]
    refine wpAnyH_take (i := 18) (v := ?_) rfl (by kernel_rfl) (by kernel_rfl) (by kernel_rfl) (fun _ _ _ h => h) (Or.inl ⟨by kernel_rfl, ?hy18⟩) (by assumption) ?_
    case hy18 => (intro w hSw; (try dsimp only at hSw); go_simp; try with_reducible rfl)
    try simp only [Act.put, List.getElem_toArray, List.getElem_cons_zero, List.getElem_cons_succ, List.setIfInBounds_toArray, List.set_cons_zero, List.set_cons_succ]
    refine wpAnyH_ready (rs := [14]) (by kernel_rfl) (by simp) ?_
    refine AllReadyH.cons rfl (fun K hK => ?_) AllReadyH.nil
    go_simp
    go_wp2_with fail
    refine (C11.out _ bw).mono ?_
    rintro e u14 ⟨r14, rfl, t0, t1, hb⟩
    clear t0
    have hS' := step hHeld hb
    refine hK.out _ _ hS' (fun _ => ?_)
    clear hK K
    refine wpAnyH_mono (S' := fun x => Below u14.heap.size u14 x) (fun x hx => step hS' hx) ?_
    replace bw := step bw hb
    replace tb := fun x hx => tb x (step hS' hx)
    clear hHeld hb hS'
    have hHeld : Below u14.heap.size u14 u14 := Below.refl _ _
    refine wpAnyH_take (i := 15) (v := ?_) rfl (by kernel_rfl) (by kernel_rfl) (by kernel_rfl) (fun _ _ _ h => h) (Or.inl ⟨by kernel_rfl, ?hy15⟩) (by assumption) ?_
    case hy15 => (intro w hSw; (try dsimp only at hSw); go_simp; try with_reducible rfl)
    try simp only [Act.put, List.getElem_toArray, List.getElem_cons_zero, List.getElem_cons_succ, List.setIfInBounds_toArray, List.set_cons_zero, List.set_cons_succ]
    refine wpAnyH_ready (rs := [19]) (by kernel_rfl) (by simp) ?_
    refine AllReadyH.cons rfl (fun K hK => ?_) AllReadyH.nil
    go_simp
    go_wp2_with fail
    refine (C12.out _ bw).mono ?_
    rintro e u19 ⟨r19, rfl, t0, t1, hb⟩
    clear t0
    have hS' := step hHeld hb
    refine hK.out _ _ hS' (fun _ => ?_)
    clear hK K
    refine wpAnyH_mono (S' := fun x => Below u19.heap.size u19 x) (fun x hx => step hS' hx) ?_
    replace bw := step bw hb
    replace tb := fun x hx => tb x (step hS' hx)
    clear hHeld hb hS'
    have hHeld : Below u19.heap.size u19 u19 := Below.refl _ _
    refine wpAnyH_take (i := 20) (v := ?_) rfl (by kernel_rfl) (by kernel_rfl) (by kernel_rfl) (fun _ _ _ h => h) (Or.inl ⟨by kernel_rfl, ?hy20⟩) (by assumption) ?_
    case hy20 => (intro w hSw; (try dsimp only at hSw); go_simp; try with_reducible rfl)
    try simp only [Act.put, List.getElem_toArray, List.getElem_cons_zero, List.getElem_cons_succ, List.setIfInBounds_toArray, List.set_cons_zero, List.set_cons_succ]
    refine wpAnyH_take (i := 21) (v := ?_) rfl (by kernel_rfl) (by kernel_rfl) (by kernel_rfl) (fun _ _ _ h => h) (Or.inl ⟨by kernel_rfl, ?hy21⟩) (by assumption) ?_
    case hy21 => (intro w hSw; (try dsimp only at hSw); go_simp; try with_reducible rfl)
    try simp only [Act.put, List.getElem_toArray, List.getElem_cons_zero, List.getElem_cons_succ, List.setIfInBounds_toArray, List.set_cons_zero, List.set_cons_succ]
    refine wpAnyH_take (i := 22) (v := ?_) rfl (by kernel_rfl) (by kernel_rfl) (by kernel_rfl) (fun _ _ _ h => h) (Or.inl ⟨by kernel_rfl, ?hy22⟩) (by assumption) ?_
    case hy22 => (intro w hSw; (try dsimp only at hSw); go_simp; try with_reducible rfl)
    try simp only [Act.put, List.getElem_toArray, List.getElem_cons_zero, List.getElem_cons_succ, List.setIfInBounds_toArray, List.set_cons_zero, List.set_cons_succ]
    refine wpAnyH_take (i := 23) (v := ?_) rfl (by kernel_rfl) (by kernel_rfl) (by kernel_rfl) (fun _ _ _ h => h) (Or.inl ⟨by kernel_rfl, ?hy23⟩) (by assumption) ?_
    case hy23 => (intro w hSw; (try dsimp only at hSw); go_simp; try with_reducible rfl)
    try simp only [Act.put, List.getElem_toArray, List.getElem_cons_zero, List.getElem_cons_succ, List.setIfInBounds_toArray, List.set_cons_zero, List.set_cons_succ]
    refine wpAnyH_take (i := 24) (v := ?_) rfl (by kernel_rfl) (by kernel_rfl) (by kernel_rfl) (fun _ _ _ h => h) (Or.inl ⟨by kernel_rfl, ?hy24⟩) (by assumption) ?_
    case hy24 => (intro w hSw; (try dsimp only at hSw); go_simp; try with_reducible rfl)
    try simp only [Act.put, List.getElem_toArray, List.getElem_cons_zero, List.getElem_cons_succ, List.setIfInBounds_toArray, List.set_cons_zero, List.set_cons_succ]
    refine wpAnyH_take (i := 25) (v := ?_) rfl (by kernel_rfl) (by kernel_rfl) (by kernel_rfl) (fun _ _ _ h => h) (Or.inl ⟨by kernel_rfl, ?hy25⟩) (by assumption) ?_
    case hy25 => (intro w hSw; (try dsimp only at hSw); go_simp; try with_reducible rfl)
    try simp only [Act.put, List.getElem_toArray, List.getElem_cons_zero, List.getElem_cons_succ, List.setIfInBounds_toArray, List.set_cons_zero, List.set_cons_succ]
    refine wpAnyH_take (i := 26) (v := ?_) rfl (by kernel_rfl) (by kernel_rfl) (by kernel_rfl) (fun _ _ _ h => h) (Or.inl ⟨by kernel_rfl, ?hy26⟩) (by assumption) ?_
    case hy26 => (intro w hSw; (try dsimp only at hSw); go_simp; try with_reducible rfl)
    try simp only [Act.put, List.getElem_toArray, List.getElem_cons_zero, List.getElem_cons_succ, List.setIfInBounds_toArray, List.set_cons_zero, List.set_cons_succ]
    refine wpAnyH_take (i := 29) (v := ?_) rfl (by kernel_rfl) (by kernel_rfl) (by kernel_rfl) (fun _ _ _ h => h) (Or.inl ⟨by kernel_rfl, ?hy29⟩) (by assumption) ?_
    case hy29 => (intro w hSw; (try dsimp only at hSw); go_simp; try with_reducible rfl)
    try simp only [Act.put, List.getElem_toArray, List.getElem_cons_zero, List.getElem_cons_succ, List.setIfInBounds_toArray, List.set_cons_zero, List.set_cons_succ]
    refine wpAnyH_take (i := 30) (v := ?_) rfl (by kernel_rfl) (by kernel_rfl) (by kernel_rfl) (fun _ _ _ h => h) (Or.inl ⟨by kernel_rfl, ?hy30⟩) (by assumption) ?_
    case hy30 => (intro w hSw; (try dsimp only at hSw); go_simp; try with_reducible rfl)
    try simp only [Act.put, List.getElem_toArray, List.getElem_cons_zero, List.getElem_cons_succ, List.setIfInBounds_toArray, List.set_cons_zero, List.set_cons_succ]
    refine wpAnyH_take (i := 31) (v := ?_) rfl (by kernel_rfl) (by kernel_rfl) (by kernel_rfl) (fun _ _ _ h => h) (Or.inl ⟨by kernel_rfl, ?hy31⟩) (by assumption) ?_
    case hy31 => (intro w hSw; (try dsimp only at hSw); go_simp; try with_reducible rfl)
    try simp only [Act.put, List.getElem_toArray, List.getElem_cons_zero, List.getElem_cons_succ, List.setIfInBounds_toArray, List.set_cons_zero, List.set_cons_succ]
    refine wpAnyH_ready (rs := [27]) (by kernel_rfl) (by simp) ?_
    refine AllReadyH.cons rfl (fun K hK => ?_) AllReadyH.nil
    go_simp
    go_wp2_with fail
    refine (C13.out _ bw).mono ?_
    rintro e u27 ⟨r27, rfl, t0, t1, hb⟩
    clear t0
    have hS' := step hHeld hb
    refine hK.out _ _ hS' (fun _ => ?_)
    clear hK K
    refine wpAnyH_mono (S' := fun x => Below u27.heap.size u27 x) (fun x hx => step hS' hx) ?_
    replace bw := step bw hb
    replace tb := fun x hx => tb x (step hS' hx)
    clear hHeld hb hS'
    have hHeld : Below u27.heap.size u27 u27 := Below.refl _ _
    refine wpAnyH_take (i := 28) (v := ?_) rfl (by kernel_rfl) (by kernel_rfl) (by kernel_rfl) (fun _ _ _ h => h) (Or.inl ⟨by kernel_rfl, ?hy28⟩) (by assumption) ?_
    case hy28 => (intro w hSw; (try dsimp only at hSw); go_simp; try with_reducible rfl)
    try simp only [Act.put, List.getElem_toArray, List.getElem_cons_zero, List.getElem_cons_succ, List.setIfInBounds_toArray, List.set_cons_zero, List.set_cons_succ]
    refine wpAnyH_ready (rs := [32]) (by kernel_rfl) (by simp) ?_
    refine AllReadyH.cons rfl (fun K hK => ?_) AllReadyH.nil
    go_simp
    go_wp2_with fail
    refine (C14.out _ bw).mono ?_
    rintro e u32 ⟨r32, rfl, t0, t1, hb⟩
    clear t0
    have hS' := step hHeld hb
    refine hK.out _ _ hS' (fun _ => ?_)
    clear hK K
    refine wpAnyH_mono (S' := fun x => Below u32.heap.size u32 x) (fun x hx => step hS' hx) ?_
    replace bw := step bw hb
    replace tb := fun x hx => tb x (step hS' hx)
    clear hHeld hb hS'
    have hHeld : Below u32.heap.size u32 u32 := Below.refl _ _
    refine wpAnyH_take (i := 33) (v := ?_) rfl (by kernel_rfl) (by kernel_rfl) (by kernel_rfl) (fun _ _ _ h => h) (Or.inl ⟨by kernel_rfl, ?hy33⟩) (by assumption) ?_
    case hy33 => (intro w hSw; (try dsimp only at hSw); go_simp; try with_reducible rfl)
    try simp only [Act.put, List.getElem_toArray, List.getElem_cons_zero, List.getElem_cons_succ, List.setIfInBounds_toArray, List.set_cons_zero, List.set_cons_succ]
    refine wpAnyH_take (i := 34) (v := ?_) rfl (by kernel_rfl) (by kernel_rfl) (by kernel_rfl) (fun _ _ _ h => h) (Or.inl ⟨by kernel_rfl, ?hy34⟩) (by assumption) ?_
    case hy34 => (intro w hSw; (try dsimp only at hSw); go_simp; try with_reducible rfl)
    try simp only [Act.put, List.getElem_toArray, List.getElem_cons_zero, List.getElem_cons_succ, List.setIfInBounds_toArray, List.set_cons_zero, List.set_cons_succ]
    refine wpAnyH_take (i := 35) (v := ?_) rfl (by kernel_rfl) (by kernel_rfl) (by kernel_rfl) (fun _ _ _ h => h) (Or.inl ⟨by kernel_rfl, ?hy35⟩) (by assumption) ?_
    case hy35 => (intro w hSw; (try dsimp only at hSw); go_simp; try with_reducible rfl)
    try simp only [Act.put, List.getElem_toArray, List.getElem_cons_zero, List.getElem_cons_succ, List.setIfInBounds_toArray, List.set_cons_zero, List.set_cons_succ]
    refine wpAnyH_take (i := 36) (v := ?_) rfl (by kernel_rfl) (by kernel_rfl) (by kernel_rfl) (fun _ _ _ h => h) (Or.inl ⟨by kernel_rfl, ?hy36⟩) (by assumption) ?_
    case hy36 => (intro w hSw; (try dsimp only at hSw); go_simp; try with_reducible rfl)
    try simp only [Act.put, List.getElem_toArray, List.getElem_cons_zero, List.getElem_cons_succ, List.setIfInBounds_toArray, List.set_cons_zero, List.set_cons_succ]
    refine wpAnyH_take (i := 37) (v := ?_) rfl (by kernel_rfl) (by kernel_rfl) (by kernel_rfl) (fun _ _ _ h => h) (Or.inl ⟨by kernel_rfl, ?hy37⟩) (by assumption) ?_
    case hy37 => (intro w hSw; (try dsimp only at hSw); go_simp; try with_reducible rfl)
    try simp only [Act.put, List.getElem_toArray, List.getElem_cons_zero, List.getElem_cons_succ, List.setIfInBounds_toArray, List.set_cons_zero, List.set_cons_succ]
    refine wpAnyH_take (i := 38) (v := ?_) rfl (by kernel_rfl) (by kernel_rfl) (by kernel_rfl) (fun _ _ _ h => h) (Or.inl ⟨by kernel_rfl, ?hy38⟩) (by assumption) ?_
    case hy38 => (intro w hSw; (try dsimp only at hSw); go_simp; try with_reducible rfl)
    try simp only [Act.put, List.getElem_toArray, List.getElem_cons_zero, List.getElem_cons_succ, List.setIfInBounds_toArray, List.set_cons_zero, List.set_cons_succ]
    refine wpAnyH_take (i := 40) (v := ?_) rfl (by kernel_rfl) (by kernel_rfl) (by kernel_rfl) (fun _ _ _ h => h) (Or.inl ⟨by kernel_rfl, ?hy40⟩) (by assumption) ?_
    case hy40 => (intro w hSw; (try dsimp only at hSw); go_simp; try with_reducible rfl)
    try simp only [Act.put, List.getElem_toArray, List.getElem_cons_zero, List.getElem_cons_succ, List.setIfInBounds_toArray, List.set_cons_zero, List.set_cons_succ]
    refine wpAnyH_ready (rs := [39]) (by kernel_rfl) (by simp) ?_
    refine AllReadyH.cons rfl (fun K hK => ?_) AllReadyH.nil
    go_simp
    go_wp2_with fail
    refine (F15.out _).mono ?_
    rintro e u39 ⟨rfl, rfl⟩
    refine hK.out _ _ hHeld (fun _ => ?_)
    clear hK K
    refine wpAnyH_ready (rs := [41]) (by kernel_rfl) (by simp) ?_
    refine AllReadyH.cons rfl (fun K hK => ?_) AllReadyH.nil
    go_simp
    go_wp2_with fail
    refine (F16.out _).mono ?_
    rintro e u41 ⟨rfl, rfl⟩
    refine hK.out _ _ hHeld (fun _ => ?_)
    clear hK K
    refine wpAnyH_take (i := 42) (v := ?_) rfl (by kernel_rfl) (by kernel_rfl) (by kernel_rfl) (fun _ _ _ h => h) (Or.inl ⟨by kernel_rfl, ?hy42⟩) (by assumption) ?_
    case hy42 => (intro w hSw; (try dsimp only at hSw); go_simp; try with_reducible rfl)
    try simp only [Act.put, List.getElem_toArray, List.getElem_cons_zero, List.getElem_cons_succ, List.setIfInBounds_toArray, List.set_cons_zero, List.set_cons_succ]
    refine wpAnyH_take (i := 43) (v := ?_) rfl (by kernel_rfl) (by kernel_rfl) (by kernel_rfl) (fun _ _ _ h => h) (Or.inl ⟨by kernel_rfl, ?hy43⟩) (by assumption) ?_
    case hy43 => (intro w hSw; (try dsimp only at hSw); go_simp; try with_reducible rfl)
    try simp only [Act.put, List.getElem_toArray, List.getElem_cons_zero, List.getElem_cons_succ, List.setIfInBounds_toArray, List.set_cons_zero, List.set_cons_succ]
    refine wpAnyH_take (i := 44) (v := ?_) rfl (by kernel_rfl) (by kernel_rfl) (by kernel_rfl) (fun _ _ _ h => h) (Or.inl ⟨by kernel_rfl, ?hy44⟩) (by assumption) ?_
    case hy44 => (intro w hSw; (try dsimp only at hSw); go_simp; try with_reducible rfl)
    try simp only [Act.put, List.getElem_toArray, List.getElem_cons_zero, List.getElem_cons_succ, List.setIfInBounds_toArray, List.set_cons_zero, List.set_cons_succ]
    refine wpAnyH_take (i := 45) (v := ?_) rfl (by kernel_rfl) (by kernel_rfl) (by kernel_rfl) (fun _ _ _ h => h) (Or.inl ⟨by kernel_rfl, ?hy45⟩) (by assumption) ?_
    case hy45 => (intro w hSw; (try dsimp only at hSw); go_simp; try with_reducible rfl)
    try simp only [Act.put, List.getElem_toArray, List.getElem_cons_zero, List.getElem_cons_succ, List.setIfInBounds_toArray, List.set_cons_zero, List.set_cons_succ]
    refine wpAnyH_take (i := 46) (v := ?_) rfl (by kernel_rfl) (by kernel_rfl) (by kernel_rfl) (fun _ _ _ h => h) (Or.inl ⟨by kernel_rfl, ?hy46⟩) (by assumption) ?_
    case hy46 => (intro w hSw; (try dsimp only at hSw); go_simp; try with_reducible rfl)
    try simp only [Act.put, List.getElem_toArray, List.getElem_cons_zero, List.getElem_cons_succ, List.setIfInBounds_toArray, List.set_cons_zero, List.set_cons_succ]
    refine wpAnyH_take (i := 48) (v := ?_) rfl (by kernel_rfl) (by kernel_rfl) (by kernel_rfl) (fun _ _ _ h => h) (Or.inl ⟨by kernel_rfl, ?hy48⟩) (by assumption) ?_
    case hy48 => (intro w hSw; (try dsimp only at hSw); go_simp; try with_reducible rfl)
    try simp only [Act.put, List.getElem_toArray, List.getElem_cons_zero, List.getElem_cons_succ, List.setIfInBounds_toArray, List.set_cons_zero, List.set_cons_succ]
    refine wpAnyH_take (i := 49) (v := ?_) rfl (by kernel_rfl) (by kernel_rfl) (by kernel_rfl) (fun _ _ _ h => h) (Or.inl ⟨by kernel_rfl, ?hy49⟩) (by assumption) ?_
    case hy49 => (intro w hSw; (try dsimp only at hSw); go_simp; try with_reducible rfl)
    try simp only [Act.put, List.getElem_toArray, List.getElem_cons_zero, List.getElem_cons_succ, List.setIfInBounds_toArray, List.set_cons_zero, List.set_cons_succ]
    refine wpAnyH_ready (rs := [47]) (by kernel_rfl) (by simp) ?_
    refine AllReadyH.cons rfl (fun K hK => ?_) AllReadyH.nil
    go_simp
    go_wp2_with fail
    refine (F17.out _).mono ?_
    rintro e u47 ⟨rfl, rfl⟩
    refine hK.out _ _ hHeld (fun _ => ?_)
    clear hK K
    refine wpAnyH_ready (rs := [50]) (by kernel_rfl) (by simp) ?_
    refine AllReadyH.cons rfl (fun K hK => ?_) AllReadyH.nil
    go_simp
    go_wp2_with fail
    refine (F18.out _).mono ?_
    rintro e u50 ⟨rfl, rfl⟩
    refine hK.out _ _ hHeld (fun _ => ?_)
    clear hK K
    refine wpAnyH_take (i := 51) (v := ?_) rfl (by kernel_rfl) (by kernel_rfl) (by kernel_rfl) (fun _ _ _ h => h) (Or.inl ⟨by kernel_rfl, ?hy51⟩) (by assumption) ?_
    case hy51 => (intro w hSw; (try dsimp only at hSw); go_simp; try with_reducible rfl)
    try simp only [Act.put, List.getElem_toArray, List.getElem_cons_zero, List.getElem_cons_succ, List.setIfInBounds_toArray, List.set_cons_zero, List.set_cons_succ]
    refine wpAnyH_take (i := 52) (v := ?_) rfl (by kernel_rfl) (by kernel_rfl) (by kernel_rfl) (fun _ _ _ h => h) (Or.inl ⟨by kernel_rfl, ?hy52⟩) (by assumption) ?_
    case hy52 => (intro w hSw; (try dsimp only at hSw); go_simp; try with_reducible rfl)
    try simp only [Act.put, List.getElem_toArray, List.getElem_cons_zero, List.getElem_cons_succ, List.setIfInBounds_toArray, List.set_cons_zero, List.set_cons_succ]
    refine wpAnyH_done (by kernel_rfl) ?_ _
    go_wp2_with fail
    go_meet
    case rel => exact ⟨rfl, bw⟩
  case rest =>
    obtain ⟨rfl, bc0⟩ := hcut
    have HG : Hid (∀ u, Below w2.heap.size w2 u → Calls Tryd.prog 19 #[.slice (some ⟨b2, 0, none⟩) n c2, .int .i64 p] u fun e w' => e = .returned (.tuple #[.int .u32 (getV l p), erv es (getE l p)]) ∧ Below u.heap.size u w') := fun u hu => by
      refine (get_any u _ n c2 l (R2u.out u hu) (by omega) es (HE2.out.below hu) p).mono ?_
      rintro e w' ⟨rfl, hq⟩
      exact ⟨rfl, below_drew (Below.refl _ _) hq⟩
    have HGr : Hid (∀ u, Below w2.heap.size w2 u → Calls Tryd.prog 20 #[.slice a n c, .int .i64 p] u fun e w' => e = .returned (.tuple #[.int .u32 (getV l p), .int .i64 (getE l p)]) ∧ Below u.heap.size u w') := fun u hu => by
      refine (rGet_any u _ n c l (HRb.out.below hu (rd_low HRb.out)) (by omega) p).mono ?_
      rintro e w' ⟨rfl, hq⟩
      exact ⟨rfl, below_drew (Below.refl _ _) hq⟩
    have HT : Hid (∀ u, Below w2.heap.size w2 u → Calls Tryd.prog 21 #[.slice (some ⟨b2, 0, none⟩) n c2, .int .i64 p] u fun e w' => e = .returned (.tuple #[.string ⟨(txtS l p).toArray⟩, .int .i64 (txtN l p), erv es (txtE l p)]) ∧ Below u.heap.size u w') := fun u hu => by
      refine (getText_any u _ n c2 l (R2u.out u hu) (by omega) es (HE2.out.below hu) p).mono ?_
      rintro e w' ⟨rfl, hq⟩
      exact ⟨rfl, below_drew (Below.refl _ _) hq⟩
    have HTr : Hid (∀ u, Below w2.heap.size w2 u → Calls Tryd.prog 22 #[.slice a n c, .int .i64 p] u fun e w' => e = .returned (.tuple #[.string ⟨(txtS l p).toArray⟩, .int .i64 (txtN l p), .int .i64 (txtE l p)]) ∧ Below u.heap.size u w') := fun u hu => by
      refine (rGetText_any u _ n c l (HRb.out.below hu (rd_low HRb.out)) (by omega) p).mono ?_
      rintro e w' ⟨rfl, hq⟩
      exact ⟨rfl, below_drew (Below.refl _ _) hq⟩
    have HLi : Hid (∀ u, Below w2.heap.size w2 u → Calls Tryd.prog 23 #[.slice (some ⟨b2, 0, none⟩) n c2, .int .i64 p] u fun e w' => e = .returned (.tuple #[.string ⟨(lstS l p).toArray⟩, .int .i64 (lstN l p), erv es (lstE l p)]) ∧ Below u.heap.size u w') := fun u hu => by
      refine (getList_any u _ n c2 l (R2u.out u hu) (by omega) es (HE2.out.below hu) p).mono ?_
      rintro e w' ⟨rfl, hq⟩
      exact ⟨rfl, below_drew (Below.refl _ _) hq⟩
    have HLr : Hid (∀ u, Below w2.heap.size w2 u → Calls Tryd.prog 24 #[.slice a n c, .int .i64 p] u fun e w' => e = .returned (.tuple #[.string ⟨(lstS l p).toArray⟩, .int .i64 (lstN l p), .int .i64 (lstE l p)]) ∧ Below u.heap.size u w') := fun u hu => by
      refine (rGetList_any u _ n c l (HRb.out.below hu (rd_low HRb.out)) (by omega) p).mono ?_
      rintro e w' ⟨rfl, hq⟩
      exact ⟨rfl, below_drew (Below.refl _ _) hq⟩
    have HK : Hid (∀ u (E : Nat), E ≤ 16 → Below w2.heap.size w2 u → Calls Tryd.prog 25 #[erv es E] u fun e w' => e = .returned (.int .i64 E) ∧ Below u.heap.size u w') := fun u E hE hu => kind_erv u es (HF2.out.below hu) E hE
    have H9 : Hid (∀ u, Below w2.heap.size w2 u → u.cell? ⟨b2, n, none⟩ = some (.int .u8 99)) := fun u hu => by rw [hu.cell (show b2 < w2.heap.size from HB2.out)]; exact H99.out
    have e1 := getE_le l p
    have e2 := txtE_le l p
    have e3 := lstE_le l p
    generalize getV l p = V at *
    generalize getE l p = E1 at *
    generalize (⟨(txtS l p).toArray⟩ : ByteArray) = S2 at *
    generalize txtN l p = N2 at *
    generalize txtE l p = E2 at *
    generalize (⟨(lstS l p).toArray⟩ : ByteArray) = S3 at *
    generalize lstN l p = N3 at *
    generalize lstE l p = E3 at *
    clear C9 C10 C11 C12 C13 C14 tb
    go_wp2_with fail
    refine (HG.out _ bc0).mono ?_
    rintro e x1 ⟨rfl, b1⟩
    have b1 := step bc0 b1
    go_wp2_with fail
    refine (HGr.out _ b1).mono ?_
    rintro e x2 ⟨rfl, b2'⟩
    have b2' := step b1 b2'
    go_wp2_with fail
    refine (HT.out _ b2').mono ?_
    rintro e x3 ⟨rfl, b3⟩
    have b3 := step b2' b3
    go_wp2_with fail
    refine (HTr.out _ b3).mono ?_
    rintro e x4 ⟨rfl, b4⟩
    have b4 := step b3 b4
    go_wp2_with fail
    refine (HLi.out _ b4).mono ?_
    rintro e x5 ⟨rfl, b5⟩
    have b5 := step b4 b5
    go_wp2_with fail
    refine (HLr.out _ b5).mono ?_
    rintro e x6 ⟨rfl, b6⟩
    have b6 := step b5 b6
    go_wp2_with fail
    refine (HK.out _ E1 e1 b6).mono ?_
    rintro e x7 ⟨rfl, b7⟩
    have b7 := step b6 b7
    go_wp2_with fail
    refine (HK.out _ E2 e2 b7).mono ?_
    rintro e x8 ⟨rfl, b8⟩
    have b8 := step b7 b8
    go_wp2_with fail
    refine (HK.out _ E3 e3 b8).mono ?_
    rintro e x9 ⟨rfl, b9⟩
    have b9 := step b8 b9
    have c9 := H9.out _ b9
    go_wp2_with fail
    refine (awake_any _).mono ?_
    rintro e x10 ⟨rfl, b10⟩
    have b10 := step b9 b10
    go_wp2
    go_ret
    exact ⟨rfl, step BEL.out (b10.mono (Nat.le_refl _))⟩

set_option maxRecDepth 100000 in
theorem long (a : Option Addr) (n c : Nat) (v : Int) (s : ByteArray) (p k : Int) (w : World) (hs : 5000 < s.size) :
    Calls Tryd.prog 3 #[.slice a n c, .int .u32 v, .string s, .int .i64 p, .int .i64 k] w fun e w' => e = .returned (.bool true) ∧ Below w.heap.size w w' := by
  go_enter Tryd.func3, Tryd.ntmps3
  go_wp2_with fail
  refine (awake_any _).mono ?_
  rintro e w1 ⟨rfl, b1⟩
  go_wp2
  go_ret
  exact ⟨rfl, b1⟩

theorem walk (a : Option Addr) (n c : Nat) (zs : List Int) (v : Int) (s : ByteArray) (p k : Int) (w : World) (hr : RdI .u8 w a n c zs) (hc : c * 1 ≤ 140737488351232) (hv : (Lit.int .u32 v).wf = true) (_ : s.size ≤ 140737488351232) (_ : (Lit.int .i64 p).wf = true) (_ : (Lit.int .i64 k).wf = true) (hL : laidMetH Tryd.prog Rows.wordAllRow.laid w) :
    Calls Tryd.prog 3 #[.slice a n c, .int .u32 v, .string s, .int .i64 p, .int .i64 k] w fun e w' => e = .returned (.bool true) ∧ Below w.heap.size w w' := by
  obtain ⟨es, hF⟩ := errs16 hL
  obtain ⟨l, hr', _⟩ := hr.bytes
  have hle := hr.le
  have hv' : 0 ≤ v ∧ v ≤ 4294967295 := by simpa [Lit.wf, IntKind.min, IntKind.max, IntKind.signed, IntKind.bits] using hv
  by_cases h : s.size ≤ 5000
  · obtain ⟨m, rfl⟩ := Int.eq_ofNat_of_zero_le hv'.1
    exact core a n c l m (by omega) s p k w hr' (by omega) h es (E4.of hF rfl) hF
  · exact long a n c v s p k w (by omega)
end Go.Proofs.YtmddkaemknoepaaDoor.wordAll
