/- The document's orders: Top, Put. -/
import Derived.Test.YtfmlmkcgneiadaaDoorOrdF
namespace Go.Proofs.YtfmlmkcgneiadaaDoor
open Go Go.RowKit

set_option maxRecDepth 100000 in
theorem rtop_any (a : Option Addr) (n c : Nat) (l : List Int) (k : Int) (w : World) (h : Rz w a n c l) (hn : n ≤ 1000000) :
    Calls Tryd.prog 15 #[.slice a n c, .int .i64 k] w fun e w' => ∃ v, e = .returned v ∧ OwZ w w' v (dr k l ++ [k]) := by
  obtain ⟨i0, hi, hz0, hz1, hz2⟩ := infoZp
  have HD := hid (rdrop_any a n c l k w h hn)
  have hdl := dr_length k l
  rw [h.len] at hdl
  clear h
  go_enter Tryd.func15, Tryd.ntmps15
  go_wp2_with fail
  refine HD.out.mono ?_
  rintro e w1 ⟨v1, rfl, ho1⟩
  have hs := ho1.bel.size
  have HN : Hid (∀ u v', u.ownsRow w.heap.size 3 1 v' ((dr k l).length + 1) (ic (dr k l) ++ ic [k]) → (w1.alloc (.cells #[.int .i64 k] 3)).grownBy u v1.ownBlock → OwZ w u v' (dr k l ++ [k])) := fun u v' o g => (ho1.alloc _).grown (k := [k]) rfl o g
  have HS := hid (srcLit w1 k)
  have HW := hid (ho1.alloc (.cells #[.int .i64 k] 3)).own
  have hws : w.heap.size ≤ (w1.alloc (.cells #[.int .i64 k] 3)).heap.size := by rw [World.size_alloc]; omega
  clear ho1 HD
  generalize (dr k l).length = m at *
  go_wp2_with (at_builtin; refine wpList_append_own_src _ rfl (.tmp 7) (.tmp 9) 22 22 rfl w.heap.size 3 i0 (.int .i64 0) 1 8 Tryd.underlying22 hi hz0 hz1 hz2 rfl _ _ _ rfl HW.out _ _ _ rfl HS.out (by simp only [maxLen]; omega) (fitsZ (by omega)) hws ?_; intro v3 w3 o3 g3; have HZ := hid (HN.out _ _ o3 g3); clear o3 g3)
  go_ret
  exact ⟨_, rfl, HZ.out⟩

/-- What Put answers. -/
def PutR (w : World) (r : Option (List Int)) (e : Ending) (w' : World) : Prop := match r with
  | none => e = .returned (.tuple #[.slice none 0 0, .int .i64 11]) ∧ Below w.heap.size w w'
  | some m => ∃ v, e = .returned (.tuple #[v, .int .i64 0]) ∧ OwZ w w' v m

set_option maxRecDepth 100000 in
theorem rput_no (a : Option Addr) (n c : Nat) (l : List Int) (id by_ : Int) (b : Int) (w : World) (h : Rz w a n c l) (hno : id = by_ ∨ ix id l = none ∨ ix by_ l = none) :
    Calls Tryd.prog 9 #[.slice a n c, .int .i64 id, .int .i64 by_, .int .i64 b] w fun e w' => PutR w none e w' := by
  have H1 := hid (rhas_any a n c l id w h)
  have H2 := hid (rhas_any a n c l by_ w h)
  clear h
  go_enter Tryd.func9, Tryd.ntmps9
  cases he : (id == by_)
  · have hne : id ≠ by_ := fun e => by simp [e] at he
    cases hx : ix id l with
    | none =>
      rw [hx] at H1
      clear hno hx hne
      go_wp2_with fail
      refine H1.out.mono ?_
      rintro e w1 ⟨rfl, rfl⟩
      go_wp2
      go_ret2
      exact ⟨rfl, Below.refl _ _⟩
    | some i =>
      have hy : ix by_ l = none := by
        rcases hno with e | e | e
        · exact absurd e hne
        · rw [hx] at e; cases e
        · exact e
      rw [hx] at H1
      rw [hy] at H2
      clear hno hx hy hne
      go_wp2_with fail
      refine H1.out.mono ?_
      rintro e w1 ⟨rfl, rfl⟩
      go_wp2_with fail
      refine H2.out.mono ?_
      rintro e w2 ⟨rfl, rfl⟩
      go_wp2
      go_ret2
      exact ⟨rfl, Below.refl _ _⟩
  · clear hno
    go_wp2
    go_ret2
    exact ⟨rfl, Below.refl _ _⟩

set_option maxRecDepth 100000 in
set_option maxHeartbeats 1000000 in
theorem rput_yes (a : Option Addr) (n c : Nat) (l : List Int) (id by_ : Int) (b : Nat) (hb1 : b ≤ 1) (w : World) (h : Rz w a n c l) (hn : n ≤ 1000000) (he : id ≠ by_) (hx : ix id l ≠ none) (hy : ix by_ l ≠ none) (i : Nat) (hz : ix by_ (dr id l) = some i) (k : Nat) (hk : k = i + b) :
    Calls Tryd.prog 9 #[.slice a n c, .int .i64 id, .int .i64 by_, .int .i64 b] w fun e w' => PutR w (some (ins (dr id l) k id)) e w' := by
  obtain ⟨i0, hi, hz0, hz1, hz2⟩ := infoZp
  have H1 := hid (rhas_any a n c l id w h)
  have H2 := hid (rhas_any a n c l by_ w h)
  rw [show (ix id l).isSome = true by cases hq : ix id l with | none => exact absurd hq hx | some _ => rfl] at H1
  rw [show (ix by_ l).isSome = true by cases hq : ix by_ l with | none => exact absurd hq hy | some _ => rfl] at H2
  have HD := hid (rdrop_any a n c l id w h hn)
  have e0 : (id == by_) = false := beq_false_of_ne he
  have hdl := dr_length id l
  rw [h.len] at hdl
  have hil := (ix_some hz).1
  have hpl := plI_some hz
  clear h he hx hy hz
  generalize dr id l = L at *
  go_enter Tryd.func9, Tryd.ntmps9
  go_wp2_with fail
  refine H1.out.mono ?_
  rintro e w1 ⟨rfl, rfl⟩
  go_wp2_with fail
  refine H2.out.mono ?_
  rintro e w2 ⟨rfl, rfl⟩
  go_wp2_with fail
  refine HD.out.mono ?_
  rintro e w3 ⟨v3, rfl, ho3⟩
  obtain ⟨a3, c3, rfl, hr3, -⟩ := ho3.rd
  have hs3 := hr3.small
  have hle3 := hr3.le
  have HB3 := hid ho3.bel
  have HR3 := hid hr3
  have HP := hid (rplace_any a3 _ c3 L by_ w3 hr3)
  rw [hpl] at HP
  have ek : (i : Int) + (b : Int) = (k : Int) := by omega
  have HT := hid (hr3.take k (by omega))
  have HTS := hid (HT.out.src (P := Tryd.prog) (t := 22) (e := 3) Tryd.underlying22)
  have HTL : Hid ((L.take k).length = k) := by rw [Hid, List.length_take]; omega
  have HO0 := hid (OwZ.nil w3)
  have hkl : k ≤ L.length := by omega
  clear ho3 hr3 H1 H2 HD hpl hk HT
  go_wp2_with fail
  refine HP.out.mono ?_
  rintro e w4 ⟨rfl, rfl⟩
  have HN1 : Hid (∀ u v', u.ownsRow w4.heap.size 3 1 v' (0 + k) (ic [] ++ ic (L.take k)) → w4.grownBy u (Value.slice none 0 0).ownBlock → OwZ w4 u v' (L.take k)) := fun u v' o g => HO0.out.grown HTL.out o g
  have HN2 : Hid (∀ u v', OwZ w4 u v' (L.take k) → (u.alloc (.cells #[.int .i64 id] 3)).ownsRow w4.heap.size 3 1 v' k (ic (L.take k)) ∧ w4.heap.size ≤ (u.alloc (.cells #[.int .i64 id] 3)).heap.size) := fun u v' ho => by
    have h1 := (ho.alloc (.cells #[.int .i64 id] 3)).own
    rw [HTL.out] at h1
    exact ⟨h1, by rw [World.size_alloc]; have := ho.bel.size; omega⟩
  have HN3 : Hid (∀ u v' u2 v2, OwZ w4 u v' (L.take k) → u2.ownsRow w4.heap.size 3 1 v2 (k + 1) (ic (L.take k) ++ ic [id]) → (u.alloc (.cells #[.int .i64 id] 3)).grownBy u2 v'.ownBlock → OwZ w4 u2 v2 (L.take k ++ [id])) := fun u v' u2 v2 ho o g => by
    refine (ho.alloc (.cells #[.int .i64 id] 3)).grown (k := [id]) rfl ?_ g
    rw [HTL.out]
    exact o
  have HL3 : Hid ((L.take k ++ [id]).length = k + 1) := by rw [Hid, List.length_append, HTL.out]; rfl
  have HE : Hid ((L.take k ++ [id]) ++ L.drop k = ins L k id) := by rw [Hid, ins, List.append_assoc]; rfl
  have HDL : Hid ((L.drop k).length = L.length - k) := List.length_drop ..
  have HN4 : Hid (∀ u v', OwZ w4 u v' (L.take k ++ [id]) → u.ownsRow w4.heap.size 3 1 v' (k + 1) (ic (L.take k ++ [id]))) := fun u v' ho => by
    have h1 := ho.own
    rw [HL3.out] at h1
    exact h1
  have HN5 : Hid (∀ u v' u2 v2, OwZ w4 u v' (L.take k ++ [id]) → u2.ownsRow w4.heap.size 3 1 v2 (k + 1 + (L.length - k)) (ic (L.take k ++ [id]) ++ ic (L.drop k)) → u.grownBy u2 v'.ownBlock → OwZ w4 u2 v2 (ins L k id)) := fun u v' u2 v2 ho o g => by
    rw [← HE.out]
    refine ho.grown (k := L.drop k) HDL.out ?_ g
    rw [HL3.out]
    exact o
  by_cases hck : c3 = k
  · subst hck
    have HLK : Hid (L.length - c3 = 0) := by rw [Hid]; omega
    have HS4 : Hid (∀ u, RowKit.Below w4.heap.size w4 u → Src Tryd.prog 1 22 (.slice a3 0 0) (L.length - c3) (ic (L.drop c3)) u) := fun u _ => by
      have h0 : L.drop c3 = [] := List.drop_eq_nil_of_le (by omega)
      rw [h0, HLK.out]
      exact (Rz.zero u a3).src Tryd.underlying22
    go_wp2_with (at_builtin; first | (refine wpList_append_own_src _ rfl (.const (.slice none 0 0)) (.tmp 38) 22 22 rfl w4.heap.size 3 i0 (.int .i64 0) 1 8 Tryd.underlying22 hi hz0 hz1 hz2 rfl _ _ _ rfl HO0.out.own _ _ _ rfl HTS.out (by simp only [maxLen, List.length_nil]; omega) (fitsZ (by simp only [List.length_nil]; omega)) (Nat.le_refl _) ?_; intro v5 w5 o5 g5; have HZ5 := hid (HN1.out _ _ o5 g5); clear o5 g5) | (refine wpList_append_own_src _ rfl (.tmp 39) (.tmp 41) 22 22 rfl w4.heap.size 3 i0 (.int .i64 0) 1 8 Tryd.underlying22 hi hz0 hz1 hz2 rfl _ _ _ rfl (HN2.out _ _ HZ5.out).1 _ _ _ rfl (srcLit _ _) (by simp only [maxLen]; omega) (fitsZ (by omega)) (HN2.out _ _ HZ5.out).2 ?_; intro v6 w6 o6 g6; have HZ6 := hid (HN3.out _ _ _ _ HZ5.out o6 g6); clear o6 g6) | (refine wpList_append_own_src _ rfl (.tmp 43) (.tmp 46) 22 22 rfl w4.heap.size 3 i0 (.int .i64 0) 1 8 Tryd.underlying22 hi hz0 hz1 hz2 rfl _ _ _ rfl (HN4.out _ _ HZ6.out) _ _ _ rfl (HS4.out _ HZ6.out.bel) (by simp only [maxLen]; omega) (fitsZ (by omega)) HZ6.out.bel.size ?_; intro v7 w7 o7 g7; have HZ7 := hid (HN5.out _ _ _ _ HZ6.out o7 g7); clear o7 g7))
    go_ret2
    exact ⟨_, rfl, (by have h := HZ7.out; exact h.base HB3.out)⟩
  · have HA3 : Hid (∃ bl off, a3 = some ⟨bl, off, none⟩) := by
      obtain ⟨bl, off, e, _⟩ := HR3.out.pl (by omega)
      exact ⟨bl, off, e⟩
    obtain ⟨bl, off, rfl⟩ := HA3.out
    have HS4 : Hid (∀ u, RowKit.Below w4.heap.size w4 u → Src Tryd.prog 1 22 (.slice (some ⟨bl, off + k, none⟩) (L.length - k) (c3 - k)) (L.length - k) (ic (L.drop k)) u) := fun u hu => ((HR3.out.on hu).drop k hkl).src Tryd.underlying22
    go_wp2_with (at_builtin; first | (refine wpList_append_own_src _ rfl (.const (.slice none 0 0)) (.tmp 38) 22 22 rfl w4.heap.size 3 i0 (.int .i64 0) 1 8 Tryd.underlying22 hi hz0 hz1 hz2 rfl _ _ _ rfl HO0.out.own _ _ _ rfl HTS.out (by simp only [maxLen, List.length_nil]; omega) (fitsZ (by simp only [List.length_nil]; omega)) (Nat.le_refl _) ?_; intro v5 w5 o5 g5; have HZ5 := hid (HN1.out _ _ o5 g5); clear o5 g5) | (refine wpList_append_own_src _ rfl (.tmp 39) (.tmp 41) 22 22 rfl w4.heap.size 3 i0 (.int .i64 0) 1 8 Tryd.underlying22 hi hz0 hz1 hz2 rfl _ _ _ rfl (HN2.out _ _ HZ5.out).1 _ _ _ rfl (srcLit _ _) (by simp only [maxLen]; omega) (fitsZ (by omega)) (HN2.out _ _ HZ5.out).2 ?_; intro v6 w6 o6 g6; have HZ6 := hid (HN3.out _ _ _ _ HZ5.out o6 g6); clear o6 g6) | (refine wpList_append_own_src _ rfl (.tmp 43) (.tmp 46) 22 22 rfl w4.heap.size 3 i0 (.int .i64 0) 1 8 Tryd.underlying22 hi hz0 hz1 hz2 rfl _ _ _ rfl (HN4.out _ _ HZ6.out) _ _ _ rfl (HS4.out _ HZ6.out.bel) (by simp only [maxLen]; omega) (fitsZ (by omega)) HZ6.out.bel.size ?_; intro v7 w7 o7 g7; have HZ7 := hid (HN5.out _ _ _ _ HZ6.out o7 g7); clear o7 g7))
    go_ret2
    exact ⟨_, rfl, (by have h := HZ7.out; exact h.base HB3.out)⟩

theorem rput_any (a : Option Addr) (n c : Nat) (l : List Int) (id by_ : Int) (b : Nat) (hb1 : b ≤ 1) (w : World) (h : Rz w a n c l) (hn : n ≤ 1000000) :
    Calls Tryd.prog 9 #[.slice a n c, .int .i64 id, .int .i64 by_, .int .i64 b] w fun e w' => PutR w (bes l id by_ b) e w' := by
  rw [bes_doc]
  split
  · rename_i hno
    exact rput_no a n c l id by_ b w h hno
  · rename_i hno
    have h1 : id ≠ by_ := fun e => hno (.inl e)
    have h2 : ix id l ≠ none := fun e => hno (.inr (.inl e))
    have h3 : ix by_ l ≠ none := fun e => hno (.inr (.inr e))
    cases hz : ix by_ (dr id l) with
    | none =>
      refine absurd ?_ h3
      rw [ix_none]
      intro hm
      exact ix_none.1 hz (mem_dr.2 ⟨hm, fun e => h1 e.symm⟩)
    | some i => exact rput_yes a n c l id by_ b hb1 w h hn h1 h2 h3 i hz (i + b) rfl
end Go.Proofs.YtfmlmkcgneiadaaDoor
