/- The program's orders: Drop, insert. -/
import Derived.Test.YtfedcpnnmkkpaaaDoorOrdB
namespace Go.Proofs.YtfedcpnnmkkpaaaDoor
open Go Go.RowKit

/-- How many a slice has. -/
def slN : Value → Nat
  | .slice _ n _ => n
  | _ => 0

/-- Between two cuts. -/
structure Dri (w : World) (k : Int) (l0 : List Int) (lv rv : Value) (wr : World) : Prop where
  ex : ∃ a n c l r, lv = .slice a n c ∧ Rz w a n c l ∧ OwZ w wr rv r ∧ r ++ dr k l = dr k l0 ∧ r.length + n ≤ l0.length

set_option maxRecDepth 100000 in
set_option maxHeartbeats 1000000 in
theorem odrop_any (a : Option Addr) (n c : Nat) (l : List Int) (k : Int) (w : World) (p : Addr) (hp : Pl w p) (h : Rz w a n c l) (hn : n ≤ 1000000) :
    Calls Tryd.prog 19 #[.slice a n c, .int .i64 k] w fun e w' => ∃ v, e = .returned v ∧ OwZ w w' v (dr k l) := by
  obtain ⟨i0, hi, hz0, hz1, hz2⟩ := infoZp
  obtain ⟨w1, hmk, ho1⟩ := make0Z w n (by omega)
  have hl0 := h.len
  have HP := hid hp
  have HI : Hid (Dri w k l (.slice a n c) (.slice (some ⟨w.heap.size, 0, none⟩) 0 n) w1) := ⟨a, n, c, l, [], rfl, h, ho1, rfl, by simp [hl0]⟩
  have hl1 : l.length ≤ 1000000 := by omega
  clear h hp ho1 hl0
  go_enter Tryd.func19, Tryd.ntmps19
  go_wp2
  go_loopw [0, 5] (fun lv rv wr => Dri w k l lv rv wr) (fun lv _ _ => slN lv)
  case atStart => exact HI.out
  case round =>
    obtain ⟨a, m, c, l', r, rfl, hr, ho, hd, hlen⟩ := hrel.ex
    have hm := hr.small
    have hle := hr.le
    have HL := hid hr.len
    have HR := hid hr
    have HO := hid ho
    have HD := hid hd
    have HB := hid ho.bel
    have hp2 := HP.out.on ho.bel
    have HF := hid (ofirst_any a m c l' k wr p hp2 (hr.on ho.bel))
    have HC : Hid (∀ q, (wr.drewN q).cell? ⟨0, 0, none⟩ = some (.iface 62 (.pointer (some p)))) := fun q => (hp2.drewN q).c
    obtain ⟨av, cv, rfl, -, -⟩ := ho.rd
    clear hrel hr ho hd hp2 HI hmk
    cases hx : zx k l' with
    | some i =>
      rw [fstV_some hx] at HF
      obtain ⟨x1, x2, x3, x4⟩ := zx_some hx
      have hi1 : i < m := by rw [← HL.out]; exact x1
      obtain ⟨b, off, z, rfl, -, -, -⟩ := HR.out.at_ hi1
      have HS : Hid (∀ q, Src Tryd.prog 1 22 (.slice (some ⟨b, off, none⟩) i c) i (ic (l'.take i)) (wr.drewN q)) := fun q => (((HR.out.on HB.out).drewN q).take i (by omega)).src Tryd.underlying22
      have HN : Hid (∀ q u v, u.ownsRow w.heap.size 3 1 v (r.length + i) (ic r ++ ic (l'.take i)) → (wr.drewN q).grownBy u (Value.slice av r.length cv).ownBlock → ∃ av2 cv2, v = .slice av2 (r.length + i) cv2 ∧ Hid (Dri w k l (.slice (some ⟨b, off + (i + 1), none⟩) (m - (i + 1)) (c - (i + 1))) (.slice av2 (r.length + i) cv2) u) ∧ Hid (c = i + 1 → Dri w k l (.slice (some ⟨b, off, none⟩) 0 0) (.slice av2 (r.length + i) cv2) u)) := fun q u v o2 g2 => by
        have hti : (l'.take i).length = i := by rw [List.length_take, HL.out]; omega
        have ho2 := (HO.out.on (below_drewN (Below.refl _ _) q)).grown hti o2 g2
        obtain ⟨av2, cv2, rfl, -, -⟩ := ho2.rd
        have hlen2 : (r ++ l'.take i).length = r.length + i := by rw [List.length_append, hti]
        rw [hlen2] at ho2 ⊢
        have e : (r ++ l'.take i) ++ dr k (l'.drop (i + 1)) = dr k l := by rw [← HD.out, x3, List.append_assoc]
        refine ⟨av2, cv2, rfl, ⟨_, _, _, l'.drop (i + 1), r ++ l'.take i, rfl, HR.out.drop (i + 1) (by omega), ho2, e, by rw [hlen2]; omega⟩, fun hc => ?_⟩
        have h1 : l'.drop (i + 1) = [] := List.drop_eq_nil_of_le (by rw [HL.out]; omega)
        rw [h1] at e
        exact ⟨_, _, _, [], r ++ l'.take i, rfl, Rz.zero _ _, ho2, e, by rw [hlen2]; omega⟩
      have e1 : (i : Int) + 1 ≤ 9223372036854775807 := by omega
      have hws := HB.out.size
      have HSI : Hid (r.length + i ≤ 1000000) := by rw [Hid]; omega
      have HOW : Hid (∀ q, (wr.drewN q).ownsRow w.heap.size 3 1 (.slice av r.length cv) r.length (ic r)) := fun q => ownsRow_below HO.out.own (below_drewN (Below.refl _ _) q)
      clear hx x1 x2 x3 x4 HR HO HD HB HP HL
      by_cases hck : c = i + 1
      · subst hck
        go_wp2_with fail
        refine HF.out.mono ?_
        rintro e w2 ⟨rfl, q, rfl⟩
        have c0 := HC.out q
        go_wp2_with fail
        refine (isz_nil p _).mono ?_
        rintro e w3 ⟨rfl, rfl⟩
        go_wp2_with (at_builtin; refine wpList_append_own_src _ rfl (.tmp 23) (.tmp 26) 22 22 rfl w.heap.size 3 i0 (.int .i64 0) 1 8 Tryd.underlying22 hi hz0 hz1 hz2 rfl _ _ _ rfl (HOW.out q) _ _ _ rfl (HS.out q) (by simp only [maxLen]; have := HSI.out; omega) (fitsZ (by have := HSI.out; omega)) hws ?_; intro v3 w3 o3 g3; obtain ⟨av2, cv2, rfl, HY, HX⟩ := HN.out _ _ _ o3 g3; clear o3 g3)
        exact ⟨HX.out trivial, by simp only [slN]; omega⟩
      · go_wp2_with fail
        refine HF.out.mono ?_
        rintro e w2 ⟨rfl, q, rfl⟩
        have c0 := HC.out q
        go_wp2_with fail
        refine (isz_nil p _).mono ?_
        rintro e w3 ⟨rfl, rfl⟩
        go_wp2_with (at_builtin; refine wpList_append_own_src _ rfl (.tmp 23) (.tmp 26) 22 22 rfl w.heap.size 3 i0 (.int .i64 0) 1 8 Tryd.underlying22 hi hz0 hz1 hz2 rfl _ _ _ rfl (HOW.out q) _ _ _ rfl (HS.out q) (by simp only [maxLen]; have := HSI.out; omega) (fitsZ (by have := HSI.out; omega)) hws ?_; intro v3 w3 o3 g3; obtain ⟨av2, cv2, rfl, HY, HX⟩ := HN.out _ _ _ o3 g3; clear o3 g3)
        exact ⟨HY.out, by simp only [slN]; omega⟩
    | none =>
      rw [fstV_none hx] at HF
      have hdr := dr_not (zx_none.1 hx)
      have HS : Hid (∀ q, Src Tryd.prog 1 22 (.slice a m c) m (ic l') (wr.drewN q)) := fun q => ((HR.out.on HB.out).drewN q).src Tryd.underlying22
      have hws := HB.out.size
      have HN : Hid (∀ q u v, u.ownsRow w.heap.size 3 1 v (r.length + m) (ic r ++ ic l') → (wr.drewN q).grownBy u (Value.slice av r.length cv).ownBlock → OwZ w u v (dr k l)) := fun q u v o2 g2 => by
        have ho2 := (HO.out.on (below_drewN (Below.refl _ _) q)).grown HL.out o2 g2
        rw [← HD.out, hdr]
        exact ho2
      have HOW : Hid (∀ q, (wr.drewN q).ownsRow w.heap.size 3 1 (.slice av r.length cv) r.length (ic r)) := fun q => ownsRow_below HO.out.own (below_drewN (Below.refl _ _) q)
      clear hx hdr HR HO HD HB HP HL
      go_wp2_with fail
      refine HF.out.mono ?_
      rintro e w2 ⟨rfl, q, rfl⟩
      have c0 := HC.out q
      go_wp2_with fail
      refine (is_same p _).mono ?_
      rintro e w3 ⟨rfl, rfl⟩
      go_wp2_with (at_builtin; refine wpList_append_own_src _ rfl (.tmp 20) (.tmp 21) 22 22 rfl w.heap.size 3 i0 (.int .i64 0) 1 8 Tryd.underlying22 hi hz0 hz1 hz2 rfl _ _ _ rfl (HOW.out q) _ _ _ rfl (HS.out q) (by simp only [maxLen]; omega) (fitsZ (by omega)) hws ?_; intro v3 w3 o3 g3; have HZ := hid (HN.out _ _ _ o3 g3); clear o3 g3)
      go_ret
      exact ⟨_, rfl, HZ.out⟩
end Go.Proofs.YtfedcpnnmkkpaaaDoor
