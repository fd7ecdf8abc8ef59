/- Lemmas that the proof leans on. -/
import Derived.Test.YtdgknofpkafppaaGreatDoorB38
import Derived.Test.YtdgknofpkafppaaGreatDoorB36
import Derived.Test.YtdgknofpkafppaaGreatDoorB37
namespace Go.Proofs.YtdgknofpkafppaaGreatDoor
open Go Go.RowKit
set_option maxRecDepth 100000
set_option maxHeartbeats 2000000
section
variable {base : Nat} {X : List Nat} {w : World} {q : Nat} {v : Value} {L : Ro}
theorem rdi_of_rz {w : World} {a : Option Addr} {n c : Nat} {l : List Int} (h : Rz w a n c l) (hz : ∀ z ∈ l, I64 z) : RdI .i64 w a n c l :=
 ⟨h.len, h.le, h.max, h.hnil, fun x hx j hj => by
  obtain ⟨b, off, z, e, _, hz, hc⟩ := h.at_ hj
  rw [hx] at e
  cases e
  rw [Go.WideShapes.add_plain, hc, List.getD, hz]
  rfl, fun z hz' => wf64 (hz z hz')⟩
theorem owz_set {w w' : World} {zs : List Int} {e : Ending} (h : ∃ v, e = .returned v ∧ w'.ownsRow w.heap.size 3 1 v (setOf zs).length ((setOf zs).map encZ) ∧ Below w.heap.size w w') : ∃ v, e = .returned v ∧ OwZ w w' v (setOf zs) := by
 obtain ⟨v, he, ho, hb⟩ := h
 exact ⟨v, he, ⟨ho, hb⟩⟩
theorem keys_take {L : Ro} {j : Nat} {k : Int} {s : Sr} (h : L[j]? = some (k, s)) : keys (L.take (j + 1)) = keys (L.take j) ++ [k] := by
 rw [List.take_add_one, h, keys, keys, List.map_append]
 rfl
theorem rall_any (h : Df base X w q v L) (hl : L.length ≤ 40) (hk : ∀ z ∈ keys L, I64 z) :
  Calls Tryz.prog 41 #[.pointer (some ⟨q, 0, none⟩)] w fun e w' => ∃ v', e = .returned v' ∧ OwZ w w' v' (setOf (keys L)) := by
 obtain ⟨i0, hi, hz0, hz1, hz2⟩ := infoZp
 obtain ⟨a, c, hv, hle, hmx, c0, hat⟩ := h.val
 simp only [maxLen] at hmx
 have HAT := hid hat
 have HD := hid h
 have HKW := hid hk
 have hql := h.lt
 obtain ⟨n, hn⟩ : ∃ n, n = L.length := ⟨_, rfl⟩
 have HN := hid hn
 rw [← hn] at c0 hle hl
 clear h hv hat hn hk
 go_enter Tryz.func41, Tryz.ntmps41
 go_wp2
 go_loopw [3, 4] (fun vv i wr => ∃ j : Nat, i = .int .i64 j ∧ j ≤ n ∧ OwZ w wr vv (keys (L.take j))) (fun _ i _ => n - (numOf i).toNat)
 case atStart => exact ⟨0, rfl, by omega, OwZ.nil w⟩
 case round =>
  obtain ⟨j, rfl, hj, ho⟩ := hrel
  have hb := ho.bel
  rw [← hb.cell hql] at c0
  have hkl : (keys (L.take j)).length ≤ j := by rw [keys, List.length_map]; exact List.length_take_le _ _
  by_cases hgo : j < n
  ·have e1 : decide ((j : Int) < n) = true := decide_eq_true (by omega)
   have e2 : (j : Int) < n := by omega
   obtain ⟨⟨k, s⟩, he⟩ : ∃ e, L[j]? = some e := ⟨_, List.getElem?_eq_getElem (by rw [← HN.out]; exact hgo)⟩
   obtain ⟨g, rfl, hg, -⟩ := HAT.out j (k, s) he
   have c1 : wr.cell? ⟨g, j * 33, none⟩ = some (.int .i64 k) := (HD.out.on hb).at_ he hg (j := 0) (by omega)
   have HKT := hid (keys_take he)
   have HO := hid ho
   have HG : Hid (∀ vv v' u, OwZ w wr vv (keys (L.take j)) → u.ownsRow w.heap.size 3 1 v' ((keys (L.take j)).length + 1) (ic (keys (L.take j)) ++ ic [k]) → (wr.alloc (.cells #[.int .i64 k] 3)).grownBy u vv.ownBlock → OwZ w u v' (keys (L.take (j + 1)))) := fun vv v' u hv o g => by
    rw [HKT.out]
    exact (hv.alloc _).grown (k := [k]) rfl o g
   have HS := hid (srcLit wr k)
   have HW := hid (ho.alloc (.cells #[.int .i64 k] 3)).own
   have hws : w.heap.size ≤ (wr.alloc (.cells #[.int .i64 k] 3)).heap.size := by rw [World.size_alloc]; have := hb.size; omega
   generalize (keys (L.take j)).length = m at *
   clear he hg ho hb
   go_wp2_with (at_builtin; refine wpList_append_own_src _ rfl (.tmp 14) (.tmp 23) 40 40 rfl w.heap.size 3 i0 (.int .i64 0) 1 8 Tryz.underlying40 hi hz0 hz1 hz2 rfl _ _ _ rfl HW.out _ _ _ rfl HS.out (by simp only [maxLen]; omega) (fitsZ (by omega)) hws ?_; intro v3 w3 o3 g3; have HZ := hid (HG.out _ _ _ HO.out o3 g3); clear o3 g3)
   go_roundw
   case rel => exact ⟨j + 1, by go_num, by omega, HZ.out⟩
   case measure => simp [numOf]; omega
  ·have e1 : decide ((j : Int) < n) = false := decide_eq_false (by omega)
   obtain rfl : j = n := by omega
   have htk : L.take j = L := List.take_of_length_le (by rw [← HN.out]; exact Nat.le_refl _)
   rw [htk] at ho
   obtain ⟨a5, c5, rfl, hr5, -⟩ := ho.rd
   have CST := hid (usset_any wr a5 _ c5 (keys L) (rdi_of_rz hr5 HKW.out) (by rw [keys, List.length_map, ← HN.out]; omega))
   have HB := hid hb
   clear ho hr5 hb htk
   go_wp2_with fail
   refine CST.out.mono ?_
   rintro e w6 h6
   obtain ⟨v6, rfl, ho6⟩ := owz_set h6
   have HO6 := hid (ho6.base HB.out)
   clear h6 ho6
   go_wp2
   go_ret
   exact ⟨_, rfl, HO6.out⟩
theorem hld_take {L : Ro} {j : Nat} {k : Int} {s : Sr} (h : L[j]? = some (k, s)) : hldL (abs (L.take (j + 1))) = hldL (abs (L.take j)) ++ ((bif s.ca.at_ then [s.ca.buf] else []) ++ [s.no.buf]) := by
 rw [List.take_add_one, h, abs, List.map_append, hldL, List.flatMap_append, hldL, abs]
 congr 1
 show _ ++ [] = _
 rw [List.append_nil]
 rfl
theorem hld_length (L : Ro) : (hldL (abs L)).length ≤ 2 * L.length := by
 induction L with
 | nil => exact Nat.le_refl _
 | cons e L ih =>
  have : hldL (abs (e :: L)) = ((bif e.2.ca.at_ then [e.2.ca.buf] else []) ++ [e.2.no.buf]) ++ hldL (abs L) := rfl
  rw [this, List.length_append, List.length_append]
  show _ + 1 + _ ≤ 2 * (L.length + 1)
  cases e.2.ca.at_
  ·show 0 + 1 + _ ≤ _
   omega
  ·show 1 + 1 + _ ≤ _
   omega
theorem rheld_any (h : Df base X w q v L) (hl : L.length ≤ 40) (hk : ∀ z ∈ hldL (abs L), I64 z) :
  Calls Tryz.prog 43 #[.pointer (some ⟨q, 0, none⟩)] w fun e w' => ∃ v', e = .returned v' ∧ OwZ w w' v' (setOf (hldL (abs L))) := by
 obtain ⟨i0, hi, hz0, hz1, hz2⟩ := infoZp
 obtain ⟨a, c, hv, hle, hmx, c0, hat⟩ := h.val
 simp only [maxLen] at hmx
 have HAT := hid hat
 have HD := hid h
 have HKW := hid hk
 have hql := h.lt
 obtain ⟨n, hn⟩ : ∃ n, n = L.length := ⟨_, rfl⟩
 have HN := hid hn
 rw [← hn] at c0 hle hl
 clear h hv hat hn hk
 go_enter Tryz.func43, Tryz.ntmps43
 go_wp2
 go_loopw [3, 4] (fun vv i wr => ∃ j : Nat, i = .int .i64 j ∧ j ≤ n ∧ OwZ w wr vv (hldL (abs (L.take j)))) (fun _ i _ => n - (numOf i).toNat)
 case atStart => exact ⟨0, rfl, by omega, OwZ.nil w⟩
 case round =>
  obtain ⟨j, rfl, hj, ho⟩ := hrel
  have hb := ho.bel
  rw [← hb.cell hql] at c0
  have hkl : (hldL (abs (L.take j))).length ≤ 80 := by
   have h1 := hld_length (L.take j)
   have h2 := List.length_take_le j L
   omega
  by_cases hgo : j < n
  ·have e1 : decide ((j : Int) < n) = true := decide_eq_true (by omega)
   have e2 : (j : Int) < n := by omega
   obtain ⟨⟨k, s⟩, he⟩ : ∃ e, L[j]? = some e := ⟨_, List.getElem?_eq_getElem (by rw [← HN.out]; exact hgo)⟩
   obtain ⟨g, rfl, hg, -⟩ := HAT.out j (k, s) he
   have HC : Hid (∀ u, RowKit.Below w.heap.size w u → u.cell? ⟨q, 0, none⟩ = some (.slice (some ⟨g, 0, none⟩) n c) ∧ u.cell? ⟨g, j * 33 + 13, none⟩ = some (.bool s.ca.at_) ∧ u.cell? ⟨g, j * 33 + 13 + 1, none⟩ = some (.int .i64 s.ca.buf) ∧ u.cell? ⟨g, j * 33 + 23 + 1, none⟩ = some (.int .i64 s.no.buf)) := fun u hu => by
    have hD := HD.out.on hu
    refine ⟨?_, hD.at_ he hg (j := 13) (by omega), hD.at_ he hg (j := 14) (by omega), hD.at_ he hg (j := 24) (by omega)⟩
    rw [hu.cell hql, ← hb.cell hql]
    exact c0
   have HKT := hid (hld_take he)
   obtain ⟨l0, hl0⟩ : ∃ l0, l0 = hldL (abs (L.take j)) := ⟨_, rfl⟩
   rw [← hl0] at HKT ho hkl
   have HO := hid ho
   have hws := hb.size
   obtain ⟨-, c1, c2, c3⟩ := HC.out wr hb
   clear he hg hl0
   generalize s.ca.at_ = b at *
   generalize s.ca.buf = z1 at *
   generalize s.no.buf = z2 at *
   cases b with
   | false =>
    have HG : Hid (∀ vv v' u, OwZ w wr vv l0 → u.ownsRow w.heap.size 3 1 v' (l0.length + 1) (ic l0 ++ ic [z2]) → (wr.alloc (.cells #[.int .i64 z2] 3)).grownBy u vv.ownBlock → OwZ w u v' (hldL (abs (L.take (j + 1))))) := fun vv v' u hv o g => by
     rw [HKT.out]
     exact (hv.alloc _).grown (k := [z2]) rfl o g
    have HS := hid (srcLit wr z2)
    have HW := hid (ho.alloc (.cells #[.int .i64 z2] 3)).own
    have hws2 : w.heap.size ≤ (wr.alloc (.cells #[.int .i64 z2] 3)).heap.size := by rw [World.size_alloc]; omega
    clear ho hb HC
    generalize l0.length = m at *
    go_wp2_with (at_builtin; refine wpList_append_own_src _ rfl (.tmp 35) (.tmp 45) 40 40 rfl w.heap.size 3 i0 (.int .i64 0) 1 8 Tryz.underlying40 hi hz0 hz1 hz2 rfl _ _ _ rfl HW.out _ _ _ rfl HS.out (by simp only [maxLen]; omega) (fitsZ (by omega)) hws2 ?_; intro v3 w3 o3 g3; have HZ := hid (HG.out _ _ _ HO.out o3 g3); clear o3 g3)
    go_roundw
    case rel => exact ⟨j + 1, by go_num, by omega, HZ.out⟩
    case measure => simp [numOf]; omega
   | true =>
    have HG1 : Hid (∀ vv v' u, OwZ w wr vv l0 → u.ownsRow w.heap.size 3 1 v' (l0.length + 1) (ic l0 ++ ic [z1]) → (wr.alloc (.cells #[.int .i64 z1] 3)).grownBy u vv.ownBlock → OwZ w u v' (l0 ++ [z1])) := fun vv v' u hv o g => (hv.alloc _).grown (k := [z1]) rfl o g
    have HG2 : Hid (∀ u vv v' u2, OwZ w u vv (l0 ++ [z1]) → u2.ownsRow w.heap.size 3 1 v' (l0.length + 1 + 1) (ic (l0 ++ [z1]) ++ ic [z2]) → (u.alloc (.cells #[.int .i64 z2] 3)).grownBy u2 vv.ownBlock → OwZ w u2 v' (hldL (abs (L.take (j + 1))))) := fun u vv v' u2 hv o g => by
     rw [HKT.out]
     show OwZ w u2 v' (l0 ++ ([z1] ++ [z2]))
     rw [← List.append_assoc]
     refine (hv.alloc _).grown (k := [z2]) rfl ?_ g
     rw [List.length_append]
     exact o
    have HG3 : Hid (∀ u vv, OwZ w u vv (l0 ++ [z1]) → (u.alloc (.cells #[.int .i64 z2] 3)).ownsRow w.heap.size 3 1 vv (l0.length + 1) (ic (l0 ++ [z1])) ∧ w.heap.size ≤ (u.alloc (.cells #[.int .i64 z2] 3)).heap.size) := fun u vv hv => by
     have := (hv.alloc (.cells #[.int .i64 z2] 3)).own
     rw [List.length_append] at this
     exact ⟨this, by rw [World.size_alloc]; have := hv.bel.size; omega⟩
    have HS := hid (srcLit wr z1)
    have HW := hid (ho.alloc (.cells #[.int .i64 z1] 3)).own
    have hws2 : w.heap.size ≤ (wr.alloc (.cells #[.int .i64 z1] 3)).heap.size := by rw [World.size_alloc]; omega
    clear ho hb
    generalize l0.length = m at *
    go_wp2_with (at_builtin; first | (refine wpList_append_own_src _ rfl (.tmp 23) (.tmp 33) 40 40 rfl w.heap.size 3 i0 (.int .i64 0) 1 8 Tryz.underlying40 hi hz0 hz1 hz2 rfl _ _ _ rfl HW.out _ _ _ rfl HS.out (by simp only [maxLen]; omega) (fitsZ (by omega)) hws2 ?_; intro v3 w3 o3 g3; have HZ := hid (HG1.out _ _ _ HO.out o3 g3); obtain ⟨d0, d1, d2, d3⟩ := HC.out w3 HZ.out.bel; clear o3 g3) | (refine wpList_append_own_src _ rfl (.tmp 35) (.tmp 45) 40 40 rfl w.heap.size 3 i0 (.int .i64 0) 1 8 Tryz.underlying40 hi hz0 hz1 hz2 rfl _ _ _ rfl (HG3.out _ _ HZ.out).1 _ _ _ rfl (srcLit _ _) (by simp only [maxLen]; omega) (fitsZ (by omega)) (HG3.out _ _ HZ.out).2 ?_; intro v4 w4 o4 g4; have HZ4 := hid (HG2.out _ _ _ _ HZ.out o4 g4); clear o4 g4))
    go_roundw
    case rel => exact ⟨j + 1, by go_num, by omega, HZ4.out⟩
    case measure => simp [numOf]; omega
  ·have e1 : decide ((j : Int) < n) = false := decide_eq_false (by omega)
   obtain rfl : j = n := by omega
   have htk : L.take j = L := List.take_of_length_le (by rw [← HN.out]; exact Nat.le_refl _)
   rw [htk] at ho hkl
   obtain ⟨a5, c5, rfl, hr5, -⟩ := ho.rd
   have CST := hid (usset_any wr a5 _ c5 (hldL (abs L)) (rdi_of_rz hr5 HKW.out) (by omega))
   have HB := hid hb
   clear ho hr5 hb htk hkl
   generalize (hldL (abs L)).length = m at *
   go_wp2_with fail
   refine CST.out.mono ?_
   rintro e w6 h6
   obtain ⟨v6, rfl, ho6⟩ := owz_set h6
   have HO6 := hid (ho6.base HB.out)
   clear h6 ho6
   go_wp2
   go_ret
   exact ⟨_, rfl, HO6.out⟩
end
section
def sxb (x : Sx) : List Nat := [x.dm, x.fr, x.rg, x.od, x.pl].flatMap fun z => if 0 < z.n then z.bl else []
theorem not_sxb {x : Sx} {b : Nat} : b ∉ sxb x ↔ x.Off b := by
 have one : ∀ z ∈ [x.dm, x.fr, x.rg, x.od, x.pl], b ∉ sxb x → ∀ y, z.a = some y → 0 < z.n → y.block ≠ b := fun z hz hn y hy h0 e => hn (List.mem_flatMap.2 ⟨z, hz, by rw [if_pos h0]; exact bl_of.2 ⟨y, hy, e⟩⟩)
 constructor
 ·intro h
  exact ⟨one _ (by simp) h, one _ (by simp) h, one _ (by simp) h, one _ (by simp) h, one _ (by simp) h⟩
 ·intro h hm
  obtain ⟨z, hz, hb⟩ := List.mem_flatMap.1 hm
  split at hb
  ·rename_i h0
   obtain ⟨y, hy, e⟩ := bl_of.1 hb
   simp only [List.mem_cons, List.not_mem_nil, or_false] at hz
   rcases hz with rfl | rfl | rfl | rfl | rfl
   ·exact h.dm y hy h0 e
   ·exact h.fr y hy h0 e
   ·exact h.rg y hy h0 e
   ·exact h.od y hy h0 e
   ·exact h.pl y hy h0 e
  ·cases hb
def sbl (L : Ro) : List Nat := L.flatMap fun e => sxb e.2.pe ++ (sxb e.2.ca ++ sxb e.2.no)
theorem not_sbl {L : Ro} {b : Nat} : b ∉ sbl L ↔ ∀ e ∈ L, e.2.Off b := by
 constructor
 ·intro h e he
  have h1 : b ∉ sxb e.2.pe ++ (sxb e.2.ca ++ sxb e.2.no) := fun hm => h (List.mem_flatMap.2 ⟨e, he, hm⟩)
  simp only [List.mem_append, not_or] at h1
  exact ⟨not_sxb.1 h1.1, not_sxb.1 h1.2.1, not_sxb.1 h1.2.2⟩
 ·intro h hm
  obtain ⟨e, he, hb⟩ := List.mem_flatMap.1 hm
  simp only [List.mem_append] at hb
  have h1 := h e he
  rcases hb with hb | hb | hb
  ·exact not_sxb.2 h1.pe hb
  ·exact not_sxb.2 h1.ca hb
  ·exact not_sxb.2 h1.no hb
theorem Sx.Ok.kpz {w w' : World} {x : Sx} {Y : List Nat} (h : x.Ok w) (hk : Kp Y w w') (hX : ∀ b ∈ Y, x.Off b) : x.Ok w' :=
 ⟨h.dm.kp hk (fun y e h0 hm => (hX _ hm).dm y e h0 rfl), h.fr.kp hk (fun y e h0 hm => (hX _ hm).fr y e h0 rfl), h.rg.kp hk (fun y e h0 hm => (hX _ hm).rg y e h0 rfl), h.od.kp hk (fun y e h0 hm => (hX _ hm).od y e h0 rfl), h.pl.kp hk (fun y e h0 hm => (hX _ hm).pl y e h0 rfl)⟩
theorem Sx.Ok.lt {w : World} {x : Sx} (h : x.Ok w) {b : Nat} (hb : w.heap.size ≤ b) : x.Off b := ⟨rdm_off h.dm hb, rdm_off h.fr hb, rdm_off h.rg hb, rdm_off h.od hb, rdm_off h.pl hb⟩
def dfl (B q : Nat) (v : Value) (L : Ro) : List Nat := q :: (v.ownBlock.toList ++ (sbl L).filter fun b => decide (B ≤ b))
theorem mem_dfl {B q : Nat} {v : Value} {L : Ro} {b : Nat} : b ∈ dfl B q v L ↔ b = q ∨ v.ownBlock = some b ∨ (b ∈ sbl L ∧ B ≤ b) := by
 rw [dfl, List.mem_cons, List.mem_append, List.mem_filter, Option.mem_toList]
 simp
def Dq (w0 : World) (q mm : Nat) (F : Fo) : Th := fun w Z => RowKit.Below w0.heap.size w0 w ∧ Fok mm F ∧ w0.heap.size ≤ q ∧ ∃ v L, Df w0.heap.size [] w q v L ∧ abs L = F ∧ Z = dfl w0.heap.size q v L
variable {w0 w w' : World} {q mm : Nat} {F G : Fo} {Z : List Nat} {v : Value} {L : Ro}
theorem dq_ft (w0 : World) (q mm : Nat) (F : Fo) : Ft w0.heap.size (Dq w0 q mm F) := by
 refine ⟨fun {w X} h b hb => ?_, fun {w w' X Y} h hk hY hX => ?_⟩
 ·obtain ⟨_, _, hq, v, L, h1, _, rfl⟩ := h
  rcases mem_dfl.1 hb with rfl | hb | ⟨hb, h2⟩
  ·exact ⟨hq, h1.lt⟩
  ·exact h1.row.lt b hb
  ·refine ⟨h2, ?_⟩
   rcases Nat.lt_or_ge b w.heap.size with h3 | h3
   ·exact h3
   ·exact absurd hb (not_sbl.2 fun e he => ⟨(h1.ok e he).pe.lt h3, (h1.ok e he).ca.lt h3, (h1.ok e he).no.lt h3⟩)
 ·obtain ⟨g1, g2, hq, v, L, h1, h2, rfl⟩ := h
  have hoff : ∀ b ∈ Y, ∀ e ∈ L, e.2.Off b := fun b hb => not_sbl.1 fun hm => hX b (mem_dfl.2 (.inr (.inr ⟨hm, hY b hb⟩))) hb
  exact ⟨g1.trans (hk.below g1.size hY), g2, hq, v, L, ⟨hk.var h1.obj (hX q (mem_dfl.2 (.inl rfl))), hk.row h1.row (fun k hk' => hX k (mem_dfl.2 (.inr (.inl hk')))), h1.ne, fun e he => ⟨(h1.ok e he).pe.kpz hk (fun b hb => (hoff b hb e he).pe), (h1.ok e he).ca.kpz hk (fun b hb => (hoff b hb e he).ca), (h1.ok e he).no.kpz hk (fun b hb => (hoff b hb e he).no)⟩, h1.off⟩, h2, rfl⟩
theorem dq_mono {n : Nat} (h : Dq w0 q mm F w Z) (hn : mm ≤ n) : Dq w0 q n F w Z := by
 obtain ⟨g1, g2, h⟩ := h
 exact ⟨g1, g2.mono hn, h⟩
def cmp (B : Nat) (w : World) (L : Ro) : List Nat := (List.range w.heap.size).filter fun b => decide (B ≤ b ∧ b ∉ sbl L)
theorem mem_cmp {B b : Nat} : b ∈ cmp B w L ↔ b < w.heap.size ∧ B ≤ b ∧ b ∉ sbl L := by simp [cmp]
theorem Df.cmp (h : Df w0.heap.size [] w q v L) : Df w0.heap.size (cmp w0.heap.size w L) w q v L := ⟨h.obj, h.row, h.ne, h.ok, fun e he P hP => by
 rw [List.mem_cons, List.mem_append] at hP
 rcases hP with rfl | hP | hP
 ·exact h.off e he _ (by simp)
 ·exact h.off e he P (by simp [hP])
 ·exact not_sbl.1 (mem_cmp.1 hP).2.2 e he⟩
theorem dqx {n : Nat} {v' : Value} {L' : Ro} (g1 : RowKit.Below w0.heap.size w0 w) (hq : w0.heap.size ≤ q) (h : Df w0.heap.size [] w q v L) (h' : Df w0.heap.size (cmp w0.heap.size w L) w' q v' L') (ha : abs L' = G) (hk : Kp (q :: v.ownBlock.toList) w w') (hv : v'.ownBlock = v.ownBlock ∨ ∀ g, v'.ownBlock = some g → w.heap.size ≤ g) (hok : Fok n G) : Nx (Dq w0 q n G) (dfl w0.heap.size q v L) w w' := by
 have hX : ∀ b ∈ q :: v.ownBlock.toList, b ∈ dfl w0.heap.size q v L := fun b hb => by
  rcases List.mem_cons.1 hb with rfl | hb
  ·exact mem_dfl.2 (.inl rfl)
  ·exact mem_dfl.2 (.inr (.inl (by simpa using hb)))
 have hlo : ∀ b ∈ q :: v.ownBlock.toList, w0.heap.size ≤ b := fun b hb => by
  rcases List.mem_cons.1 hb with rfl | hb
  ·exact hq
  ·exact (h.row.lt b (by simpa using hb)).1
 refine ⟨dfl w0.heap.size q v' L', ⟨g1.trans (hk.below g1.size hlo), hok, hq, v', L', ⟨h'.obj, h'.row, h'.ne, h'.ok, fun e he P hP => h'.off e he P (by simp only [List.append_nil] at hP; rw [List.mem_cons] at hP ⊢; exact hP.imp id (fun h => List.mem_append_left _ h))⟩, ha, rfl⟩, hk.mono (fun b hb _ => hX b hb), fun b hb => ?_⟩
 rcases mem_dfl.1 hb with rfl | hb | ⟨hb, h2⟩
 ·exact .inl (mem_dfl.2 (.inl rfl))
 ·rcases hv with h3 | h3
  ·exact .inl (mem_dfl.2 (.inr (.inl (by rw [← h3]; exact hb))))
  ·exact .inr (h3 b hb)
 ·rcases Nat.lt_or_ge b w.heap.size with h3 | h3
  ·by_cases h4 : b ∈ sbl L
   ·exact .inl (mem_dfl.2 (.inr (.inr ⟨h4, h2⟩)))
   ·exact absurd hb (not_sbl.2 fun e he => h'.off e he b (by rw [List.mem_cons, List.mem_append]; exact .inr (.inr (mem_cmp.2 ⟨h3, h2, h4⟩))))
  ·exact .inr h3
theorem cmp_lt (B : Nat) (w : World) (L : Ro) : ∀ P ∈ cmp B w L, P < w.heap.size := fun _ hP => (mem_cmp.1 hP).1
theorem kp_q {X : List Nat} (h : Kp X w w') : Kp (q :: X) w w' := h.mono (fun _ hb _ => List.mem_cons_of_mem _ hb)
theorem dq_new (w0 w : World) (hb : Below w0.heap.size w0 w) : Dq w0 w.heap.size 0 [] (w.alloc (.cells #[.slice none 0 0] 28)) [w.heap.size] :=
 ⟨Below.on hb ((Below.refl _ _).alloc (Nat.le_refl _) _), fok_nil, hb.size, .slice none 0 0, [], ⟨heap_alloc_new w _, World.ownsRow_nil _ _ _ _, by simp [Value.ownBlock], (fun e h => by cases h), (fun e h => by cases h)⟩, rfl, by simp [dfl, sbl, Value.ownBlock]⟩
theorem dq_add (_hm : mm ≤ 900) (id : Int) (hi : Bt id) : Ct Tryz.prog 28 #[.pointer (some ⟨q, 0, none⟩), .int .i64 id] (Dq w0 q mm F) (Dq w0 q (mm + 1) (addF F id)) (.int .i64 (addE F id : Nat)) := fun w Z h => by
 obtain ⟨g1, g4, hq, v, L, hD, rfl, rfl⟩ := h
 exact (radd_any hD.cmp (cmp_lt _ _ _) g1.size (by rw [← abs_length L]; exact g4.inv.len) id).mono fun _ _ ⟨h1, v', L', h2, h3, h4, h5⟩ => ⟨h1, dqx g1 hq hD h2 h3 h4 h5 (g4.add hi)⟩
theorem dq_drp (hm : mm ≤ 900) (id : Int) : Ct Tryz.prog 30 #[.pointer (some ⟨q, 0, none⟩), .int .i64 id] (Dq w0 q mm F) (Dq w0 q (mm + 1) (drpF F id)) (.int .i64 (drpE F id : Nat)) := fun w Z h => by
 obtain ⟨g1, g4, hq, v, L, hD, rfl, rfl⟩ := h
 exact (rdropf_any hD.cmp (cmp_lt _ _ _) g1.size g4.inv g4.szf hm id).mono fun _ _ ⟨h1, v', L', h2, h3, h4, h5⟩ => ⟨h1, dqx g1 hq hD h2 h3 h4 h5 (g4.drp id)⟩
theorem dq_sub (hm : mm ≤ 900) (id y : Int) : Ct Tryz.prog 31 #[.pointer (some ⟨q, 0, none⟩), .int .i64 id, .int .i64 y] (Dq w0 q mm F) (Dq w0 q (mm + 1) (subFB F id y)) (.int .i64 (subEB F id y : Nat)) := fun w Z h => by
 obtain ⟨g1, g4, hq, v, L, hD, rfl, rfl⟩ := h
 have hc := rsub_any hD.cmp (cmp_lt _ _ _) g4.inv g4.szf hm id y
 rw [g4.inv.subE, g4.inv.subF] at hc
 exact hc.mono fun _ _ ⟨h1, L', h2, h3, h4⟩ => ⟨h1, dqx g1 hq hD h2 h3 (kp_q h4) (.inl rfl) (by rw [← g4.inv.subF]; exact g4.sub id y)⟩
theorem dq_uns (hm : mm ≤ 900) (id : Int) : Ct Tryz.prog 33 #[.pointer (some ⟨q, 0, none⟩), .int .i64 id] (Dq w0 q mm F) (Dq w0 q (mm + 1) (unsF F id)) (.int .i64 (unsE F id : Nat)) := fun w Z h => by
 obtain ⟨g1, g4, hq, v, L, hD, rfl, rfl⟩ := h
 exact (runsub_any hD.cmp (cmp_lt _ _ _) g4.inv g4.szf hm id).mono fun _ _ ⟨h1, L', h2, h3, h4⟩ => ⟨h1, dqx g1 hq hD h2 h3 (kp_q h4) (.inl rfl) (g4.uns id)⟩
theorem dq_pos (hm : mm ≤ 900) (id x y : Int) : Ct Tryz.prog 36 #[.pointer (some ⟨q, 0, none⟩), .int .i64 id, .int .i64 x, .int .i64 y] (Dq w0 q mm F) (Dq w0 q (mm + 1) (posF F id x y)) (.int .i64 (unsE F id : Nat)) := fun w Z h => by
 obtain ⟨g1, g4, hq, v, L, hD, rfl, rfl⟩ := h
 exact (rpos_any hD.cmp (cmp_lt _ _ _) g4.inv g4.szf hm id x y).mono fun _ _ ⟨h1, L', h2, h3, h4⟩ => ⟨h1, dqx g1 hq hD h2 h3 (kp_q h4) (.inl rfl) (g4.posn id x y)⟩
theorem dq_put (hm : mm ≤ 900) (id y : Int) (b : Nat) (hb : b ≤ 1) : Ct Tryz.prog 37 #[.pointer (some ⟨q, 0, none⟩), .int .i64 id, .int .i64 y, .int .i64 b] (Dq w0 q mm F) (Dq w0 q (mm + 1) (putF F id y b)) (.int .i64 (putE F id y b : Nat)) := fun w Z h => by
 obtain ⟨g1, g4, hq, v, L, hD, rfl, rfl⟩ := h
 exact (rputf_any hD.cmp (cmp_lt _ _ _) g4.inv g4.szf hm id y b hb).mono fun _ _ ⟨h1, L', h2, h3, h4⟩ => ⟨h1, dqx g1 hq hD h2 h3 (kp_q h4) (.inl rfl) (g4.put id y b)⟩
theorem dq_com (hm : mm ≤ 900) (id : Int) (w : World) (Z : List Nat) (h : Dq w0 q mm F w Z) : Calls Tryz.prog 40 #[.pointer (some ⟨q, 0, none⟩), .int .i64 id] w fun e w' => (∃ a c, e = .returned (.tuple #[.slice a (comB F id).2.length c, .int .i64 (hasE F id : Nat)]) ∧ Rz w' a (comB F id).2.length c (comB F id).2) ∧ Nx (Dq w0 q (mm + 1) (comB F id).1) Z w w' := by
 obtain ⟨g1, g4, hq, v, L, hD, rfl, rfl⟩ := h
 have hc := rcommit_any hD.cmp (cmp_lt _ _ _) g4.inv g4.nof g4.szf hm id
 rw [g4.inv.comF] at hc
 refine hc.mono fun _ _ ⟨v', L', h1, h2, h3, h4, h5⟩ => ?_
 obtain ⟨a, c, rfl, hr⟩ := own_rz0 h5
 exact ⟨⟨a, c, h1, hr⟩, dqx g1 hq hD h2 h3 (kp_q h4) (.inl rfl) (by rw [← g4.inv.comF]; exact g4.com 41 id)⟩
end
section
structure DAt (w0 : World) (q mm : Nat) (F : Fo) (id : Int) (g P : Nat) (s : Sf) (w : World) (Z : List Nat) : Prop where
 lt : g < w.heap.size
 mem : g ∈ Z
 fz : ∀ j, w.frozen? ⟨g, j, none⟩ = false
 idc : w.cell? ⟨g, P, none⟩ = some (.int .i64 id)
 par : w.cell? ⟨g, P + 1, none⟩ = some (.int .i64 s.par)
 syn : w.cell? ⟨g, P + 2, none⟩ = some (.bool s.syn)
 att : ∃ b, w.cell? ⟨g, P + 3, none⟩ = some (.bool b)
 buf : ∃ b, w.cell? ⟨g, P + 3 + 1, none⟩ = some (.int .i64 b)
 dm : ∃ l : Sl, w.cell? ⟨g, P + 3 + 2, none⟩ = some (.slice l.a l.n l.c) ∧ RdM 4 w l.a l.n l.c l.l ∧ l.l = s.pe.dm ∧ (mm ≤ 900 → l.n ≤ 1000)
 fr : ∃ l : Sl, w.cell? ⟨g, P + 3 + 3, none⟩ = some (.slice l.a l.n l.c) ∧ RdM 1 w l.a l.n l.c l.l ∧ l.l = s.pe.fr ∧ (mm ≤ 900 → l.n ≤ 1000)
 inp : ∃ b, w.cell? ⟨g, P + 3 + 4, none⟩ = some (.bool b)
 all : ∃ b, w.cell? ⟨g, P + 3 + 5, none⟩ = some (.bool b)
 rg : ∃ l : Sl, w.cell? ⟨g, P + 3 + 6, none⟩ = some (.slice l.a l.n l.c)
 nf : ∃ l : Sl, w.cell? ⟨g, P + 23 + 3, none⟩ = some (.slice l.a l.n l.c) ∧ RdM 1 w l.a l.n l.c l.l ∧ l.l = s.no.fr ∧ ∀ y, l.a = some y → 0 < l.n → y.block ≠ g ∧ (y.block ∈ Z ∨ y.block < w0.heap.size)
 wsyn : ∀ (u : World) (b : Bool), Below w.heap.size w u → s.par ≠ 0 → Nx (Dq w0 q (mm + 1) (synF F id b)) Z w (u.setCell ⟨g, P + 2, none⟩ (.bool b))
 watt : ∀ (u : World) (z : Int), Below w.heap.size w u → Bt z → Nx (Dq w0 q (mm + 1) (upd F id (attS z))) Z w ((u.setCell ⟨g, P + 3, none⟩ (.bool true)).setCell ⟨g, P + 3 + 1, none⟩ (.int .i64 z))
 wdm : ∀ (u : World) (l : Sl) (r : List Int), Below w.heap.size w u → RdM 4 u l.a l.n l.c l.l → (∀ y, l.a = some y → 0 < l.n → w.heap.size ≤ y.block) → l.l = s.pe.dm ++ [r] → Nx (Dq w0 q (mm + 1) (upd F id (dmgS r))) Z w (u.setCell ⟨g, P + 3 + 2, none⟩ (.slice l.a l.n l.c))
 wfr : ∀ (u : World) (l : Sl) (z : Int), Below w.heap.size w u → RdM 1 u l.a l.n l.c l.l → (∀ y, l.a = some y → 0 < l.n → w.heap.size ≤ y.block) → l.l = s.pe.fr ++ [[z]] → Nx (Dq w0 q (mm + 1) (upd F id (frmS z))) Z w (u.setCell ⟨g, P + 3 + 3, none⟩ (.slice l.a l.n l.c))
 wall : ∀ (u : World) (M : List (List Int)), Below w.heap.size w u → M.length ≤ 20 → Nx (Dq w0 q (mm + 1) (upd F id (inpS true M))) Z w (((u.setCell ⟨g, P + 3 + 4, none⟩ (.bool true)).setCell ⟨g, P + 3 + 5, none⟩ (.bool true)).setCell ⟨g, P + 3 + 6, none⟩ (.slice none 0 0))
 wreg : ∀ (u : World) (l : Sl), Below w.heap.size w u → RdM 4 u l.a l.n l.c l.l → (∀ y, l.a = some y → 0 < l.n → y.block < w0.heap.size) → l.l.length ≤ 20 → Nx (Dq w0 q (mm + 1) (upd F id (inpS false l.l))) Z w ((((u.setCell ⟨g, P + 3 + 4, none⟩ (.bool true)).setCell ⟨g, P + 3 + 5, none⟩ (.bool false)).setCell ⟨g, P + 3 + 6, none⟩ (.slice none 0 0)).setCell ⟨g, P + 3 + 6, none⟩ (.slice l.a l.n l.c))
 wtk : ∀ (u : World), Below w.heap.size w u → Nx (Dq w0 q (mm + 1) (upd F id takS)) Z w (u.setCell ⟨g, P + 23 + 3, none⟩ (.slice none 0 0))
variable {w0 w w' : World} {q mm : Nat} {F G : Fo} {Z : List Nat} {v : Value} {L : Ro}
theorem Dq.s (h : Dq w0 q mm F w Z) (id : Int) : ∃ r, Calls Tryz.prog 26 #[.pointer (some ⟨q, 0, none⟩), .int .i64 id] w (fun e w' => e = .returned (.pointer r) ∧ w' = w) ∧ ((r = none ∧ gt F id = none) ∨ ∃ g P s, r = some ⟨g, P, none⟩ ∧ gt F id = some s ∧ DAt w0 q mm F id g P s w Z) := by
 obtain ⟨g1, g4, hq, v, L, hD, rfl, rfl⟩ := h
 have hc := rs_any hD id
 cases hs : gt L id with
 | none =>
  refine ⟨none, hc.mono fun _ _ ⟨r, h1, h2, h3⟩ => ⟨by rw [h1, h2.no hs], h3⟩, .inl ⟨rfl, by rw [gt_abs, hs]; rfl⟩⟩
 | some s =>
  have hnd : (keys L).Nodup := by rw [← abs_keys]; exact g4.inv.nod
  obtain ⟨i, hi, hah⟩ := at_key hs
  obtain ⟨a, c, _, _, _, _, hat⟩ := hD.val
  obtain ⟨g, _, hg, _⟩ := hat i _ hi
  have hX := hD.cmp
  have fin : ∀ (u : World) (f : Sf → Sf) (s' : Sr) (W : World), Below w.heap.size w u → s'.f = f s.f → Df w0.heap.size (cmp w0.heap.size w L) W q v (L.set i (id, s')) → Kp [g] u W → Fok (mm + 1) (upd (abs L) id f) → Nx (Dq w0 q (mm + 1) (upd (abs L) id f)) (dfl w0.heap.size q v L) w W := fun u f s' W hb hf h1 h2 h3 =>
   dqx g1 hq hD h1 (abs_turn hnd hi hs f s' hf) (kp_q ((kp_of_below hb v.ownBlock.toList).trans h2 (fun b hb _ => by rw [hg]; simpa using hb))) (.inl rfl) h3
  have hok := hD.ok _ (Df.mem hi)
  have hof := hD.off _ (Df.mem hi)
  have hlen : mm ≤ 900 → s.pe.Len 1000 := fun hm => (zs_len (g4.szf id s.f (by rw [gt_abs, hs]; rfl)) hok hm).1
  have hnew : ∀ (u : World) (l : Sl), (∀ y, l.a = some y → 0 < l.n → w.heap.size ≤ y.block) → ∀ P ∈ q :: (v.ownBlock.toList ++ cmp w0.heap.size w L), ∀ y, l.a = some y → 0 < l.n → y.block ≠ P := fun u l hl P hP y hy h0 e => by
   have h1 := hl y hy h0
   have h2 : P < w.heap.size := by
    rw [List.mem_cons, List.mem_append] at hP
    rcases hP with rfl | hP | hP
    ·exact hD.lt
    ·exact (hD.row.lt P (by simpa using hP)).2
    ·exact (mem_cmp.1 hP).1
   omega
  have hold : ∀ (l : Sl), (∀ y, l.a = some y → 0 < l.n → y.block < w0.heap.size) → ∀ P ∈ q :: (v.ownBlock.toList ++ cmp w0.heap.size w L), ∀ y, l.a = some y → 0 < l.n → y.block ≠ P := fun l hl P hP y hy h0 e => by
   have h1 := hl y hy h0
   have h2 : w0.heap.size ≤ P := by
    rw [List.mem_cons, List.mem_append] at hP
    rcases hP with rfl | hP | hP
    ·exact hq
    ·exact (hD.row.lt P (by simpa using hP)).1
    ·exact (mem_cmp.1 hP).2.1
   omega
  refine ⟨some ⟨g, i * 33, none⟩, hc.mono fun _ _ ⟨r, h1, h2, h3⟩ => ⟨?_, h3⟩, .inr ⟨g, i * 33, s.f, rfl, by rw [gt_abs, hs]; rfl, ?_⟩⟩
  ·obtain ⟨g', i', h4, h5, h6⟩ := h2.ys hs
   rw [hg] at h5
   cases h5
   have : i' = i := by
    have hl1 := (List.getElem?_eq_some_iff.1 hi).1
    have hl2 := (List.getElem?_eq_some_iff.1 h6).1
    rcases Nat.lt_or_ge i' i with h7 | h7
    ·exact absurd rfl (hah i' _ h7 h6)
    ·rcases Nat.lt_or_ge i i' with h8 | h8
     ·have k1 : (keys L)[i]? = some id := by rw [keys, List.getElem?_map, hi]; rfl
      have k2 : (keys L)[i']? = some id := by rw [keys, List.getElem?_map, h6]; rfl
      exact (((List.getElem?_inj (by rw [keys, List.length_map]; exact hl1) hnd).1 (by rw [k1, k2]))).symm
     ·omega
   rw [h1, h4, this]
  ·have ca : ∀ {j : Nat}, j < 33 → w.cell? ⟨g, i * 33 + j, none⟩ = (scs (id, s))[j]? := fun hj => hD.at_ hi hg hj
   refine ⟨(hD.glt hg).2, mem_dfl.2 (.inr (.inl hg)), hD.fz hg, ca (j := 0) (by omega), ca (j := 1) (by omega), ca (j := 2) (by omega), ⟨_, ca (j := 3) (by omega)⟩, ⟨_, ca (j := 4) (by omega)⟩, ⟨s.pe.dm, ca (j := 5) (by omega), hok.pe.dm, rfl, fun hm => (hlen hm).1⟩, ⟨s.pe.fr, ca (j := 6) (by omega), hok.pe.fr, rfl, fun hm => (hlen hm).2.1⟩, ⟨_, ca (j := 7) (by omega)⟩, ⟨_, ca (j := 8) (by omega)⟩, ⟨s.pe.rg, ca (j := 9) (by omega)⟩, ⟨s.no.fr, ca (j := 26) (by omega), hok.no.fr, rfl, fun y hy h0 => ⟨(hof g (by simp [hg])).no.fr y hy h0, by
    rcases Nat.lt_or_ge y.block w0.heap.size with h9 | h9
    ·exact .inr h9
    ·refine .inl (mem_dfl.2 (.inr (.inr ⟨Classical.byContradiction fun hn => ?_, h9⟩)))
     exact (not_sbl.1 hn _ (Df.mem hi)).no.fr y hy h0 rfl⟩⟩, fun u b hb hp => ?_, fun u z hb hz => ?_, fun u l r hb hl hn he => ?_, fun u l z hb hl hn he => ?_, fun u M hb hM => ?_, fun u l hb hl ho hM => ?_, fun u hb => ?_⟩
   ·obtain ⟨h1, h2⟩ := (hX.on hb).setSyn hi hg b
    have h3 := fin u (fun t => { t with syn := b }) _ _ hb rfl h1 h2
    have e1 : upd (abs L) id (fun t => { t with syn := b }) = synF (abs L) id b := by
     rw [upd, synF, gt_abs, hs]
     show st (abs L) id _ = if s.f.par = 0 then _ else _
     rw [if_neg hp]
    rw [e1] at h3
    exact h3 (g4.syn id b)
   ·obtain ⟨h1, h2⟩ := (hX.on hb).setAtt hi hg z
    exact fin u _ _ _ hb (attR_f z s) h1 h2 (g4.att id hz)
   ·obtain ⟨h1, h2⟩ := (hX.on hb).setDm hi hg l hl (hnew u l hn)
    exact fin u _ _ _ hb (dmgR_f he) h1 h2 (g4.dmg id r)
   ·obtain ⟨h1, h2⟩ := (hX.on hb).setFr hi hg l hl (hnew u l hn)
    exact fin u _ _ _ hb (frmR_f he) h1 h2 (g4.frm id z)
   ·obtain ⟨h1, h2⟩ := (hX.on hb).setIn hi hg true sl0 (RdM.nil _ _) (fun P _ y hy => by cases hy)
    exact fin u _ _ _ hb (inpR_f (m := M) rfl) h1 h2 (g4.inp id true hM)
   ·obtain ⟨h1, h2⟩ := (hX.on hb).setIn hi hg false sl0 (RdM.nil _ _) (fun P _ y hy => by cases hy)
    have hi2 : (L.set i (id, inpR false sl0 s))[i]? = some (id, inpR false sl0 s) := by rw [List.getElem?_set_self (List.getElem?_eq_some_iff.1 hi).1]
    have hok2 := h1.ok _ (Df.mem hi2)
    have hof2 := h1.off _ (Df.mem hi2)
    have hl2 := hl.kp h2 (fun y hy h0 hm => by
     have := ho y hy h0
     have := (hD.glt hg).1
     simp only [List.mem_singleton] at hm
     omega)
    obtain ⟨h3, h4⟩ := h1.set hi2 hg (j := 9) (by omega) (.slice l.a l.n l.c) (inpR false l s) rfl ⟨⟨hok2.pe.dm, hok2.pe.fr, hl2, hok2.pe.od, hok2.pe.pl⟩, hok2.ca, hok2.no⟩ (fun P hP => ⟨⟨(hof2 P hP).pe.dm, (hof2 P hP).pe.fr, hold l ho P hP, (hof2 P hP).pe.od, (hof2 P hP).pe.pl⟩, (hof2 P hP).ca, (hof2 P hP).no⟩)
    rw [List.set_set] at h3
    exact fin u _ _ _ hb (inpR_f (a := false) (m := l.l) rfl) h3 (h2.trans h4 (fun b hb _ => hb)) (g4.inp id false hM)
   ·obtain ⟨h1, h2⟩ := (hX.on hb).setTak hi hg
    exact fin u _ _ _ hb (takR_f s) h1 h2 (g4.tak id)
end
end Go.Proofs.YtdgknofpkafppaaGreatDoor
