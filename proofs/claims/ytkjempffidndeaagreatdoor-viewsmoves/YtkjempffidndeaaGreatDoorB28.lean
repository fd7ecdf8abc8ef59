/- Lemmas that the proof leans on. -/
import Derived.Test.YtkjempffidndeaaGreatDoorB27
namespace Go.Proofs.YtkjempffidndeaaGreatDoor
open Go Go.RowKit
open List renaming getElem_toArray → lqA, getElem_cons_zero → lqB, getElem_cons_succ → lqC, setIfInBounds_toArray → lqD, set_cons_zero → lqE, set_cons_succ → lqF
set_option maxRecDepth 100000
set_option maxHeartbeats 1000000
section
variable {base : Nat} {X : List Nat} {w : World} {q : Nat} {v : Value} {L : Ro}
theorem own_form {w : World} {base e size n g : Nat} {v : Value} {xs : List Value} (h : w.ownsRow base e size v n xs) (hg : v.ownBlock = some g) : ∃ c, v = .slice (some ⟨g, 0, none⟩) n c := by
 rcases h.2 with ⟨rfl, _⟩ | ⟨g', cap, cur, rfl, _⟩
 ·cases hg
 ·cases hg
  exact ⟨cap, rfl⟩
theorem Df.fz (h : Df base X w q v L) {g : Nat} (hg : v.ownBlock = some g) (k : Nat) : w.frozen? ⟨g, k, none⟩ = false := by
 have hr := h.row
 obtain ⟨c, rfl⟩ := own_form hr hg
 exact hr.frozenAt k
theorem Df.glt (h : Df base X w q v L) {g : Nat} (hg : v.ownBlock = some g) : base ≤ g ∧ g < w.heap.size := h.row.lt g hg
theorem mem_set {L : Ro} {i : Nat} {e x : Int × Sr} (h : x ∈ L.set i e) : x = e ∨ x ∈ L := by
 rcases List.mem_or_eq_of_mem_set h with h | h
 ·exact .inr h
 ·exact .inl h
theorem Df.set (h : Df base X w q v L) {i g : Nat} {id : Int} {s : Sr} (hi : L[i]? = some (id, s)) (hg : v.ownBlock = some g) {j : Nat} (hj : j < 33) (u : Value) (s' : Sr) (hs : scs (id, s') = (scs (id, s)).set j u) (ok : s'.Ok w) (off : ∀ P ∈ q :: (v.ownBlock.toList ++ X), s'.Off P) :
  Df base X (w.setCell ⟨g, i * 33 + j, none⟩ u) q v (L.set i (id, s')) ∧ Kp [g] w (w.setCell ⟨g, i * 33 + j, none⟩ u) := by
 have hne : q ≠ g := fun e => h.ne (by rw [hg, e])
 have hk : Kp [g] w (w.setCell ⟨g, i * 33 + j, none⟩ u) := (Kp.refl [g] w).set ⟨g, i * 33 + j, none⟩ (by simp) u
 have hgm : g ∈ q :: (v.ownBlock.toList ++ X) := by simp [hg]
 refine ⟨⟨?_, ?_, h.ne, fun e he => ?_, fun e he => ?_⟩, hk⟩
 ·rw [heap_setCell_other _ _ _ _ hne]
  exact h.obj
 ·have hr := h.row
  obtain ⟨c, hv⟩ := own_form hr hg
  subst hv
  have := (hr.stored (i * 33 + j) u).1
  rw [rcs_set hi hj u (id, s') hs, List.length_set]
  exact this
 ·rcases mem_set he with rfl | he
  ·exact ok.kpo (off g hgm) hk
  ·exact (h.ok e he).kpo (h.off e he g hgm) hk
 ·rcases mem_set he with rfl | he
  ·exact off
  ·exact h.off e he
theorem Df.mem {i : Nat} {e : Int × Sr} (hi : L[i]? = some e) : e ∈ L := List.mem_of_getElem? hi
def Sl.Far (x : Sl) (Y : List Nat) : Prop := ∀ P ∈ Y, ∀ y, x.a = some y → 0 < x.n → y.block ≠ P
def ordR (l : Sl) (s : Sr) : Sr := { s with pe := { s.pe with ord := true, od := l } }
theorem ordR_f (l : Sl) (s : Sr) : (ordR l s).f = ordS l.l s.f := rfl
theorem order_any (h : Df base X w q v L) {i g : Nat} {id : Int} {s : Sr} (hi : L[i]? = some (id, s)) (hg : v.ownBlock = some g) (l : Sl) (hl : RdM 1 w l.a l.n l.c l.l) (hf : l.Far (q :: (v.ownBlock.toList ++ X))) :
  Calls Tryz.prog 83 #[.pointer (some ⟨g, i * 33, none⟩), .slice l.a l.n l.c] w fun e w' => e = .returned undef ∧ Df base X w' q v (L.set i (id, ordR l s)) ∧ Kp [g] w w' := by
 have hok := h.ok _ (Df.mem hi)
 have hof := h.off _ (Df.mem hi)
 obtain ⟨h1, k1⟩ := h.set hi hg (j := 10) (by omega) (.bool true) { s with pe := { s.pe with ord := true } } rfl ⟨⟨hok.pe.dm, hok.pe.fr, hok.pe.rg, hok.pe.od, hok.pe.pl⟩, hok.ca, hok.no⟩ (fun P hP => ⟨⟨(hof P hP).pe.dm, (hof P hP).pe.fr, (hof P hP).pe.rg, (hof P hP).pe.od, (hof P hP).pe.pl⟩, (hof P hP).ca, (hof P hP).no⟩)
 have hi1 : (L.set i (id, ({ s with pe := { s.pe with ord := true } } : Sr)))[i]? = some (id, { s with pe := { s.pe with ord := true } }) := by
  rw [List.getElem?_set_self (List.getElem?_eq_some_iff.1 hi).1]
 have hok1 := h1.ok _ (Df.mem hi1)
 have hof1 := h1.off _ (Df.mem hi1)
 have hgm : g ∈ q :: (v.ownBlock.toList ++ X) := by simp [hg]
 have hl1 : RdM 1 (w.setCell ⟨g, i * 33 + 10, none⟩ (.bool true)) l.a l.n l.c l.l := hl.kp k1 (fun x hx hn hm => by
  simp only [List.mem_cons, List.not_mem_nil, or_false] at hm
  exact hf g hgm x hx hn hm)
 obtain ⟨h2, k2⟩ := h1.set hi1 hg (j := 11) (by omega) (.slice l.a l.n l.c) (ordR l s) rfl ⟨⟨hok1.pe.dm, hok1.pe.fr, hok1.pe.rg, hl1, hok1.pe.pl⟩, hok1.ca, hok1.no⟩ (fun P hP => ⟨⟨(hof1 P hP).pe.dm, (hof1 P hP).pe.fr, (hof1 P hP).pe.rg, hf P hP, (hof1 P hP).pe.pl⟩, (hof1 P hP).ca, (hof1 P hP).no⟩)
 rw [List.set_set] at h2
 have HF := hid h2
 have HK := hid (k1.trans k2 (fun k hk _ => hk))
 have c1 : w.cell? ⟨g, i * 33 + 3 + 7, none⟩ = some (.bool s.pe.ord) := h.at_ hi hg (j := 10) (by omega)
 have f1 := h.fz hg (i * 33 + 3 + 7)
 have c2 : (w.setCell ⟨g, i * 33 + 3 + 7, none⟩ (.bool true)).cell? ⟨g, i * 33 + 3 + 8, none⟩ = some (.slice s.pe.od.a s.pe.od.n s.pe.od.c) := h1.at_ hi1 hg (j := 11) (by omega)
 have f2 : (w.setCell ⟨g, i * 33 + 3 + 7, none⟩ (.bool true)).frozen? ⟨g, i * 33 + 3 + 8, none⟩ = false := h1.fz hg (i * 33 + 3 + 8)
 clear h h1 h2 hl hl1 hf hok hof hok1 hof1 k1 k2 hi hi1 hgm hg
 go_enter Tryz.func83, Tryz.ntmps83
 go_wp2
 go_end0
 exact ⟨rfl, HF.out, HK.out⟩
end
section
variable {base : Nat} {X : List Nat} {w : World} {q : Nat} {v : Value} {L : Ro}
def plR (l : Sl) (s : Sr) : Sr := { s with pe := { s.pe with pl := l } }
theorem plR_f {l : Sl} {s : Sr} {c : List Int} (h : l.l = put1 s.pe.pl.l c) : (plR l s).f = plcS c s.f := by
 show Sf.mk _ _ _ _ _ = Sf.mk _ _ _ _ _
 rw [show (plR l s).pe.q = { s.pe.q with pl := put1 s.pe.q.pl c } by rw [← show l.l = put1 s.pe.q.pl c from h]; rfl]
 rfl
theorem Df.blk (h : Df base X w q v L) (hX : ∀ P ∈ X, P < w.heap.size) : ∀ P ∈ q :: (v.ownBlock.toList ++ X), P < w.heap.size := fun P hP => by
 rcases List.mem_cons.1 hP with rfl | hP
 ·exact h.lt
 ·rcases List.mem_append.1 hP with hP | hP
  ·exact (h.glt (g := P) (by simpa using hP)).2
  ·exact hX P hP
theorem far_new {x : Sl} {B : Nat} (h : ∀ y, x.a = some y → B ≤ y.block) {Y : List Nat} (hY : ∀ P ∈ Y, P < B) : x.Far Y := fun P hP y hy _ e => by
 have h1 := h y hy
 have h2 := hY P hP
 omega
theorem Df.setPl (h : Df base X w q v L) {i g : Nat} {id : Int} {s : Sr} (hi : L[i]? = some (id, s)) (hg : v.ownBlock = some g) (l : Sl) (hl : RdM 3 w l.a l.n l.c l.l) (hf : l.Far (q :: (v.ownBlock.toList ++ X))) :
  Df base X (w.setCell ⟨g, i * 33 + 12, none⟩ (.slice l.a l.n l.c)) q v (L.set i (id, plR l s)) ∧ Kp [g] w (w.setCell ⟨g, i * 33 + 12, none⟩ (.slice l.a l.n l.c)) := by
 have hok := h.ok _ (Df.mem hi)
 have hof := h.off _ (Df.mem hi)
 exact h.set hi hg (j := 12) (by omega) (.slice l.a l.n l.c) (plR l s) rfl ⟨⟨hok.pe.dm, hok.pe.fr, hok.pe.rg, hok.pe.od, hl⟩, hok.ca, hok.no⟩ (fun P hP => ⟨⟨(hof P hP).pe.dm, (hof P hP).pe.fr, (hof P hP).pe.rg, (hof P hP).pe.od, hf P hP⟩, (hof P hP).ca, (hof P hP).no⟩)
theorem dplace_any (h : Df base X w q v L) (hX : ∀ P ∈ X, P < w.heap.size) {i g : Nat} {id : Int} {s : Sr} (hi : L[i]? = some (id, s)) (hg : v.ownBlock = some g) (hn : s.pe.pl.n ≤ 900000) (z0 z1 z2 : Int) :
  Calls Tryz.prog 86 #[.pointer (some ⟨g, i * 33, none⟩), .agg #[.int .i64 z0, .int .i64 z1, .int .i64 z2]] w fun e w' => e = .returned undef ∧ ∃ l : Sl, l.l = put1 s.pe.pl.l [z0, z1, z2] ∧ Df base X w' q v (L.set i (id, plR l s)) ∧ Kp [g] w w' := by
 have HD := hid h
 have HX := hid hX
 have HI := hid hi
 have HG := hid hg
 have HOK := hid (h.ok _ (Df.mem hi)).pe.pl
 have hgl := (h.glt hg).2
 obtain ⟨W, hW⟩ : ∃ W, W = w.alloc (.cells #[.int .i64 z0, .int .i64 z1, .int .i64 z2] 46) := ⟨_, rfl⟩
 have hbW : RowKit.Below w.heap.size w W := by rw [hW]; exact bel_new _ _
 have hk := bk_new w #[.int .i64 z0, .int .i64 z1, .int .i64 z2] 46
 rw [← hW] at hk
 have HB := hid hbW
 have HK := hid hk
 have HW := hid hW
 clear h hX hi hg hbW hk
 go_enter Tryz.func86, Tryz.ntmps86
 go_upto_region 1 with fail
 rw [← HW.out]
 refine wp_region_gate_drew (g := 11) (S := fun u => RowKit.Below W.heap.size W u) (by kernel_rfl) ?hh (fun hHeld => ?_)
 case hh => exact ((Below.refl _ _).drew)
 generalize World.drew _ = W0 at hHeld ⊢
 try dsimp only at hHeld
 refine wpAnyG_take (i := 0) (v := ?_) rfl (by kernel_rfl) (by kernel_rfl) (by kernel_rfl) (by kernel_rfl) (fun _ _ _ h => h) (Or.inl ⟨by kernel_rfl, ?hy0⟩) (by assumption) ?_
 case hy0 => (intro wI hSw; (try dsimp only at hSw); have b0 := (HK.out.on hSw).cell 0; have b1 := (HK.out.on hSw).cell 1; have b2 := (HK.out.on hSw).cell 2; have cP : wI.cell? ⟨g, i * 33 + 3 + 9, none⟩ = some (.slice s.pe.pl.a s.pe.pl.n s.pe.pl.c) := (HD.out.on (Below.on HB.out hSw)).at_ HI.out HG.out (j := 12) (by omega); go_simp; try with_reducible rfl)
 try simp only [Act.put, lqA, lqB, lqD, lqE, lqF]
 refine wpAnyG_take (i := 1) (v := ?_) rfl (by kernel_rfl) (by kernel_rfl) (by kernel_rfl) (by kernel_rfl) (fun _ _ _ h => h) (Or.inl ⟨by kernel_rfl, ?hy1⟩) (by assumption) ?_
 case hy1 => (intro wI hSw; (try dsimp only at hSw); have b0 := (HK.out.on hSw).cell 0; have b1 := (HK.out.on hSw).cell 1; have b2 := (HK.out.on hSw).cell 2; have cP : wI.cell? ⟨g, i * 33 + 3 + 9, none⟩ = some (.slice s.pe.pl.a s.pe.pl.n s.pe.pl.c) := (HD.out.on (Below.on HB.out hSw)).at_ HI.out HG.out (j := 12) (by omega); go_simp; try with_reducible rfl)
 try simp only [Act.put, lqA, lqB, lqC, lqD, lqE, lqF]
 refine wpAnyG_take (i := 2) (v := ?_) rfl (by kernel_rfl) (by kernel_rfl) (by kernel_rfl) (by kernel_rfl) (fun _ _ _ h => h) (Or.inl ⟨by kernel_rfl, ?hy2⟩) (by assumption) ?_
 case hy2 => (intro wI hSw; (try dsimp only at hSw); have b0 := (HK.out.on hSw).cell 0; have b1 := (HK.out.on hSw).cell 1; have b2 := (HK.out.on hSw).cell 2; have cP : wI.cell? ⟨g, i * 33 + 3 + 9, none⟩ = some (.slice s.pe.pl.a s.pe.pl.n s.pe.pl.c) := (HD.out.on (Below.on HB.out hSw)).at_ HI.out HG.out (j := 12) (by omega); go_simp; try with_reducible rfl)
 try simp only [Act.put, lqA, lqB, lqC, lqD, lqE, lqF]
 refine wpAnyG_take (i := 3) (v := ?_) rfl (by kernel_rfl) (by kernel_rfl) (by kernel_rfl) (by kernel_rfl) (fun _ _ _ h => h) (Or.inl ⟨by kernel_rfl, ?hy3⟩) (by assumption) ?_
 case hy3 => (intro wI hSw; (try dsimp only at hSw); have b0 := (HK.out.on hSw).cell 0; have b1 := (HK.out.on hSw).cell 1; have b2 := (HK.out.on hSw).cell 2; have cP : wI.cell? ⟨g, i * 33 + 3 + 9, none⟩ = some (.slice s.pe.pl.a s.pe.pl.n s.pe.pl.c) := (HD.out.on (Below.on HB.out hSw)).at_ HI.out HG.out (j := 12) (by omega); go_simp; try with_reducible rfl)
 try simp only [Act.put, lqA, lqB, lqC, lqD, lqE, lqF]
 refine wpAnyG_take (i := 4) (v := ?_) rfl (by kernel_rfl) (by kernel_rfl) (by kernel_rfl) (by kernel_rfl) (fun _ _ _ h => h) (Or.inl ⟨by kernel_rfl, ?hy4⟩) (by assumption) ?_
 case hy4 => (intro wI hSw; (try dsimp only at hSw); have b0 := (HK.out.on hSw).cell 0; have b1 := (HK.out.on hSw).cell 1; have b2 := (HK.out.on hSw).cell 2; have cP : wI.cell? ⟨g, i * 33 + 3 + 9, none⟩ = some (.slice s.pe.pl.a s.pe.pl.n s.pe.pl.c) := (HD.out.on (Below.on HB.out hSw)).at_ HI.out HG.out (j := 12) (by omega); go_simp; try with_reducible rfl)
 try simp only [Act.put, lqA, lqB, lqC, lqD, lqE, lqF]
 refine wpAnyG_take (i := 5) (v := ?_) rfl (by kernel_rfl) (by kernel_rfl) (by kernel_rfl) (by kernel_rfl) (fun _ _ _ h => h) (Or.inl ⟨by kernel_rfl, ?hy5⟩) (by assumption) ?_
 case hy5 => (intro wI hSw; (try dsimp only at hSw); have b0 := (HK.out.on hSw).cell 0; have b1 := (HK.out.on hSw).cell 1; have b2 := (HK.out.on hSw).cell 2; have cP : wI.cell? ⟨g, i * 33 + 3 + 9, none⟩ = some (.slice s.pe.pl.a s.pe.pl.n s.pe.pl.c) := (HD.out.on (Below.on HB.out hSw)).at_ HI.out HG.out (j := 12) (by omega); go_simp; try with_reducible rfl)
 try simp only [Act.put, lqA, lqB, lqC, lqD, lqE, lqF]
 refine wpAnyG_take (i := 6) (v := ?_) rfl (by kernel_rfl) (by kernel_rfl) (by kernel_rfl) (by kernel_rfl) (fun _ _ _ h => h) (Or.inl ⟨by kernel_rfl, ?hy6⟩) (by assumption) ?_
 case hy6 => (intro wI hSw; (try dsimp only at hSw); have b0 := (HK.out.on hSw).cell 0; have b1 := (HK.out.on hSw).cell 1; have b2 := (HK.out.on hSw).cell 2; have cP : wI.cell? ⟨g, i * 33 + 3 + 9, none⟩ = some (.slice s.pe.pl.a s.pe.pl.n s.pe.pl.c) := (HD.out.on (Below.on HB.out hSw)).at_ HI.out HG.out (j := 12) (by omega); go_simp; try with_reducible rfl)
 try simp only [Act.put, lqA, lqB, lqC, lqD, lqE, lqF]
 refine wpAnyG_ready (rs := [7]) (by kernel_rfl) (by simp) ?_
 refine AllReadyG.cons rfl (fun K hK => ?_) AllReadyG.nil
 go_simp
 go_wp2_with fail
 refine (rput_any _ _ _ _ z0 z1 z2 _ (HOK.out.on (Below.on HB.out hHeld)) hn).mono ?_
 rintro e W7 ⟨v7, rfl, hO7⟩
 obtain ⟨a7, c7, rfl, hR7, hn7⟩ := hO7.rd
 have hbU := Below.on HB.out hHeld
 obtain ⟨l, hl1, hl2, hl3, hl4⟩ : ∃ l : Sl, l.l = put1 s.pe.pl.l [z0, z1, z2] ∧ (Value.slice a7 (put1 s.pe.pl.l [z0, z1, z2]).length c7) = .slice l.a l.n l.c ∧ RdM 3 W7 l.a l.n l.c l.l ∧ ∀ y, l.a = some y → w.heap.size ≤ y.block := ⟨⟨a7, _, c7, put1 s.pe.pl.l [z0, z1, z2]⟩, rfl, rfl, hR7, fun y hy => Nat.le_trans hbU.size (hn7 y hy).1⟩
 rw [hl2]
 have HL1 := hid hl1
 have HL3 := hid hl3
 have HL4 := hid hl4
 replace hHeld := Below.on hHeld hO7.bel
 refine hK.out _ _ hHeld (fun _ => ?_)
 clear hK K hO7 hR7 hn7 hl1 hl2 hl3 hl4 hbU
 try simp only [Act.put, lqA, lqB, lqC, lqD, lqE, lqF]
 refine wpAnyG_take (i := 8) (v := ?_) rfl (by kernel_rfl) (by kernel_rfl) (by kernel_rfl) (by kernel_rfl) (fun _ _ _ h => h) (Or.inl ⟨by kernel_rfl, ?hy8⟩) (by assumption) ?_
 case hy8 => (intro wI hSw; (try dsimp only at hSw); have b0 := (HK.out.on hSw).cell 0; have b1 := (HK.out.on hSw).cell 1; have b2 := (HK.out.on hSw).cell 2; have cP : wI.cell? ⟨g, i * 33 + 3 + 9, none⟩ = some (.slice s.pe.pl.a s.pe.pl.n s.pe.pl.c) := (HD.out.on (Below.on HB.out hSw)).at_ HI.out HG.out (j := 12) (by omega); go_simp; try with_reducible rfl)
 try simp only [Act.put, lqA, lqB, lqC, lqD, lqE, lqF]
 refine wpAnyG_take (i := 9) (v := ?_) rfl (by kernel_rfl) (by kernel_rfl) (by kernel_rfl) (by kernel_rfl) (fun _ _ _ h => h) (Or.inl ⟨by kernel_rfl, ?hy9⟩) (by assumption) ?_
 case hy9 => (intro wI hSw; (try dsimp only at hSw); have b0 := (HK.out.on hSw).cell 0; have b1 := (HK.out.on hSw).cell 1; have b2 := (HK.out.on hSw).cell 2; have cP : wI.cell? ⟨g, i * 33 + 3 + 9, none⟩ = some (.slice s.pe.pl.a s.pe.pl.n s.pe.pl.c) := (HD.out.on (Below.on HB.out hSw)).at_ HI.out HG.out (j := 12) (by omega); go_simp; try with_reducible rfl)
 try simp only [Act.put, lqA, lqB, lqC, lqD, lqE, lqF]
 refine wpAnyG_take (i := 10) (v := ?_) rfl (by kernel_rfl) (by kernel_rfl) (by kernel_rfl) (by kernel_rfl) (fun _ _ _ h => h) (Or.inl ⟨by kernel_rfl, ?hy10⟩) (by assumption) ?_
 case hy10 => (intro wI hSw; (try dsimp only at hSw); have b0 := (HK.out.on hSw).cell 0; have b1 := (HK.out.on hSw).cell 1; have b2 := (HK.out.on hSw).cell 2; have cP : wI.cell? ⟨g, i * 33 + 3 + 9, none⟩ = some (.slice s.pe.pl.a s.pe.pl.n s.pe.pl.c) := (HD.out.on (Below.on HB.out hSw)).at_ HI.out HG.out (j := 12) (by omega); go_simp; try with_reducible rfl)
 try simp only [Act.put, lqA, lqB, lqC, lqD, lqE, lqF]
 have hG := hHeld
 clear hHeld
 have hHeld : True := trivial
 refine wpAnyG_gateOp rfl (by kernel_rfl) (fun K hK => ?_)
 have hD := HD.out.on (Below.on HB.out hG)
 have cP : W7.cell? ⟨g, i * 33 + 3 + 9, none⟩ = some (.slice s.pe.pl.a s.pe.pl.n s.pe.pl.c) := hD.at_ HI.out HG.out (j := 12) (by omega)
 have fP := hD.fz HG.out (i * 33 + 3 + 9)
 have HR := hid (hD.setPl HI.out HG.out l HL3.out (far_new HL4.out (HD.out.blk HX.out)))
 have HKP := hid (kp_of_below (Below.on HB.out hG) [g])
 go_simp
 refine hK.out _ _ trivial (fun _ => ?_)
 clear hK K hD cP fP hG
 try simp only [Act.put, lqA, lqB, lqC, lqD, lqE, lqF]
 refine wpAnyH_done (by kernel_rfl) ?_ _
 go_wp2
 go_end0
 exact ⟨rfl, l, HL1.out, HR.out.1, HKP.out.trans HR.out.2 (fun k hk _ => hk)⟩
end
section
def plI (k : Int) (l : List Int) : Int := match zx k l with
 | some i => i
 | none => -1
theorem plI_some {k : Int} {l : List Int} {i : Nat} (h : zx k l = some i) : plI k l = i := by rw [plI, h]
theorem plI_none {k : Int} {l : List Int} (h : zx k l = none) : plI k l = -1 := by rw [plI, h]
theorem oplacer_any (a : Option Addr) (n c : Nat) (l : List Int) (k : Int) (w : World) (h : Rz w a n c l) :
  Calls Tryz.prog 122 #[.slice a n c, .int .i64 k] w fun e w' => e = .returned (.int .i64 (plI k l)) ∧ w' = w := by
 have hn63 := h.small.1
 have H := hid h
 have HL := hid h.len
 clear h
 go_enter Tryz.func122, Tryz.ntmps122
 go_wp2
 go_loopw [5] (fun i wr => ∃ j : Nat, i = .int .i64 j ∧ j ≤ n ∧ (∀ i y, i < j → l[i]? = some y → y ≠ k) ∧ wr = w) (fun i _ => n - (numOf i).toNat)
 case atStart => exact ⟨0, rfl, by omega, fun i y hi => absurd hi (by omega), rfl⟩
 case round =>
  obtain ⟨j, rfl, hj, hq, rfl⟩ := hrel
  by_cases hgo : j < n
  ·have e1 : decide ((j : Int) < n) = true := decide_eq_true (by omega)
   have e2 : (j : Int) < n := by omega
   obtain ⟨bl, off, x, rfl, _, hx, c0⟩ := H.out.at_ hgo
   have HX := hid hx
   have HQ := hid hq
   clear hx hq
   cases hs : (x == k)
   ·have hne : x ≠ k := fun e => by simp [e] at hs
    have HN : Hid (∀ i y, i < j + 1 → l[i]? = some y → y ≠ k) := fun i y hi hy => by
     rcases Nat.lt_or_ge i j with h' | h'
     ·exact HQ.out i y h' hy
     ·obtain rfl : i = j := by omega
      rw [HX.out] at hy
      cases hy
      exact hne
    clear hne
    go_wp2
    go_roundw
    case rel => exact ⟨j + 1, by go_num, by omega, HN.out, trivial⟩
    case measure => simp [numOf]; omega
   ·have HE : Hid (plI k l = j) := by
     have hke : x = k := by simpa using hs
     rw [Hid, plI, zx_drop HQ.out, zx_at HX.out, if_pos hke]
     simp
    go_wp2
    go_ret
    rw [HE.out]
    exact ⟨rfl, rfl⟩
  ·have e1 : decide ((j : Int) < n) = false := decide_eq_false (by omega)
   have HE : Hid (plI k l = -1) := by
    rw [Hid, plI, zx_drop hq, List.drop_eq_nil_of_le (by rw [HL.out]; omega)]
    rfl
   clear hq
   go_wp2
   go_ret
   rw [HE.out]
   exact ⟨rfl, rfl⟩
theorem ohasr_any (a : Option Addr) (n c : Nat) (l : List Int) (k : Int) (w : World) (h : Rz w a n c l) :
  Calls Tryz.prog 97 #[.slice a n c, .int .i64 k] w fun e w' => e = .returned (.bool (zx k l).isSome) ∧ w' = w := by
 have HI := hid (oplacer_any a n c l k w h)
 have HE : Hid (decide (0 ≤ plI k l) = (zx k l).isSome) := by
  rw [Hid]
  cases hx : zx k l with
  | none => rw [plI_none hx]; rfl
  | some i =>
   rw [plI_some hx]
   simp
 clear h
 go_enter Tryz.func97, Tryz.ntmps97
 generalize plI k l = z at *
 generalize (zx k l).isSome = q at *
 have e1 := HE.out
 go_wp2_with fail
 refine HI.out.mono ?_
 rintro e w1 ⟨rfl, rfl⟩
 go_wp2
 go_ret
 exact ⟨rfl, rfl⟩
theorem odropr_any (a : Option Addr) (n c : Nat) (l : List Int) (k : Int) (w : World) (h : Rz w a n c l) (hn : n ≤ 1000000) :
  Calls Tryz.prog 119 #[.slice a n c, .int .i64 k] w fun e w' => ∃ v, e = .returned v ∧ OwZ w w' v (dr k l) := by
 obtain ⟨i0, hi, hz0, hz1, hz2⟩ := infoZp
 have H := hid h
 have HL := hid h.len
 clear h
 go_enter Tryz.func119, Tryz.ntmps119
 go_wp2
 go_loopw [5, 6] (fun v i wr => ∃ j : Nat, i = .int .i64 j ∧ j ≤ n ∧ OwZ w wr v (dr k (l.take j))) (fun _ i _ => n - (numOf i).toNat)
 case atStart => exact ⟨0, rfl, by omega, OwZ.nil w⟩
 case round =>
  obtain ⟨j, rfl, hj, ho⟩ := hrel
  have hdl : (dr k (l.take j)).length ≤ j := Nat.le_trans (dr_length _ _) (List.length_take_le _ _)
  by_cases hgo : j < n
  ·have e1 : decide ((j : Int) < n) = true := decide_eq_true (by omega)
   have e2 : (j : Int) < n := by omega
   obtain ⟨bl, off, x, rfl, _, hx, c0⟩ := (H.out.on ho.bel).at_ hgo
   have hts : l.take (j + 1) = l.take j ++ [x] := by rw [List.take_add_one, hx]; rfl
   have HO := hid ho
   cases hs : (x != k)
   ·have HN : Hid (∀ v, OwZ w wr v (dr k (l.take j)) → OwZ w wr v (dr k (l.take (j + 1)))) := fun v hv => by
     have hxk : x = k := by simpa using hs
     rw [hts, dr_append, dr_cons, if_pos hxk]
     simpa [dr] using hv
    clear ho hx hts
    go_wp2
    go_roundw
    case rel => exact ⟨j + 1, by go_num, by omega, HN.out _ HO.out⟩
    case measure => simp [numOf]; omega
   ·have HN : Hid (∀ v v' u, OwZ w wr v (dr k (l.take j)) → u.ownsRow w.heap.size 3 1 v' ((dr k (l.take j)).length + 1) (ic (dr k (l.take j)) ++ ic [x]) → (wr.alloc (.cells #[.int .i64 x] 3)).grownBy u v.ownBlock → OwZ w u v' (dr k (l.take (j + 1)))) := fun v v' u hv o g => by
     have hxk : ¬ x = k := by simpa using hs
     rw [hts, dr_append, dr_cons, if_neg hxk]
     exact (hv.alloc _).grown (k := [x]) rfl o g
    have HS := hid (srcLit wr x)
    have HW := hid (ho.alloc (.cells #[.int .i64 x] 3)).own
    have hws : w.heap.size ≤ (wr.alloc (.cells #[.int .i64 x] 3)).heap.size := by rw [World.size_alloc]; have := ho.bel.size; omega
    generalize (dr k (l.take j)).length = m at *
    clear ho hx hts
    go_wp2_with (at_builtin; refine wpList_append_own_src _ rfl (.tmp 19) (.tmp 24) 63 63 rfl w.heap.size 3 i0 (.int .i64 0) 1 8 Tryz.underlying63 hi hz0 hz1 hz2 rfl _ _ _ rfl HW.out _ _ _ rfl HS.out (by simp only [maxLen]; omega) (fitsZ (by omega)) hws ?_; intro v3 w3 o3 g3; have HZ := hid (HN.out _ _ _ HO.out o3 g3); clear o3 g3)
    go_roundw
    case rel => exact ⟨j + 1, by go_num, by omega, HZ.out⟩
    case measure => simp [numOf]; omega
  ·have e1 : decide ((j : Int) < n) = false := decide_eq_false (by omega)
   have HE : Hid (l.take j = l) := List.take_of_length_le (by rw [HL.out]; omega)
   rw [HE.out] at ho
   have HO := hid ho
   clear ho
   go_wp2
   go_ret
   exact ⟨_, rfl, HO.out⟩
end
section
theorem otopr_any (a : Option Addr) (n c : Nat) (l : List Int) (k : Int) (w : World) (h : Rz w a n c l) (hn : n ≤ 1000000) :
  Calls Tryz.prog 84 #[.slice a n c, .int .i64 k] w fun e w' => ∃ v, e = .returned v ∧ OwZ w w' v (dr k l ++ [k]) := by
 obtain ⟨i0, hi, hz0, hz1, hz2⟩ := infoZp
 have HD := hid (odropr_any a n c l k w h hn)
 have hdl := dr_length k l
 rw [h.len] at hdl
 clear h
 go_enter Tryz.func84, Tryz.ntmps84
 go_wp2_with fail
 refine HD.out.mono ?_
 rintro e w1 ⟨v1, rfl, ho1⟩
 have hs := ho1.bel.size
 have HN : Hid (∀ u v', u.ownsRow w.heap.size 3 1 v' ((dr k l).length + 1) (ic (dr k l) ++ ic [k]) → (w1.alloc (.cells #[.int .i64 k] 3)).grownBy u v1.ownBlock → OwZ w u v' (dr k l ++ [k])) := fun u v' o g => (ho1.alloc _).grown (k := [k]) rfl o g
 have HS := hid (srcLit w1 k)
 have HW := hid (ho1.alloc (.cells #[.int .i64 k] 3)).own
 have hws : w.heap.size ≤ (w1.alloc (.cells #[.int .i64 k] 3)).heap.size := by rw [World.size_alloc]; omega
 clear ho1 HD
 generalize (dr k l).length = m at *
 go_wp2_with (at_builtin; refine wpList_append_own_src _ rfl (.tmp 7) (.tmp 9) 63 63 rfl w.heap.size 3 i0 (.int .i64 0) 1 8 Tryz.underlying63 hi hz0 hz1 hz2 rfl _ _ _ rfl HW.out _ _ _ rfl HS.out (by simp only [maxLen]; omega) (fitsZ (by omega)) hws ?_; intro v3 w3 o3 g3; have HZ := hid (HN.out _ _ o3 g3); clear o3 g3)
 go_ret
 exact ⟨_, rfl, HZ.out⟩
def PutR (w : World) (r : Option (List Int)) (e : Ending) (w' : World) : Prop := match r with
 | none => e = .returned (.tuple #[.slice none 0 0, .int .i64 11]) ∧ Below w.heap.size w w'
 | some m => ∃ v, e = .returned (.tuple #[v, .int .i64 0]) ∧ OwZ w w' v m
theorem oputr_no (a : Option Addr) (n c : Nat) (l : List Int) (id by_ : Int) (b : Int) (w : World) (h : Rz w a n c l) (hno : id = by_ ∨ zx id l = none ∨ zx by_ l = none) :
  Calls Tryz.prog 98 #[.slice a n c, .int .i64 id, .int .i64 by_, .int .i64 b] w fun e w' => PutR w none e w' := by
 have H1 := hid (ohasr_any a n c l id w h)
 have H2 := hid (ohasr_any a n c l by_ w h)
 clear h
 go_enter Tryz.func98, Tryz.ntmps98
 cases he : (id == by_)
 ·have hne : id ≠ by_ := fun e => by simp [e] at he
  cases hx : zx id l with
  | none =>
   rw [hx] at H1
   clear hno hx hne
   go_wp2_with fail
   refine H1.out.mono ?_
   rintro e w1 ⟨rfl, rfl⟩
   go_wp2
   go_ret2
   exact ⟨rfl, Below.refl _ _⟩
  | some i =>
   have hy : zx by_ l = none := by
    rcases hno with e | e | e
    ·exact absurd e hne
    ·rw [hx] at e; cases e
    ·exact e
   rw [hx] at H1
   rw [hy] at H2
   clear hno hx hy hne
   go_wp2_with fail
   refine H1.out.mono ?_
   rintro e w1 ⟨rfl, rfl⟩
   go_wp2_with fail
   refine H2.out.mono ?_
   rintro e w2 ⟨rfl, rfl⟩
   go_wp2
   go_ret2
   exact ⟨rfl, Below.refl _ _⟩
 ·clear hno
  go_wp2
  go_ret2
  exact ⟨rfl, Below.refl _ _⟩
theorem oputr_yes (a : Option Addr) (n c : Nat) (l : List Int) (id by_ : Int) (b : Nat) (hb1 : b ≤ 1) (w : World) (h : Rz w a n c l) (hn : n ≤ 1000000) (he : id ≠ by_) (hx : zx id l ≠ none) (hy : zx by_ l ≠ none) (i : Nat) (hz : zx by_ (dr id l) = some i) (k : Nat) (hk : k = i + b) :
  Calls Tryz.prog 98 #[.slice a n c, .int .i64 id, .int .i64 by_, .int .i64 b] w fun e w' => PutR w (some (ins (dr id l) k id)) e w' := by
 obtain ⟨i0, hi, hz0, hz1, hz2⟩ := infoZp
 have H1 := hid (ohasr_any a n c l id w h)
 have H2 := hid (ohasr_any a n c l by_ w h)
 rw [show (zx id l).isSome = true by cases hq : zx id l with | none => exact absurd hq hx | some _ => rfl] at H1
 rw [show (zx by_ l).isSome = true by cases hq : zx by_ l with | none => exact absurd hq hy | some _ => rfl] at H2
 have HD := hid (odropr_any a n c l id w h hn)
 have e0 : (id == by_) = false := beq_false_of_ne he
 have hdl := dr_length id l
 rw [h.len] at hdl
 have hil := (zx_some hz).1
 have hpl := plI_some hz
 clear h he hx hy hz
 generalize dr id l = L at *
 go_enter Tryz.func98, Tryz.ntmps98
 go_wp2_with fail
 refine H1.out.mono ?_
 rintro e w1 ⟨rfl, rfl⟩
 go_wp2_with fail
 refine H2.out.mono ?_
 rintro e w2 ⟨rfl, rfl⟩
 go_wp2_with fail
 refine HD.out.mono ?_
 rintro e w3 ⟨v3, rfl, ho3⟩
 obtain ⟨a3, c3, rfl, hr3, -⟩ := ho3.rd
 have hs3 := hr3.small
 have hle3 := hr3.le
 have HB3 := hid ho3.bel
 have HR3 := hid hr3
 have HP := hid (oplacer_any a3 _ c3 L by_ w3 hr3)
 rw [hpl] at HP
 have ek : (i : Int) + (b : Int) = (k : Int) := by omega
 have HT := hid (hr3.take k (by omega))
 have HTS := hid (HT.out.src (P := Tryz.prog) (t := 63) (e := 3) Tryz.underlying63)
 have HTL : Hid ((L.take k).length = k) := by rw [Hid, List.length_take]; omega
 have HO0 := hid (OwZ.nil w3)
 have hkl : k ≤ L.length := by omega
 clear ho3 hr3 H1 H2 HD hpl hk HT
 go_wp2_with fail
 refine HP.out.mono ?_
 rintro e w4 ⟨rfl, rfl⟩
 have HN1 : Hid (∀ u v', u.ownsRow w4.heap.size 3 1 v' (0 + k) (ic [] ++ ic (L.take k)) → w4.grownBy u (Value.slice none 0 0).ownBlock → OwZ w4 u v' (L.take k)) := fun u v' o g => HO0.out.grown HTL.out o g
 have HN2 : Hid (∀ u v', OwZ w4 u v' (L.take k) → (u.alloc (.cells #[.int .i64 id] 3)).ownsRow w4.heap.size 3 1 v' k (ic (L.take k)) ∧ w4.heap.size ≤ (u.alloc (.cells #[.int .i64 id] 3)).heap.size) := fun u v' ho => by
  have h1 := (ho.alloc (.cells #[.int .i64 id] 3)).own
  rw [HTL.out] at h1
  exact ⟨h1, by rw [World.size_alloc]; have := ho.bel.size; omega⟩
 have HN3 : Hid (∀ u v' u2 v2, OwZ w4 u v' (L.take k) → u2.ownsRow w4.heap.size 3 1 v2 (k + 1) (ic (L.take k) ++ ic [id]) → (u.alloc (.cells #[.int .i64 id] 3)).grownBy u2 v'.ownBlock → OwZ w4 u2 v2 (L.take k ++ [id])) := fun u v' u2 v2 ho o g => by
  refine (ho.alloc (.cells #[.int .i64 id] 3)).grown (k := [id]) rfl ?_ g
  rw [HTL.out]
  exact o
 have HL3 : Hid ((L.take k ++ [id]).length = k + 1) := by rw [Hid, List.length_append, HTL.out]; rfl
 have HE : Hid ((L.take k ++ [id]) ++ L.drop k = ins L k id) := by rw [Hid, ins, List.append_assoc]; rfl
 have HDL : Hid ((L.drop k).length = L.length - k) := List.length_drop ..
 have HN4 : Hid (∀ u v', OwZ w4 u v' (L.take k ++ [id]) → u.ownsRow w4.heap.size 3 1 v' (k + 1) (ic (L.take k ++ [id]))) := fun u v' ho => by
  have h1 := ho.own
  rw [HL3.out] at h1
  exact h1
 have HN5 : Hid (∀ u v' u2 v2, OwZ w4 u v' (L.take k ++ [id]) → u2.ownsRow w4.heap.size 3 1 v2 (k + 1 + (L.length - k)) (ic (L.take k ++ [id]) ++ ic (L.drop k)) → u.grownBy u2 v'.ownBlock → OwZ w4 u2 v2 (ins L k id)) := fun u v' u2 v2 ho o g => by
  rw [← HE.out]
  refine ho.grown (k := L.drop k) HDL.out ?_ g
  rw [HL3.out]
  exact o
 by_cases hck : c3 = k
 ·subst hck
  have HLK : Hid (L.length - c3 = 0) := by rw [Hid]; omega
  have HS4 : Hid (∀ u, RowKit.Below w4.heap.size w4 u → Src Tryz.prog 1 63 (.slice a3 0 0) (L.length - c3) (ic (L.drop c3)) u) := fun u _ => by
   have h0 : L.drop c3 = [] := List.drop_eq_nil_of_le (by omega)
   rw [h0, HLK.out]
   exact (Rz.zero u a3).src Tryz.underlying63
  go_wp2_with (at_builtin; first | (refine wpList_append_own_src _ rfl (.const (.slice none 0 0)) (.tmp 38) 63 63 rfl w4.heap.size 3 i0 (.int .i64 0) 1 8 Tryz.underlying63 hi hz0 hz1 hz2 rfl _ _ _ rfl HO0.out.own _ _ _ rfl HTS.out (by simp only [maxLen, List.length_nil]; omega) (fitsZ (by simp only [List.length_nil]; omega)) (Nat.le_refl _) ?_; intro v5 w5 o5 g5; have HZ5 := hid (HN1.out _ _ o5 g5); clear o5 g5) | (refine wpList_append_own_src _ rfl (.tmp 39) (.tmp 41) 63 63 rfl w4.heap.size 3 i0 (.int .i64 0) 1 8 Tryz.underlying63 hi hz0 hz1 hz2 rfl _ _ _ rfl (HN2.out _ _ HZ5.out).1 _ _ _ rfl (srcLit _ _) (by simp only [maxLen]; omega) (fitsZ (by omega)) (HN2.out _ _ HZ5.out).2 ?_; intro v6 w6 o6 g6; have HZ6 := hid (HN3.out _ _ _ _ HZ5.out o6 g6); clear o6 g6) | (refine wpList_append_own_src _ rfl (.tmp 43) (.tmp 46) 63 63 rfl w4.heap.size 3 i0 (.int .i64 0) 1 8 Tryz.underlying63 hi hz0 hz1 hz2 rfl _ _ _ rfl (HN4.out _ _ HZ6.out) _ _ _ rfl (HS4.out _ HZ6.out.bel) (by simp only [maxLen]; omega) (fitsZ (by omega)) HZ6.out.bel.size ?_; intro v7 w7 o7 g7; have HZ7 := hid (HN5.out _ _ _ _ HZ6.out o7 g7); clear o7 g7))
  go_ret2
  exact ⟨_, rfl, (by have h := HZ7.out; exact h.base HB3.out)⟩
 ·have HA3 : Hid (∃ bl off, a3 = some ⟨bl, off, none⟩) := by
   obtain ⟨bl, off, e, _⟩ := HR3.out.pl (by omega)
   exact ⟨bl, off, e⟩
  obtain ⟨bl, off, rfl⟩ := HA3.out
  have HS4 : Hid (∀ u, RowKit.Below w4.heap.size w4 u → Src Tryz.prog 1 63 (.slice (some ⟨bl, off + k, none⟩) (L.length - k) (c3 - k)) (L.length - k) (ic (L.drop k)) u) := fun u hu => ((HR3.out.on hu).drop k hkl).src Tryz.underlying63
  go_wp2_with (at_builtin; first | (refine wpList_append_own_src _ rfl (.const (.slice none 0 0)) (.tmp 38) 63 63 rfl w4.heap.size 3 i0 (.int .i64 0) 1 8 Tryz.underlying63 hi hz0 hz1 hz2 rfl _ _ _ rfl HO0.out.own _ _ _ rfl HTS.out (by simp only [maxLen, List.length_nil]; omega) (fitsZ (by simp only [List.length_nil]; omega)) (Nat.le_refl _) ?_; intro v5 w5 o5 g5; have HZ5 := hid (HN1.out _ _ o5 g5); clear o5 g5) | (refine wpList_append_own_src _ rfl (.tmp 39) (.tmp 41) 63 63 rfl w4.heap.size 3 i0 (.int .i64 0) 1 8 Tryz.underlying63 hi hz0 hz1 hz2 rfl _ _ _ rfl (HN2.out _ _ HZ5.out).1 _ _ _ rfl (srcLit _ _) (by simp only [maxLen]; omega) (fitsZ (by omega)) (HN2.out _ _ HZ5.out).2 ?_; intro v6 w6 o6 g6; have HZ6 := hid (HN3.out _ _ _ _ HZ5.out o6 g6); clear o6 g6) | (refine wpList_append_own_src _ rfl (.tmp 43) (.tmp 46) 63 63 rfl w4.heap.size 3 i0 (.int .i64 0) 1 8 Tryz.underlying63 hi hz0 hz1 hz2 rfl _ _ _ rfl (HN4.out _ _ HZ6.out) _ _ _ rfl (HS4.out _ HZ6.out.bel) (by simp only [maxLen]; omega) (fitsZ (by omega)) HZ6.out.bel.size ?_; intro v7 w7 o7 g7; have HZ7 := hid (HN5.out _ _ _ _ HZ6.out o7 g7); clear o7 g7))
  go_ret2
  exact ⟨_, rfl, (by have h := HZ7.out; exact h.base HB3.out)⟩
theorem oputr_any (a : Option Addr) (n c : Nat) (l : List Int) (id by_ : Int) (b : Nat) (hb1 : b ≤ 1) (w : World) (h : Rz w a n c l) (hn : n ≤ 1000000) :
  Calls Tryz.prog 98 #[.slice a n c, .int .i64 id, .int .i64 by_, .int .i64 b] w fun e w' => PutR w (bes l id by_ b) e w' := by
 rw [bes_doc]
 split
 ·rename_i hno
  exact oputr_no a n c l id by_ b w h hno
 ·rename_i hno
  have h1 : id ≠ by_ := fun e => hno (.inl e)
  have h2 : zx id l ≠ none := fun e => hno (.inr (.inl e))
  have h3 : zx by_ l ≠ none := fun e => hno (.inr (.inr e))
  cases hz : zx by_ (dr id l) with
  | none =>
   refine absurd ?_ h3
   rw [zx_none]
   intro hm
   exact zx_none.1 hz (mem_dr.2 ⟨hm, fun e => h1 e.symm⟩)
  | some i => exact oputr_yes a n c l id by_ b hb1 w h hn h1 h2 h3 i hz (i + b) rfl
end
end Go.Proofs.YtkjempffidndeaaGreatDoor
