/- Lemmas that the proof leans on. -/
import Derived.Test.YtkjempffidndeaaGreatDoorB05
import Derived.Test.YtkjempffidndeaaGreatDoorB01
namespace Go.Proofs.YtkjempffidndeaaGreatDoor
open Go Go.RowKit
set_option maxRecDepth 100000
set_option maxHeartbeats 1000000
section
def ancB : Nat → Fo → Int → Int → Bool
 | 0, _, _, _ => false
 | n + 1, F, x, id => match gt F x with
  | none => false
  | some s => x == id || ancB n F s.par id
def syB : Nat → Fo → Int → Bool
 | 0, _, _ => false
 | n + 1, F, x => match gt F x with
  | none => false
  | some s => s.par != 0 && (s.syn || syB n F s.par)
theorem ancB_eq {F : Fo} (hA : Acy F) : ∀ (n : Nat) (x id : Int), dpt F x ≤ n → ancB n F x id = anc F x id
 | 0, x, id, h => by
  cases hg : gt F x with
  | none => rw [anc_none hg]; rfl
  | some s =>
   have := dpt_lt hA hg
   omega
 | n + 1, x, id, h => by
  rw [ancB]
  cases hg : gt F x with
  | none => rw [anc_none hg]
  | some s =>
   have := dpt_lt hA hg
   rw [anc_some hg]
   dsimp only
   rw [ancB_eq hA n s.par id (by omega)]
theorem syB_eq {F : Fo} (hA : Acy F) : ∀ (n : Nat) (x : Int), dpt F x ≤ n → syB n F x = sy F x
 | 0, x, h => by
  cases hg : gt F x with
  | none => rw [sy_none hg]; rfl
  | some s =>
   have := dpt_lt hA hg
   omega
 | n + 1, x, h => by
  rw [syB]
  cases hg : gt F x with
  | none => rw [sy_none hg]
  | some s =>
   have := dpt_lt hA hg
   rw [sy_some hg]
   dsimp only
   rw [syB_eq hA n s.par (by omega)]
theorem Inv.anc {F : Fo} (h : Inv F) (x id : Int) : Proofs.YtkjempffidndeaaGreatDoor.anc F x id = ancB 40 F x id := (ancB_eq h.acy 40 x id (Nat.le_trans (dpt_le F x) h.len)).symm
theorem Inv.sy {F : Fo} (h : Inv F) (x : Int) : Proofs.YtkjempffidndeaaGreatDoor.sy F x = syB 40 F x := (syB_eq h.acy 40 x (Nat.le_trans (dpt_le F x) h.len)).symm
def subEB (F : Fo) (id p : Int) : Nat := match gt F id, gt F p with
 | some s, some _ => if s.par ≠ 0 then 10 else if ancB 40 F p id then 11 else 0
 | _, _ => 5
def subFB (F : Fo) (id p : Int) : Fo := if subEB F id p = 0 then upd (upd F id fun s => { s with par := p, syn := true }) p (fun q => plcS [id, 0, 0] (ordS (sg (dr id (un1 (lat q)) ++ [id])) q)) else F
theorem Inv.subE {F : Fo} (h : Inv F) (id p : Int) : Proofs.YtkjempffidndeaaGreatDoor.subE F id p = subEB F id p := by
 unfold Proofs.YtkjempffidndeaaGreatDoor.subE subEB
 rw [h.anc]
 rfl
theorem Inv.subF {F : Fo} (h : Inv F) (id p : Int) : Proofs.YtkjempffidndeaaGreatDoor.subF F id p = subFB F id p := by
 unfold Proofs.YtkjempffidndeaaGreatDoor.subF subFB
 rw [h.subE]
def kstB (kd : Fo → Int → List Int → Fo × List Int) (r : Fo × List Int) (k : Int) : Fo × List Int := match gt r.1 k with
 | none => r
 | some c => if k = 0 ∨ syB 40 r.1 k = false then r else if non c.ca then kd r.1 k r.2 else kd (upd r.1 k aplS) k (r.2 ++ [k])
def kdsB : Nat → Fo → Int → List Int → Fo × List Int
 | 0, F, _, l => (F, l)
 | n + 1, F, x, l => match gt F x with
  | none => (F, l)
  | some s => (un1 s.no.od).foldl (kstB (kdsB n)) (F, l)
theorem kdsB_eq : ∀ (n : Nat) (F : Fo) (x : Int) (l : List Int), Inv F → kds n F x l = kdsB n F x l
 | 0, _, _, _, _ => rfl
 | n + 1, F, x, l, h => by
  rw [kds_succ, kdsB]
  cases hgx : gt F x with
  | none => rfl
  | some s =>
   dsimp only
   have hst : ∀ (r : Fo × List Int) (k : Int), Inv r.1 → kst n r k = kstB (kdsB n) r k ∧ Inv (kst n r k).1 := fun r k hr => by
    unfold kst kstB
    rw [hr.sy]
    cases hgk : gt r.1 k with
    | none => exact ⟨rfl, hr⟩
    | some c =>
     dsimp only
     split
     ·exact ⟨rfl, hr⟩
     ·split
      ·exact ⟨kdsB_eq n _ _ _ hr, (kds_inv n _ _ _ hr).1⟩
      ·exact ⟨kdsB_eq n _ _ _ (hr.apls k), (kds_inv n _ _ _ (hr.apls k)).1⟩
   have hf : ∀ (L : List Int) (r : Fo × List Int), Inv r.1 → L.foldl (kst n) r = L.foldl (kstB (kdsB n)) r := fun L => by
    induction L with
    | nil => exact fun r _ => rfl
    | cons k L ih =>
     intro r hr
     obtain ⟨h1, h2⟩ := hst r k hr
     rw [List.foldl_cons, List.foldl_cons, ← h1]
     exact ih _ h2
   exact hf _ (F, l) h
def comB (F : Fo) (id : Int) : Fo × List Int := match gt F id with
 | none => (F, [])
 | some _ => if syB 40 F id then (upd F id cacS, []) else kdsB 41 (upd F id comS) id [id]
theorem Inv.comF {F : Fo} (h : Inv F) (id : Int) : Proofs.YtkjempffidndeaaGreatDoor.comF 41 F id = comB F id := by
 rw [comF_eq, comB, h.sy]
 cases hgx : gt F id with
 | none => rfl
 | some s =>
  dsimp only
  split
  ·rfl
  ·exact kdsB_eq 41 _ _ _ (h.coms id)
end
section
theorem fndV_some {k : Int} {l : List (List Int)} {i : Nat} {z0 z1 z2 : Int} (h : ixf k l = some i) (hz : l[i]? = some [z0, z1, z2]) : FndV k l (.agg #[.int .i64 z0, .int .i64 z1, .int .i64 z2]) true := by
 obtain ⟨_, h2, _⟩ := ixf_some h
 rw [hz] at h2
 unfold FndV
 rw [h2]
 exact ⟨rfl, rfl⟩
theorem fndV_none {k : Int} {l : List (List Int)} (h : ixf k l = none) : FndV k l (.agg #[.int .i64 0, .int .i64 0, .int .i64 0]) false := by
 unfold FndV
 rw [(ixf_none h).2]
 exact ⟨rfl, rfl⟩
def FndR (k : Int) (l : List (List Int)) (w : World) (e : Ending) (w' : World) : Prop := ∃ z0 z1 z2 b, e = .returned (.tuple #[.agg #[.int .i64 z0, .int .i64 z1, .int .i64 z2], .bool b]) ∧ FndV k l (.agg #[.int .i64 z0, .int .i64 z1, .int .i64 z2]) b ∧ Below w.heap.size w w'
theorem find_any (a : Option Addr) (n c : Nat) (l : List (List Int)) (k : Int) (w : World) (h : RdM 3 w a n c l) :
  Calls Tryz.prog 112 #[.slice a n c, .int .i64 k] w (FndR k l w) := by
 have hs := h.small
 have hl := h.len
 have hb := bel_new w (.cells #[.int .i64 0, .int .i64 0, .int .i64 0] 46)
 have h1 := h.on hb
 have CI := hid (index_any a n c l k _ h1)
 have HK := hid (bk_new w #[.int .i64 0, .int .i64 0, .int .i64 0] 46)
 have HB := hid hb
 cases hx : ixf k l with
 | none =>
  have hi : ixI k l = -1 := by rw [ixI, hx]
  rw [hi] at CI
  have HF := hid (fndV_none hx)
  clear h h1 hb hx hi hl
  go_enter Tryz.func112, Tryz.ntmps112
  go_wp2_with fail
  refine CI.out.mono ?_
  rintro e w2 ⟨rfl, hb2⟩
  have HB2 := hid (Below.on HB.out hb2)
  have HK2 := hid (HK.out.on hb2)
  have f0 := HK2.out.fz
  have c0 := HK2.out.cell 0
  have c1 := HK2.out.cell 1
  have c2 := HK2.out.cell 2
  clear hb2
  go_wp2
  refine bodyPost_ret (results_cell_tmp' rfl _ _ w.heap.size _ _ _ _ rfl (((HK2.out.set 0 _).set 1 _).set 2 _).obj Tryz.underlying46 rfl infoCh) rfl ?_
  exact ⟨0, 0, 0, false, rfl, HF.out, ((HB2.out.setCell (p := ⟨w.heap.size, 0, none⟩) (Nat.le_refl _) _).setCell (p := ⟨w.heap.size, 1, none⟩) (Nat.le_refl _) _).setCell (p := ⟨w.heap.size, 2, none⟩) (Nat.le_refl _) _⟩
 | some i =>
  have hi : ixI k l = i := by rw [ixI, hx]
  rw [hi] at CI
  have hin : i < n := by rw [← hl]; exact (ixf_some hx).1
  obtain ⟨b, off, z0, z1, z2, rfl, hb0, hz, d0, d1, d2⟩ := h1.el3 hin
  have HF := hid (fndV_some hx hz)
  have e1 : (i : Int) < n := by omega
  have e2 : (0 : Int) ≤ i := by omega
  clear h h1 hb hx hi hl hz
  have HD0 := hid d0
  have HD1 := hid d1
  have HD2 := hid d2
  clear d0 d1 d2
  go_enter Tryz.func112, Tryz.ntmps112
  go_wp2_with fail
  refine CI.out.mono ?_
  rintro e w2 ⟨rfl, hb2⟩
  have HB2 := hid (Below.on HB.out hb2)
  have HK2 := hid (HK.out.on hb2)
  have f0 := HK2.out.fz
  have c0 := HK2.out.cell 0
  have c1 := HK2.out.cell 1
  have c2 := HK2.out.cell 2
  have d0 : w2.cell? ⟨b, off + i * 3, none⟩ = some (.int .i64 z0) := by rw [hb2.cell hb0]; exact HD0.out
  have d1 : w2.cell? ⟨b, off + i * 3 + 1, none⟩ = some (.int .i64 z1) := by rw [hb2.cell hb0]; exact HD1.out
  have d2 : w2.cell? ⟨b, off + i * 3 + 2, none⟩ = some (.int .i64 z2) := by rw [hb2.cell hb0]; exact HD2.out
  clear hb2
  go_wp2
  refine bodyPost_ret (results_cell_tmp' rfl _ _ w.heap.size _ _ _ _ rfl (((HK2.out.set 0 _).set 1 _).set 2 _).obj Tryz.underlying46 rfl infoCh) rfl ?_
  exact ⟨z0, z1, z2, true, rfl, HF.out, ((HB2.out.setCell (p := ⟨w.heap.size, 0, none⟩) (Nat.le_refl _) _).setCell (p := ⟨w.heap.size, 1, none⟩) (Nat.le_refl _) _).setCell (p := ⟨w.heap.size, 2, none⟩) (Nat.le_refl _) _⟩
theorem rfind_any (a : Option Addr) (n c : Nat) (l : List (List Int)) (k : Int) (w : World) (h : RdM 3 w a n c l) :
  Calls Tryz.prog 113 #[.slice a n c, .int .i64 k] w (FndR k l w) := by
 have hs := h.small
 have HL := hid h.len
 have hb := bel_new w (.cells #[.int .i64 0, .int .i64 0, .int .i64 0] 46)
 have H := hid h
 have HK := hid (bk_new w #[.int .i64 0, .int .i64 0, .int .i64 0] 46)
 have HB := hid hb
 clear h hb
 go_enter Tryz.func113, Tryz.ntmps113
 go_wp2
 go_loopw [6] (fun i wr => ∃ j : Nat, i = .int .i64 j ∧ j ≤ n ∧ (∀ i y, i < j → l[i]? = some y → hd y ≠ k) ∧ Bk wr w.heap.size 46 #[.int .i64 0, .int .i64 0, .int .i64 0] ∧ RowKit.Below w.heap.size w wr) (fun i _ => n - (numOf i).toNat)
 case atStart => exact ⟨0, rfl, by omega, fun k r hk => absurd hk (by omega), HK.out, HB.out⟩
 case round =>
  obtain ⟨j, rfl, hj, hN, hK2, hB2⟩ := hrel
  have HN := hid hN
  have HK2 := hid hK2
  have HB2 := hid hB2
  have f0 := hK2.fz
  have c0 := hK2.cell 0
  have c1 := hK2.cell 1
  have c2 := hK2.cell 2
  have HX : Hid (∀ z0 z1 z2 : Int, RowKit.Below w.heap.size w (((wr.setCell ⟨w.heap.size, 0, none⟩ (.int .i64 z0)).setCell ⟨w.heap.size, 1, none⟩ (.int .i64 z1)).setCell ⟨w.heap.size, 2, none⟩ (.int .i64 z2))) := fun z0 z1 z2 => ((hB2.setCell (p := ⟨w.heap.size, 0, none⟩) (Nat.le_refl _) _).setCell (p := ⟨w.heap.size, 1, none⟩) (Nat.le_refl _) _).setCell (p := ⟨w.heap.size, 2, none⟩) (Nat.le_refl _) _
  clear hN hK2 hB2 HK HB
  by_cases hgo : j < n
  ·have e1 : decide ((j : Int) < n) = true := decide_eq_true (by omega)
   obtain ⟨b, off, z0, z1, z2, rfl, _, hr, d0, d1, d2⟩ := (H.out.on HB2.out).el3 hgo
   have HR := hid hr
   have e3 : (j : Int) < n := by omega
   clear hr
   cases hq : (z0 == k)
   ·have HN2 : Hid (∀ i x, i < j + 1 → l[i]? = some x → hd x ≠ k) := fun i x hi hx => by
     rcases Nat.lt_or_ge i j with h | h
     ·exact HN.out i x h hx
     ·obtain rfl : i = j := by omega
      rw [HR.out] at hx
      cases hx
      rw [hd3]; simpa using hq
    go_wp2
    go_roundw
    case rel => exact ⟨j + 1, by go_num, by omega, HN2.out, HK2.out, HB2.out⟩
    case measure => simp [numOf]; omega
   ·have HI : Hid (ixf k l = some j) := by
     rw [Hid, ixf_drop HN.out, drop_at' HR.out, ixf, if_pos (by rw [hd3]; simpa using hq)]
     simp
    go_wp2
    refine bodyPost_ret (results_cell_tmp' rfl _ _ w.heap.size _ _ _ _ rfl (((HK2.out.set 0 _).set 1 _).set 2 _).obj Tryz.underlying46 rfl infoCh) rfl ?_
    exact ⟨z0, z1, z2, true, rfl, fndV_some HI.out HR.out, HX.out _ _ _⟩
  ·have e1 : decide ((j : Int) < n) = false := decide_eq_false (by omega)
   have HI : Hid (ixf k l = none) := by
    rw [Hid, ixf_drop HN.out, List.drop_eq_nil_of_le (by rw [HL.out]; omega)]
    rfl
   go_wp2
   refine bodyPost_ret (results_cell_tmp' rfl _ _ w.heap.size _ _ _ _ rfl (((HK2.out.set 0 _).set 1 _).set 2 _).obj Tryz.underlying46 rfl infoCh) rfl ?_
   exact ⟨0, 0, 0, false, rfl, fndV_none HI.out, HX.out _ _ _⟩
end
section
def wk1 (F : Fo) (n : Nat) (id x y : Int) (pl : List (List Int)) (k : Int) : List (List Int) := if k = 0 then [[id, x, y]] else wlk F n k (x + (plx k pl).1) (y + (plx k pl).2)
theorem wlk_some {F : Fo} {n : Nat} {id x y : Int} {s : Sf} (hs : gt F id = some s) (hb : s.no.buf ≠ 0) : wlk F (n + 1) id x y = (un1 s.no.od).flatMap (wk1 F n id x y s.no.pl) := by
 rw [wlk, hs]
 show (if s.no.buf = 0 then [] else _) = _
 rw [if_neg hb]
 rfl
theorem wlk_none {F : Fo} {n : Nat} {id x y : Int} (hs : gt F id = none) : wlk F (n + 1) id x y = [] := by rw [wlk, hs]
theorem wlk_zero {F : Fo} {n : Nat} {id x y : Int} {s : Sf} (hs : gt F id = some s) (hb : s.no.buf = 0) : wlk F (n + 1) id x y = [] := by
 rw [wlk, hs]
 show (if s.no.buf = 0 then [] else _) = _
 rw [if_pos hb]
theorem flat_take {α β : Type} {l : List α} {j : Nat} {x : α} (h : l[j]? = some x) (f : α → List β) : (l.take (j + 1)).flatMap f = (l.take j).flatMap f ++ f x := by
 rw [List.take_add_one, h, List.flatMap_append]
 congr 1
 show f x ++ [] = f x
 rw [List.append_nil]
theorem flat_take_le {α β : Type} (l : List α) (j : Nat) (f : α → List β) : ((l.take j).flatMap f).length ≤ (l.flatMap f).length := by
 have : l.flatMap f = (l.take j).flatMap f ++ (l.drop j).flatMap f := by rw [← List.flatMap_append, List.take_append_drop]
 rw [this, List.length_append]
 omega
theorem fndV_plx {k : Int} {l : List (List Int)} {z0 z1 z2 : Int} {b : Bool} (h : FndV k l (.agg #[.int .i64 z0, .int .i64 z1, .int .i64 z2]) b) : plx k l = (z1, z2) := by
 unfold FndV at h
 unfold plx
 cases hf : fnd k l with
 | none =>
  rw [hf] at h
  have := h.1
  simp at this
  rw [this.2.1, this.2.2]
 | some y =>
  rw [hf] at h
  have h1 := h.1
  match y, h1 with
  | [a, b, c], h1 =>
   simp at h1
   rw [h1.2.1, h1.2.2]
  | [], h1 => simp at h1
  | [_], h1 => simp at h1
  | [_, _], h1 => simp at h1
  | _ :: _ :: _ :: _ :: _, h1 => simp at h1
theorem plx_edge {k : Int} {l : List (List Int)} (h : ∀ y ∈ l, Edg y) : -16777216 ≤ (plx k l).1 ∧ (plx k l).1 ≤ 16777216 ∧ -16777216 ≤ (plx k l).2 ∧ (plx k l).2 ≤ 16777216 := by
 have hm : ∀ {l : List (List Int)} {y : List Int}, fnd k l = some y → y ∈ l := fun {l} => by
  induction l with
  | nil => intro y h; cases h
  | cons x l ih =>
   intro y h
   rw [fnd] at h
   split at h
   ·cases h; simp
   ·exact List.mem_cons_of_mem _ (ih h)
 unfold plx
 cases hf : fnd k l with
 | none => exact ⟨by decide, by decide, by decide, by decide⟩
 | some y =>
  obtain ⟨a, b, c, rfl, h1, h2, h3, h4⟩ := h y (hm hf)
  exact ⟨h1, h2, h3, h4⟩
theorem wlk_size {F : Fo} : ∀ (n : Nat) (id x y : Int), ∀ z ∈ wlk F n id x y, z.length = 3
 | 0, _, _, _, z, hz => by cases hz
 | n + 1, id, x, y, z, hz => by
  rw [wlk] at hz
  split at hz
  ·cases hz
  ·split at hz
   ·cases hz
   ·obtain ⟨k, _, hk⟩ := List.mem_flatMap.1 hz
    split at hk
    ·simp at hk
     rw [hk]
     rfl
    ·exact wlk_size n _ _ _ z hk
theorem wk1_size {F : Fo} {n : Nat} {id x y : Int} {pl : List (List Int)} {k : Int} {z : List Int} (h : z ∈ wk1 F n id x y pl k) : z.length = 3 := by
 unfold wk1 at h
 split at h
 ·simp at h
  rw [h]
  rfl
 ·exact wlk_size _ _ _ _ z h
end
section
def nm (i : Nat) (y : List Int) : Int := y.getD i 0
def bufF (F : Fo) (id : Int) : Int := (((gt F id).map Sf.no).getD sq0).buf
def szf (zs : List (List Int)) (b : Int) : List Int := match fnd b zs with
 | some y => [nm 1 y, nm 2 y]
 | none => [0, 0]
def snr (F : Fo) (r : List Int) : List (List Int) := (wlk F 41 (nm 0 r) 0 0).map fun c => [nm 0 c, edg (nm 1 r) + nm 1 c, edg (nm 2 r) + nm 2 c]
def snL (F : Fo) (rs : List (List Int)) : List (List Int) := rs.flatMap (snr F)
def vwv (F : Fo) (zs : List (List Int)) (y : List Int) : List Int := [nm 0 y, bufF F (nm 0 y), nm 1 y, nm 2 y] ++ szf zs (bufF F (nm 0 y))
def ofL (F : Fo) (zs rs : List (List Int)) : List (List Int) := (snL F rs).map (vwv F zs)
theorem szf_two (zs : List (List Int)) (b : Int) : ∃ a c, szf zs b = [a, c] := by
 unfold szf
 cases fnd b zs with
 | none => exact ⟨_, _, rfl⟩
 | some y => exact ⟨_, _, rfl⟩
theorem vwv_size (F : Fo) (zs : List (List Int)) (y : List Int) : (vwv F zs y).length = 6 := by
 obtain ⟨a, c, h⟩ := szf_two zs (bufF F (nm 0 y))
 rw [vwv, h]
 rfl
theorem ofL_size (F : Fo) (zs rs : List (List Int)) : ∀ y ∈ ofL F zs rs, y.length = 6 := fun y hy => by
 obtain ⟨x, _, rfl⟩ := List.mem_map.1 hy
 exact vwv_size _ _ _
theorem snr_size {F : Fo} {r y : List Int} (h : y ∈ snr F r) : y.length = 3 := by
 obtain ⟨x, _, rfl⟩ := List.mem_map.1 h
 rfl
theorem snL_size {F : Fo} {rs : List (List Int)} : ∀ y ∈ snL F rs, y.length = 3 := fun y hy => by
 obtain ⟨x, _, h⟩ := List.mem_flatMap.1 hy
 exact snr_size h
theorem wlk_far {F : Fo} {m : Nat} (hZ : Szf m F) : ∀ (n : Nat) (id x y : Int), ∀ z ∈ wlk F n id x y, ∃ a b c, z = [a, b, c] ∧ x - 16777216 * n ≤ b ∧ b ≤ x + 16777216 * n ∧ y - 16777216 * n ≤ c ∧ c ≤ y + 16777216 * n
 | 0, _, _, _, z, hz => by cases hz
 | n + 1, id, x, y, z, hz => by
  rw [wlk] at hz
  split at hz
  ·cases hz
  ·rename_i s hs
   split at hz
   ·cases hz
   ·obtain ⟨k, _, hk⟩ := List.mem_flatMap.1 hz
    split at hk
    ·simp only [List.mem_cons, List.not_mem_nil, or_false] at hk
     exact ⟨id, x, y, hk, by omega, by omega, by omega, by omega⟩
    ·obtain ⟨a, b, c, h0, h1, h2, h3, h4⟩ := wlk_far hZ n _ _ _ z hk
     have he := plx_edge (k := k) (hZ id s hs).ed.2.2
     exact ⟨a, b, c, h0, by omega, by omega, by omega, by omega⟩
theorem wlk_far0 {F : Fo} {m : Nat} (hZ : Szf m F) (id : Int) : ∀ z ∈ wlk F 41 id 0 0, ∃ a b c, z = [a, b, c] ∧ -687865856 ≤ b ∧ b ≤ 687865856 ∧ -687865856 ≤ c ∧ c ≤ 687865856 := fun z hz => by
 obtain ⟨a, b, c, h0, h1, h2, h3, h4⟩ := wlk_far hZ 41 id 0 0 z hz
 exact ⟨a, b, c, h0, by omega, by omega, by omega, by omega⟩
theorem wlk_buf {F : Fo} : ∀ (n : Nat) (id x y : Int), ∀ z ∈ wlk F n id x y, ∃ s, gt F (nm 0 z) = some s ∧ s.no.buf ≠ 0
 | 0, _, _, _, z, hz => by cases hz
 | n + 1, id, x, y, z, hz => by
  rw [wlk] at hz
  split at hz
  ·cases hz
  ·rename_i s hs
   split at hz
   ·cases hz
   ·rename_i hb
    obtain ⟨k, _, hk⟩ := List.mem_flatMap.1 hz
    split at hk
    ·simp only [List.mem_cons, List.not_mem_nil, or_false] at hk
     exact ⟨s, by rw [hk]; exact hs, hb⟩
    ·exact wlk_buf n _ _ _ z hk
theorem bufF_some {F : Fo} {id : Int} {s : Sf} (h : gt F id = some s) : bufF F id = s.no.buf := by rw [bufF, h]; rfl
theorem snr_len {F : Fo} (hI : Inv F) (hN : Nof F) (r : List Int) : (snr F r).length ≤ 40 := by
 rw [snr, List.length_map]
 exact Nat.le_trans (wlk_length hI hN _ _ _ _) (Nat.le_trans (dsc_le _ _) hI.len)
theorem snL_len {F : Fo} (hI : Inv F) (hN : Nof F) : ∀ rs : List (List Int), (snL F rs).length ≤ 40 * rs.length
 | [] => by simp [snL]
 | r :: rs => by
  have h1 := snr_len hI hN r
  have h2 := snL_len hI hN rs
  rw [snL] at h2
  rw [snL, List.flatMap_cons, List.length_append, List.length_cons]
  omega
theorem snL_take {F : Fo} {rs : List (List Int)} {j : Nat} {r : List Int} (h : rs[j]? = some r) : snL F (rs.take (j + 1)) = snL F (rs.take j) ++ snr F r := flat_take h _
theorem snL_at {F : Fo} {rs : List (List Int)} {j : Nat} {r : List Int} (h : rs[j]? = some r) {i : Nat} {c : List Int} (hc : (wlk F 41 (nm 0 r) 0 0)[i]? = some c) : (snL F rs)[(snL F (rs.take j)).length + i]? = some [nm 0 c, edg (nm 1 r) + nm 1 c, edg (nm 2 r) + nm 2 c] := by
 have hl : j < rs.length := (List.getElem?_eq_some_iff.1 h).1
 have e : rs[j] = r := (List.getElem?_eq_some_iff.1 h).2
 have h1 : snL F rs = snL F (rs.take j) ++ (snr F r ++ snL F (rs.drop (j + 1))) := by
  rw [snL, snL, snL, ← List.take_append_drop j rs, List.flatMap_append, List.take_append_drop, List.drop_eq_getElem_cons hl, e, List.flatMap_cons]
 have hi : i < (snr F r).length := by
  rw [snr, List.length_map]
  exact (List.getElem?_eq_some_iff.1 hc).1
 rw [h1, List.getElem?_append_right (by omega), Nat.add_sub_cancel_left, List.getElem?_append_left hi, snr, List.getElem?_map, hc]
 rfl
def upL : Nat → Fo → Int → List Int
 | 0, _, _ => []
 | n + 1, F, x => match gt F x with
  | none => []
  | some s => x :: upL n F s.par
theorem upL_more {F : Fo} (hA : Acy F) : ∀ (n : Nat) (x : Int), dpt F x ≤ n → upL (n + 1) F x = upL n F x
 | 0, x, h => by
  rw [upL, upL]
  cases hs : gt F x with
  | none => rfl
  | some s => have := dpt_lt hA hs; omega
 | n + 1, x, h => by
  rw [upL, upL]
  cases hs : gt F x with
  | none => rfl
  | some s =>
   have := dpt_lt hA hs
   show x :: upL (n + 1) F s.par = x :: upL n F s.par
   rw [upL_more hA n s.par (by omega)]
theorem Inv.up_some {F : Fo} (h : Inv F) {x : Int} {s : Sf} (hs : gt F x = some s) : upL 40 F x = x :: upL 40 F s.par := by
 have h1 := dpt_le F x
 have h2 := h.len
 rw [← upL_more h.acy 40 x (by omega), upL, hs]
theorem up_none {F : Fo} {x : Int} (hs : gt F x = none) : upL 40 F x = [] := by rw [upL, hs]
def rtF (F : Fo) (x : Int) : Int := (upL 40 F x).getLastD 0
theorem rt_none {F : Fo} {x : Int} (hs : gt F x = none) : rtF F x = 0 := by rw [rtF, up_none hs]; rfl
theorem Inv.rt_top {F : Fo} (h : Inv F) {x : Int} {s : Sf} (hs : gt F x = some s) (h0 : s.par = 0) : rtF F x = x := by
 rw [rtF, h.up_some hs, h0, up_none h.zero]
 rfl
theorem Inv.rt_up {F : Fo} (h : Inv F) {x : Int} {s : Sf} (hs : gt F x = some s) (h0 : s.par ≠ 0) : rtF F x = rtF F s.par := by
 obtain ⟨q, hq⟩ := h.acy.par x s hs h0
 rw [rtF, rtF, h.up_some hs, h.up_some hq]
 rfl
theorem Inv.wlk_rt {F : Fo} (h : Inv F) : ∀ (n : Nat) (id x y : Int), ∀ z ∈ wlk F n id x y, rtF F (nm 0 z) = rtF F id
 | 0, _, _, _, z, hz => by cases hz
 | n + 1, id, x, y, z, hz => by
  rw [wlk] at hz
  split at hz
  ·cases hz
  ·rename_i s hs
   split at hz
   ·cases hz
   ·obtain ⟨k, hm, hk⟩ := List.mem_flatMap.1 hz
    split at hk
    ·simp only [List.mem_cons, List.not_mem_nil, or_false] at hk
     rw [hk]
     rfl
    ·rename_i hk0
     obtain ⟨c, hc, hp⟩ := kid_mem h hs k (List.mem_filter.2 ⟨hm, by simpa using hk0⟩)
     rw [h.wlk_rt n _ _ _ z hk, h.rt_up hc (by have := h.pos' hs; omega), hp]
end
end Go.Proofs.YtkjempffidndeaaGreatDoor
