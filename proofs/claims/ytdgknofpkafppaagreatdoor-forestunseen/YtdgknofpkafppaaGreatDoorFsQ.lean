/- Lemmas that the proof leans on. -/
import Derived.Test.YtdgknofpkafppaaGreatDoorB11
namespace Go.Proofs.YtdgknofpkafppaaGreatDoor
open Go Go.RowKit
section
def noP (s : Sf) : Sf := { s with pe := sq0 }
def nop (F : Fo) : Fo := F.map fun e => (e.1, noP e.2)
theorem gt_nop (F : Fo) (x : Int) : gt (nop F) x = (gt F x).map noP := gt_map F noP x
theorem wlk_nop (F : Fo) : ∀ (n : Nat) (id x y : Int), wlk F n id x y = wlk (nop F) n id x y
 | 0, _, _, _ => rfl
 | n + 1, id, x, y => by
  unfold wlk
  rw [gt_nop]
  cases gt F id with
  | none => rfl
  | some s =>
   show (if s.no.buf = 0 then [] else _) = if s.no.buf = 0 then [] else _
   by_cases h : s.no.buf = 0
   ·rw [if_pos h, if_pos h]
   ·rw [if_neg h, if_neg h]
    show (un1 s.no.od).flatMap _ = (un1 s.no.od).flatMap _
    congr 1
    funext k
    by_cases hk : k = 0
    ·rw [if_pos hk, if_pos hk]
    ·rw [if_neg hk, if_neg hk]
     exact wlk_nop F n k _ _
theorem hld_nop (F : Fo) : hldL F = hldL (nop F) := by
 rw [hldL, hldL, nop, List.flatMap_map]
 rfl
theorem no_nop (F : Fo) (id : Int) : (gt F id).map Sf.no = (gt (nop F) id).map Sf.no := by
 rw [gt_nop, Option.map_map]
 rfl
theorem nop_upd {F : Fo} (hn : (keys F).Nodup) (id : Int) (f : Sf → Sf) (hf : ∀ s, noP (f s) = noP s) : nop (upd F id f) = nop F := by
 unfold upd
 cases h : gt F id with
 | none => rfl
 | some s =>
  show nop (st F id (f s)) = nop F
  rw [nop, st, nop, List.map_map]
  refine List.map_congr_left fun e he => ?_
  show (fun e : Int × Sf => (e.1, noP e.2)) (if e.1 = id then (id, f s) else e) = _
  by_cases h1 : e.1 = id
  ·have h2 := gt_in hn he
   rw [h1, h] at h2
   cases h2
   rw [if_pos h1]
   show (id, noP (f e.2)) = (e.1, noP e.2)
   rw [hf, h1]
  ·rw [if_neg h1]
theorem nop_pos {F : Fo} (hn : (keys F).Nodup) (id x y : Int) : nop (posF F id x y) = nop F := by
 unfold posF
 split
 ·rfl
 ·split
  ·rfl
  ·exact nop_upd hn _ _ (fun _ => rfl)
theorem nop_put {F : Fo} (hn : (keys F).Nodup) (id y : Int) (b : Nat) : nop (putF F id y b) = nop F := by
 unfold putF
 split
 ·rfl
 ·exact nop_upd hn _ _ (fun _ => rfl)
end
end Go.Proofs.YtdgknofpkafppaaGreatDoor
