/- Lemmas that the proof leans on. -/
import Derived.Test.YtdgknofpkafppaaGreatDoorB43
import Derived.Test.YtdgknofpkafppaaGreatDoorB48
namespace Go.Proofs.YtdgknofpkafppaaGreatDoor
open Go Go.RowKit
section
structure C33 (u : World) (g P : Nat) (z : Int) (s : Sr) : Prop where
 lt : g < u.heap.size
 c0 : u.cell? ⟨g, P, none⟩ = some (.int .i64 z)
 c1 : u.cell? ⟨g, P + 1, none⟩ = some (.int .i64 s.par)
 a0 : u.cell? ⟨g, P + 3, none⟩ = some (.bool s.pe.at_)
 a1 : u.cell? ⟨g, P + 3 + 1, none⟩ = some (.int .i64 s.pe.buf)
 a2 : u.cell? ⟨g, P + 3 + 2, none⟩ = some (.slice s.pe.dm.a s.pe.dm.n s.pe.dm.c)
 a3 : u.cell? ⟨g, P + 3 + 3, none⟩ = some (.slice s.pe.fr.a s.pe.fr.n s.pe.fr.c)
 a4 : u.cell? ⟨g, P + 3 + 4, none⟩ = some (.bool s.pe.inp)
 a5 : u.cell? ⟨g, P + 3 + 5, none⟩ = some (.bool s.pe.all)
 a6 : u.cell? ⟨g, P + 3 + 6, none⟩ = some (.slice s.pe.rg.a s.pe.rg.n s.pe.rg.c)
 a7 : u.cell? ⟨g, P + 3 + 7, none⟩ = some (.bool s.pe.ord)
 a8 : u.cell? ⟨g, P + 3 + 8, none⟩ = some (.slice s.pe.od.a s.pe.od.n s.pe.od.c)
 a9 : u.cell? ⟨g, P + 3 + 9, none⟩ = some (.slice s.pe.pl.a s.pe.pl.n s.pe.pl.c)
 b0 : u.cell? ⟨g, P + 13, none⟩ = some (.bool s.ca.at_)
 b1 : u.cell? ⟨g, P + 13 + 1, none⟩ = some (.int .i64 s.ca.buf)
 b2 : u.cell? ⟨g, P + 13 + 2, none⟩ = some (.slice s.ca.dm.a s.ca.dm.n s.ca.dm.c)
 b3 : u.cell? ⟨g, P + 13 + 3, none⟩ = some (.slice s.ca.fr.a s.ca.fr.n s.ca.fr.c)
 b4 : u.cell? ⟨g, P + 13 + 4, none⟩ = some (.bool s.ca.inp)
 b5 : u.cell? ⟨g, P + 13 + 5, none⟩ = some (.bool s.ca.all)
 b6 : u.cell? ⟨g, P + 13 + 6, none⟩ = some (.slice s.ca.rg.a s.ca.rg.n s.ca.rg.c)
 b7 : u.cell? ⟨g, P + 13 + 7, none⟩ = some (.bool s.ca.ord)
 b8 : u.cell? ⟨g, P + 13 + 8, none⟩ = some (.slice s.ca.od.a s.ca.od.n s.ca.od.c)
 b9 : u.cell? ⟨g, P + 13 + 9, none⟩ = some (.slice s.ca.pl.a s.ca.pl.n s.ca.pl.c)
 n0 : u.cell? ⟨g, P + 23, none⟩ = some (.bool s.no.at_)
 n1 : u.cell? ⟨g, P + 23 + 1, none⟩ = some (.int .i64 s.no.buf)
 n2 : u.cell? ⟨g, P + 23 + 2, none⟩ = some (.slice s.no.dm.a s.no.dm.n s.no.dm.c)
 n3 : u.cell? ⟨g, P + 23 + 3, none⟩ = some (.slice s.no.fr.a s.no.fr.n s.no.fr.c)
 n4 : u.cell? ⟨g, P + 23 + 4, none⟩ = some (.bool s.no.inp)
 n5 : u.cell? ⟨g, P + 23 + 5, none⟩ = some (.bool s.no.all)
 n6 : u.cell? ⟨g, P + 23 + 6, none⟩ = some (.slice s.no.rg.a s.no.rg.n s.no.rg.c)
 n7 : u.cell? ⟨g, P + 23 + 7, none⟩ = some (.bool s.no.ord)
 n8 : u.cell? ⟨g, P + 23 + 8, none⟩ = some (.slice s.no.od.a s.no.od.n s.no.od.c)
 n9 : u.cell? ⟨g, P + 23 + 9, none⟩ = some (.slice s.no.pl.a s.no.pl.n s.no.pl.c)
 ok : s.Ok u
variable {es : List Addr} {w0 w w' : World} {p q mm : Nat} {F : Fo} {Z : List Nat}
theorem Dq.row (h : Dq w0 q mm F w Z) {z : Int} (hz : z ∈ keys F) : ∃ g P s, (∀ u, RowKit.Below w.heap.size w u → Calls Tryz.prog 26 #[.pointer (some ⟨q, 0, none⟩), .int .i64 z] u (fun e w' => e = .returned (.pointer (some ⟨g, P, none⟩)) ∧ w' = u)) ∧ gt F z = some s.f ∧ ∀ u, RowKit.Below w.heap.size w u → C33 u g P z s := by
 obtain ⟨g1, g4, hq, v, L, hD, rfl, rfl⟩ := h
 cases hs : gt L z with
 | none =>
  have h1 := gt_some.2 hz
  rw [gt_abs, hs] at h1
  cases h1
 | some s =>
  have hnd : (keys L).Nodup := by rw [← abs_keys]; exact g4.inv.nod
  obtain ⟨i, hi, hah⟩ := at_key hs
  obtain ⟨a, c, _, _, _, _, hat⟩ := hD.val
  obtain ⟨g, _, hg, _⟩ := hat i _ hi
  refine ⟨g, i * 33, s, fun u hu => (rs_any (hD.on hu) z).mono fun _ _ ⟨r, h1, h2, h3⟩ => ⟨?_, h3⟩, by rw [gt_abs, hs]; rfl, fun u hu => ?_⟩
  ·obtain ⟨g', i', h4, h5, h6⟩ := h2.ys hs
   rw [hg] at h5
   cases h5
   have : i' = i := by
    have hl1 := (List.getElem?_eq_some_iff.1 hi).1
    have hl2 := (List.getElem?_eq_some_iff.1 h6).1
    rcases Nat.lt_or_ge i' i with h7 | h7
    ·exact absurd rfl (hah i' _ h7 h6)
    ·rcases Nat.lt_or_ge i i' with h8 | h8
     ·have k1 : (keys L)[i]? = some z := by rw [keys, List.getElem?_map, hi]; rfl
      have k2 : (keys L)[i']? = some z := by rw [keys, List.getElem?_map, h6]; rfl
      exact (((List.getElem?_inj (by rw [keys, List.length_map]; exact hl1) hnd).1 (by rw [k1, k2]))).symm
     ·omega
   rw [h1, h4, this]
  ·have hU := hD.on hu
   have ca : ∀ {j : Nat}, j < 33 → u.cell? ⟨g, i * 33 + j, none⟩ = (scs (z, s))[j]? := fun hj => hU.at_ hi hg hj
   exact ⟨(hU.glt hg).2, ca (j := 0) (by omega), ca (j := 1) (by omega), ca (j := 3) (by omega), ca (j := 4) (by omega), ca (j := 5) (by omega), ca (j := 6) (by omega), ca (j := 7) (by omega), ca (j := 8) (by omega), ca (j := 9) (by omega), ca (j := 10) (by omega), ca (j := 11) (by omega), ca (j := 12) (by omega), ca (j := 13) (by omega), ca (j := 14) (by omega), ca (j := 15) (by omega), ca (j := 16) (by omega), ca (j := 17) (by omega), ca (j := 18) (by omega), ca (j := 19) (by omega), ca (j := 20) (by omega), ca (j := 21) (by omega), ca (j := 22) (by omega), ca (j := 23) (by omega), ca (j := 24) (by omega), ca (j := 25) (by omega), ca (j := 26) (by omega), ca (j := 27) (by omega), ca (j := 28) (by omega), ca (j := 29) (by omega), ca (j := 30) (by omega), ca (j := 31) (by omega), ca (j := 32) (by omega), hU.ok _ (Df.mem hi)⟩
theorem Dq.all (h : Dq w0 q mm F w Z) : Calls Tryz.prog 41 #[.pointer (some ⟨q, 0, none⟩)] w fun e w' => ∃ a c, e = .returned (.slice a (setOf (keys F)).length c) ∧ Rz w' a (setOf (keys F)).length c (setOf (keys F)) ∧ RowKit.Below w.heap.size w w' := by
 obtain ⟨g1, g4, hq, v, L, hD, rfl, rfl⟩ := h
 refine (rall_any hD (by have := g4.inv.len; rw [abs, List.length_map] at this; exact this) (fun z hz => g4.bof.keys z (by rw [abs_keys]; exact hz))).mono fun _ _ ⟨v', h1, h2⟩ => ?_
 rw [abs_keys]
 obtain ⟨a, c, rfl, hr⟩ := own_rz0 h2.own
 exact ⟨a, c, h1, hr, h2.bel⟩
theorem Dq.hld (h : Dq w0 q mm F w Z) : Calls Tryz.prog 43 #[.pointer (some ⟨q, 0, none⟩)] w fun e w' => ∃ a c, e = .returned (.slice a (setOf (hldL F)).length c) ∧ Rz w' a (setOf (hldL F)).length c (setOf (hldL F)) ∧ RowKit.Below w.heap.size w w' := by
 obtain ⟨g1, g4, hq, v, L, hD, rfl, rfl⟩ := h
 refine (rheld_any hD (by have := g4.inv.len; rw [abs, List.length_map] at this; exact this) (fun z hz => g4.bof.hld g4.inv.nod z hz)).mono fun _ _ ⟨v', h1, h2⟩ => ?_
 obtain ⟨a, c, rfl, hr⟩ := own_rz0 h2.own
 exact ⟨a, c, h1, hr, h2.bel⟩
theorem Dq.syd (h : Dq w0 q mm F w Z) (z : Int) : Calls Tryz.prog 47 #[.pointer (some ⟨q, 0, none⟩), .int .i64 z] w fun e w' => e = .returned (.bool (syB 40 F z)) ∧ w' = w := by
 obtain ⟨g1, g4, hq, v, L, hD, rfl, rfl⟩ := h
 rw [← g4.inv.sy]
 exact rsynced_any hD g4.inv.acy _ z (Nat.le_refl _)
theorem Dq.wlk (h : Dq w0 q mm F w Z) (z : Int) : Calls Tryz.prog 50 #[.pointer (some ⟨q, 0, none⟩), .int .i64 z] w fun e w' => ∃ a c, e = .returned (.slice a (Proofs.YtdgknofpkafppaaGreatDoor.wlk F 41 z 0 0).length c) ∧ RdM 3 w' a (Proofs.YtdgknofpkafppaaGreatDoor.wlk F 41 z 0 0).length c (Proofs.YtdgknofpkafppaaGreatDoor.wlk F 41 z 0 0) ∧ RowKit.Below w.heap.size w w' := by
 obtain ⟨g1, g4, hq, v, L, hD, rfl, rfl⟩ := h
 refine (rWalk_any hD g4.inv g4.nof g4.szf z).mono fun _ _ ⟨v', h1, h2⟩ => ?_
 obtain ⟨s2, rfl, hsn, hsl, hsr, _⟩ := own_sl h2.own rfl h2.size
 rw [hsn, hsl] at hsr
 exact ⟨s2.a, s2.c, by rw [h1, Sl.v, hsn], hsr, h2.bel⟩
theorem Pg.alls (h : Pg es w0 w p mm F) : Calls Tryz.prog 42 #[.pointer (some ⟨p, 0, none⟩)] w fun e w' => ∃ a c, e = .returned (.slice a (setOf (keys F)).length c) ∧ Rz w' a (setOf (keys F)).length c (setOf (keys F)) ∧ RowKit.Below w.heap.size w w' :=
 h.all.mono fun _ _ ⟨a, c, ys, h1, h2, h3, h4, h5⟩ => by
  have e : setOf (keys F) = ys := setOf_eq h3 (fun x => by
   rw [h4]
   exact ⟨fun hx => ⟨by have := h.ok.inv.pos x hx; omega, hx⟩, fun hx => hx.2⟩)
  rw [e]
  exact ⟨a, c, h1, h2, h5⟩
theorem Pg.hlds (h : Pg es w0 w p mm F) : Calls Tryz.prog 10 #[.pointer (some ⟨p, 0, none⟩)] w fun e w' => ∃ a c, e = .returned (.slice a (setOf (hldL F)).length c) ∧ Rz w' a (setOf (hldL F)).length c (setOf (hldL F)) ∧ RowKit.Below w.heap.size w w' :=
 h.hld.mono fun _ _ ⟨a, c, ys, h1, h2, h3, h4, h5⟩ => by
  have e : setOf (hldL F) = ys := setOf_eq h3 h4
  rw [e]
  exact ⟨a, c, h1, h2, h5⟩
theorem B2q.pd (h : B2q es w0 p q mm F w) : Pg es w0 w p mm F ∧ ∃ Z, Dq w0 q mm F w Z := by
 obtain ⟨_, X, Y, h1, h2, _⟩ := h.ex
 exact ⟨h1.pg, Y, h2⟩
end
end Go.Proofs.YtdgknofpkafppaaGreatDoor
