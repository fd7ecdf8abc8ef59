/- Lemmas that the proof leans on. -/
import Derived.Test.YtdgknofpkafppaaGreatDoorB10
namespace Go.Proofs.YtdgknofpkafppaaGreatDoor
open Go Go.RowKit
section
def Bt (z : Int) : Prop := -9223372036854775808 ≤ z ∧ z ≤ 9223372036854775807
structure Bus (s : Sf) : Prop where
 pe : Bt s.pe.buf
 ca : Bt s.ca.buf
 no : Bt s.no.buf
structure Bof (F : Fo) : Prop where
 keys : ∀ x ∈ Go.Proofs.YtdgknofpkafppaaGreatDoor.keys F, Bt x
 bus : ∀ x s, gt F x = some s → Bus s
theorem bt0 : Bt 0 := ⟨by decide, by decide⟩
theorem bus_sf0 : Bus sf0 := ⟨bt0, bt0, bt0⟩
theorem Bof.turn {F : Fo} (h : Bof F) (id : Int) (f : Sf → Sf) (hf : ∀ s, Bus s → Bus (f s)) : Bof (upd F id f) := ⟨by rw [keys_upd]; exact h.keys, fun x s hs => by
 rw [gt_upd] at hs
 split at hs
 ·obtain ⟨t, ht, rfl⟩ := Option.map_eq_some_iff.1 hs
  exact hf t (h.bus _ t ht)
 ·exact h.bus x s hs⟩
theorem Bus.keep {s t : Sf} (h : Bus s) (h1 : t.pe.buf = s.pe.buf) (h2 : t.ca.buf = s.ca.buf) (h3 : t.no.buf = s.no.buf) : Bus t := ⟨by rw [h1]; exact h.pe, by rw [h2]; exact h.ca, by rw [h3]; exact h.no⟩
theorem mrg_bt {a b : Sq} (ha : Bt a.buf) (hb : Bt b.buf) : Bt (mrg a b).buf := by
 simp only [mrg]
 cases b.at_
 ·exact ha
 ·exact hb
theorem apl_bt {a b : Sq} (ha : Bt a.buf) (hb : Bt b.buf) : Bt (apl a b).buf := mrg_bt (a := a) (b := b) ha hb
theorem Bus.apls {s : Sf} (h : Bus s) : Bus (aplS s) := ⟨h.pe, bt0, apl_bt h.no h.ca⟩
theorem Bus.cacs {s : Sf} (h : Bus s) : Bus (cacS s) := ⟨bt0, mrg_bt h.ca h.pe, h.no⟩
theorem Bus.coms {s : Sf} (h : Bus s) : Bus (comS s) := by rw [coms_eq]; exact h.cacs.apls
theorem Bus.att {s : Sf} (h : Bus s) {z : Int} (hz : Bt z) : Bus (attS z s) := ⟨hz, h.ca, h.no⟩
theorem bof_nil : Bof [] := ⟨(fun _ h => by cases h), (fun _ _ h => by cases h)⟩
theorem Bof.add {F : Fo} (h : Bof F) {id : Int} (hz : Bt id) : Bof (addF F id) := by
 unfold addF
 split
 ·refine ⟨fun x hx => ?_, fun x s hs => ?_⟩
  ·rw [Go.Proofs.YtdgknofpkafppaaGreatDoor.keys, List.map_append, List.mem_append] at hx
   rcases hx with hx | hx
   ·exact h.keys x hx
   ·simp only [List.map_cons, List.map_nil, List.mem_singleton] at hx
    rw [hx]
    exact hz
  ·rw [gt_app] at hs
   split at hs
   ·exact h.bus x s hs
   ·split at hs
    ·cases hs
     exact bus_sf0
    ·cases hs
 ·exact h
theorem Bof.uns {F : Fo} (h : Bof F) (id : Int) : Bof (unsF F id) := by
 unfold unsF
 split
 ·exact h
 ·split
  ·exact h
  ·exact (h.turn _ (outS id) fun s hs => hs.keep rfl rfl rfl).turn _ (fun s => { s with par := 0 }) fun s hs => hs.keep rfl rfl rfl
theorem keys_gt {F : Fo} {x : Int} (h : x ∈ keys F) : ∃ s, gt F x = some s := by
 cases hs : gt F x with
 | none => exact absurd h (gt_none.1 hs)
 | some s => exact ⟨s, rfl⟩
theorem gt_keys {F : Fo} {x : Int} {s : Sf} (h : gt F x = some s) : x ∈ keys F := by
 by_cases hm : x ∈ keys F
 ·exact hm
 ·rw [gt_none.2 hm] at h
  cases h
theorem Bof.drp {F : Fo} (h : Bof F) (id : Int) : Bof (drpF F id) := by
 cases hs : gt F id with
 | none =>
  unfold drpF
  rw [hs]
  exact h
 | some s =>
  have hb : ∀ x t, gt (drpF F id) x = some t → Bus t ∧ Bt x := fun x t ht => by
   rw [drpF_gt hs] at ht
   split at ht
   ·cases ht
   ·obtain ⟨u, hu, rfl⟩ := Option.map_eq_some_iff.1 ht
    have := (h.uns id).bus x u hu
    refine ⟨?_, (h.uns id).keys x (gt_keys hu)⟩
    unfold selfS
    split
    ·exact this.keep rfl rfl rfl
    ·exact this
  exact ⟨fun x hx => by obtain ⟨t, ht⟩ := keys_gt hx; exact (hb x t ht).2, fun x t ht => (hb x t ht).1⟩
theorem Bof.sub {F : Fo} (h : Bof F) (id p : Int) : Bof (subF F id p) := by
 unfold subF
 split
 ·have h1 : Bof (upd F id fun s => { s with par := p, syn := true }) := h.turn _ _ fun s hs => hs.keep rfl rfl rfl
  exact h1.turn _ _ fun s hs => hs.keep rfl rfl rfl
 ·exact h
theorem Bof.posn {F : Fo} (h : Bof F) (id x y : Int) : Bof (posF F id x y) := by
 unfold posF
 split
 ·exact h
 ·split
  ·exact h
  ·exact h.turn _ _ fun s hs => hs.keep rfl rfl rfl
theorem Bof.put {F : Fo} (h : Bof F) (id by_ : Int) (b : Nat) : Bof (putF F id by_ b) := by
 unfold putF
 split
 ·exact h
 ·exact h.turn _ _ fun s hs => hs.keep rfl rfl rfl
theorem Bof.syn {F : Fo} (h : Bof F) (id : Int) (on : Bool) : Bof (synF F id on) := by
 unfold synF
 split
 ·exact h
 ·rename_i s hs
  split
  ·exact h
  ·refine ⟨by rw [keys_st]; exact h.keys, fun x t ht => ?_⟩
   rw [gt_st] at ht
   split at ht
   ·rw [hs] at ht
    cases ht
    exact (h.bus _ _ hs).keep rfl rfl rfl
   ·exact h.bus x t ht
theorem kds_bof : ∀ (n : Nat) (F : Fo) (x : Int) (l : List Int), Bof F → Bof (kds n F x l).1
 | 0, _, _, _, h => h
 | n + 1, F, x, l, h => by
  rw [kds_succ]
  split
  ·exact h
  ·have hst : ∀ (r : Fo × List Int) (k : Int), Bof r.1 → Bof (kst n r k).1 := fun r k hr => by
    unfold kst
    split
    ·exact hr
    ·split
     ·exact hr
     ·split
      ·exact kds_bof n _ _ _ hr
      ·exact kds_bof n _ _ _ (hr.turn _ _ fun s hs => hs.apls)
   have hf : ∀ (L : List Int) (r : Fo × List Int), Bof r.1 → Bof (L.foldl (kst n) r).1 := fun L => by
    induction L with
    | nil => exact fun r hr => hr
    | cons k L ih => exact fun r hr => ih _ (hst r k hr)
   exact hf _ (F, l) h
theorem Bof.com {F : Fo} (h : Bof F) (n : Nat) (id : Int) : Bof (comF n F id).1 := by
 rw [comF_eq]
 split
 ·exact h
 ·split
  ·exact h.turn _ _ fun s hs => hs.cacs
  ·exact kds_bof n _ _ _ (h.turn _ _ fun s hs => hs.coms)
theorem gt_in {F : Fo} (hn : (keys F).Nodup) {e : Int × Sf} (he : e ∈ F) : gt F e.1 = some e.2 := by
 induction F with
 | nil => cases he
 | cons a F ih =>
  rw [Go.Proofs.YtdgknofpkafppaaGreatDoor.keys, List.map_cons, List.nodup_cons] at hn
  rw [gt]
  rcases List.mem_cons.1 he with rfl | he
  ·exact if_pos rfl
  ·rw [if_neg (fun e' => hn.1 (by rw [e']; exact List.mem_map_of_mem (f := fun e : Int × Sf => e.1) he))]
   exact ih hn.2 he
theorem Bof.hld {F : Fo} (h : Bof F) (hn : (Go.Proofs.YtdgknofpkafppaaGreatDoor.keys F).Nodup) : ∀ z ∈ hldL F, Bt z := fun z hz => by
 obtain ⟨e, he, hm⟩ := List.mem_flatMap.1 hz
 have hb := h.bus _ _ (gt_in hn he)
 rcases List.mem_append.1 hm with hm | hm
 ·cases hc : e.2.ca.at_ with
  | true =>
   rw [hc] at hm
   simp only [cond_true, List.mem_singleton] at hm
   rw [hm]
   exact hb.ca
  | false =>
   rw [hc] at hm
   cases hm
 ·simp only [List.mem_singleton] at hm
  rw [hm]
  exact hb.no
end
section
structure Fok (m : Nat) (F : Fo) : Prop where
 inv : Inv F
 nof : Nof F
 szf : Szf m F
 bof : Bof F
theorem fok_nil : Fok 0 [] := ⟨inv_nil, nof_nil, szf_nil, bof_nil⟩
theorem Fok.mono {m n : Nat} {F : Fo} (h : Fok m F) (hm : m ≤ n) : Fok n F := ⟨h.inv, h.nof, h.szf.mono hm, h.bof⟩
variable {m : Nat} {F : Fo}
theorem Fok.add (h : Fok m F) {id : Int} (hz : Bt id) : Fok (m + 1) (addF F id) := ⟨h.inv.add id, h.nof.add id, h.szf.add id, h.bof.add hz⟩
theorem Fok.drp (h : Fok m F) (id : Int) : Fok (m + 1) (drpF F id) := ⟨h.inv.drp id, h.nof.drp id, (h.szf.drp id).mono (by omega), h.bof.drp id⟩
theorem Fok.sub (h : Fok m F) (id p : Int) : Fok (m + 1) (subF F id p) := ⟨h.inv.sub id p, h.nof.sub id p, h.szf.sub id p, h.bof.sub id p⟩
theorem Fok.uns (h : Fok m F) (id : Int) : Fok (m + 1) (unsF F id) := ⟨h.inv.uns id, h.nof.uns id, (h.szf.uns id).mono (by omega), h.bof.uns id⟩
theorem Fok.att (h : Fok m F) (id : Int) {b : Int} (hb : Bt b) : Fok (m + 1) (upd F id (attS b)) := ⟨h.inv.att id b, h.nof.turn _ _ fun _ _ hs => hs.keep rfl rfl rfl, h.szf.turn (by omega) _ _ fun _ hs => hs.att b, h.bof.turn _ _ fun _ hs => hs.att hb⟩
theorem Fok.dmg (h : Fok m F) (id : Int) (r : List Int) : Fok (m + 1) (upd F id (dmgS r)) := ⟨h.inv.dmg id r, h.nof.turn _ _ fun _ _ hs => hs.keep rfl rfl rfl, h.szf.turn (by omega) _ _ fun _ hs => hs.dmg r, h.bof.turn _ _ fun _ hs => hs.keep rfl rfl rfl⟩
theorem Fok.frm (h : Fok m F) (id c : Int) : Fok (m + 1) (upd F id (frmS c)) := ⟨h.inv.frm id c, h.nof.turn _ _ fun _ _ hs => hs.keep rfl rfl rfl, h.szf.turn (by omega) _ _ fun _ hs => hs.frm c, h.bof.turn _ _ fun _ hs => hs.keep rfl rfl rfl⟩
theorem Fok.inp (h : Fok m F) (id : Int) (a : Bool) {l : List (List Int)} (hl : l.length ≤ 20) : Fok (m + 1) (upd F id (inpS a l)) := ⟨h.inv.inp id a l, h.nof.turn _ _ fun _ _ hs => hs.keep rfl rfl rfl, h.szf.turn (by omega) _ _ fun _ hs => hs.inp a l hl, h.bof.turn _ _ fun _ hs => hs.keep rfl rfl rfl⟩
theorem Fok.posn (h : Fok m F) (id x y : Int) : Fok (m + 1) (posF F id x y) := ⟨h.inv.posn id x y, h.nof.posn id x y, h.szf.posn id x y, h.bof.posn id x y⟩
theorem Fok.put (h : Fok m F) (id by_ : Int) (b : Nat) : Fok (m + 1) (putF F id by_ b) := ⟨h.inv.put id by_ b, h.nof.put id by_ b, h.szf.put id by_ b, h.bof.put id by_ b⟩
theorem Fok.syn (h : Fok m F) (id : Int) (on : Bool) : Fok (m + 1) (synF F id on) := ⟨h.inv.syn id on, h.nof.syn id on, (h.szf.syn id on).mono (by omega), h.bof.syn id on⟩
theorem Fok.tak (h : Fok m F) (id : Int) : Fok (m + 1) (upd F id takS) := ⟨h.inv.tak id, h.nof.turn _ _ fun _ _ hs => hs.keep rfl rfl rfl, h.szf.turn (by omega) _ _ fun _ hs => hs.tak, h.bof.turn _ _ fun _ hs => hs.keep rfl rfl rfl⟩
theorem Fok.com (h : Fok m F) (n : Nat) (id : Int) : Fok (m + 1) (comF n F id).1 := ⟨h.inv.com n id, h.nof.com n id, (h.szf.com n id).mono (by omega), h.bof.com n id⟩
end
end Go.Proofs.YtdgknofpkafppaaGreatDoor
