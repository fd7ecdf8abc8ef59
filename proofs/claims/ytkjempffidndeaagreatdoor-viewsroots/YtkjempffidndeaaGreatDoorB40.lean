/- Lemmas that the proof leans on. -/
import Derived.Test.YtkjempffidndeaaGreatDoorB39
namespace Go.Proofs.YtkjempffidndeaaGreatDoor
open Go Go.RowKit
set_option maxRecDepth 100000
set_option maxHeartbeats 4000000
section
structure Bz (es : List Addr) (w0 : World) (p q mm : Nat) (F G : Fo) (g : Nat) (cs : Array Value) (X Y : List Nat) (w : World) : Prop where
 p : Pq es w0 p mm F w X
 d : Dq w0 q mm G w Y
 xy : ∀ b ∈ X, b ∉ Y
 gx : g ∉ X
 gy : g ∉ Y
 hg : w.heap[g]? = some (.cells cs 57 (0, 0))
 lo : w0.heap.size ≤ g
 er : Errs w0 gerrs es
variable {es : List Addr} {w0 w w' : World} {p q mm : Nat} {F G F' G' : Fo} {g : Nat} {cs : Array Value} {X Y : List Nat}
theorem Bq.bz (h : Bq es w0 p q mm F G g cs w) : ∃ X Y, Bz es w0 p q mm F G g cs X Y w := by
 obtain ⟨_, _, V, ⟨X, Y, h1, h2, h3, rfl⟩, ⟨h4, rfl⟩, h5, rfl⟩ := h.ex
 exact ⟨X, Y, h1, h2, h3, fun hm => h5 g (List.mem_append_left _ hm) (by simp), fun hm => h5 g (List.mem_append_right _ hm) (by simp), h4, h.lo, h.er⟩
theorem Bz.bq (h : Bz es w0 p q mm F G g cs X Y w) : Bq es w0 p q mm F G g cs w :=
 ⟨⟨_, X ++ Y, [g], ⟨X, Y, h.p, h.d, h.xy, rfl⟩, ⟨h.hg, rfl⟩, fun b hb hm => by
  obtain rfl := List.mem_singleton.1 hm
  rcases List.mem_append.1 hb with hb | hb
  ·exact h.gx hb
  ·exact h.gy hb, rfl⟩, h.lo, h.er⟩
theorem Bz.glt (h : Bz es w0 p q mm F G g cs X Y w) : g < w.heap.size := (Array.getElem?_eq_some_iff.1 h.hg).1
theorem Bz.nl (h : Bz es w0 p q mm F G g cs X Y w) (hn : Nx (Pq es w0 p (mm + 1) F') X w w') : ∃ X', Bz es w0 p q (mm + 1) F' G g cs X' Y w' ∧ Kp X w w' := by
 obtain ⟨X', h1, hk, h2⟩ := hn
 have hlo := fun b hb => ((pq_ft es w0 p mm F).lt h.p b hb).1
 refine ⟨X', ⟨h1, dq_mono ((dq_ft w0 q mm G).kept h.d hk hlo (fun b hb hm => h.xy b hm hb)) (by omega), fun b hb hm => ?_, fun hm => ?_, h.gy, ((blk_ft (T := 57) (cs := cs) h.lo).kept ⟨h.hg, rfl⟩ hk hlo (fun b hb => by
  obtain rfl := List.mem_singleton.1 hb
  exact h.gx)).1, h.lo, h.er⟩, hk⟩
 ·rcases h2 b hb with h3 | h3
  ·exact h.xy b h3 hm
  ·have := ((dq_ft w0 q mm G).lt h.d b hm).2
   omega
 ·rcases h2 g hm with h3 | h3
  ·exact h.gx h3
  ·have := h.glt
   omega
theorem Bz.nr (h : Bz es w0 p q mm F G g cs X Y w) (hn : Nx (Dq w0 q (mm + 1) G') Y w w') : ∃ Y', Bz es w0 p q (mm + 1) F G' g cs X Y' w' ∧ Kp Y w w' := by
 obtain ⟨Y', h1, hk, h2⟩ := hn
 have hlo := fun b hb => ((dq_ft w0 q mm G).lt h.d b hb).1
 refine ⟨Y', ⟨pq_mono ((pq_ft es w0 p mm F).kept h.p hk hlo (fun b hb hm => h.xy b hb hm)) (by omega), h1, fun b hb hm => ?_, h.gx, fun hm => ?_, ((blk_ft (T := 57) (cs := cs) h.lo).kept ⟨h.hg, rfl⟩ hk hlo (fun b hb => by
  obtain rfl := List.mem_singleton.1 hb
  exact h.gy)).1, h.lo, h.er⟩, hk⟩
 ·rcases h2 b hm with h3 | h3
  ·exact h.xy b hb h3
  ·have := ((pq_ft es w0 p mm F).lt h.p b hb).2
   omega
 ·rcases h2 g hm with h3 | h3
  ·exact h.gy h3
  ·have := h.glt
   omega
theorem Bz.nx (h : Bz es w0 p q mm F G g cs X Y w) {b : Nat} (hb : b ∈ Y ∨ b < w0.heap.size) : b ∉ X := fun hm => by
 rcases hb with hb | hb
 ·exact h.xy b hm hb
 ·have := ((pq_ft es w0 p mm F).lt h.p b hm).1
  omega
theorem rz_kp {a : Option Addr} {n c : Nat} {l : List Int} (h : Rz w a n c l) (hk : Kp X w w') (hX : ∀ y, a = some y → 0 < n → y.block ∉ X) : Rz w' a n c l :=
 ⟨h.len, h.le, h.max, h.hnil, fun hn => by
  obtain ⟨b, off, rfl, h1, h2⟩ := h.pl hn
  exact ⟨b, off, rfl, Nat.lt_of_lt_of_le h1 hk.size, fun j z hz => hk.cell (h2 j z hz) (hX ⟨b, off, none⟩ rfl hn)⟩⟩
theorem pq_comw (hm : mm ≤ 900) (id : Int) (hi : Bt id) (h : Pq es w0 p mm F w X) : Calls Tryz.prog 21 #[.pointer (some ⟨p, 0, none⟩), .int .i64 id] w fun e w' => (∃ a c, e = .returned (.tuple #[.slice a (comB F id).2.length c, erv es (hasE F id)]) ∧ Rz w' a (comB F id).2.length c (comB F id).2 ∧ ∀ y, a = some y → w.heap.size ≤ y.block) ∧ Nx (Pq es w0 p (mm + 1) (comB F id).1) X w w' := by
 obtain ⟨g1, g2, g3, g4, m, L, hP, rfl, hl, rfl⟩ := h
 refine (fcommit_any hm g2 g3 hP g4 id hi).mono fun e w' ⟨L', vl, h1, h2, hR⟩ => ?_
 rw [g4.inv.comF] at h2 hR
 obtain ⟨a, c, rfl, hr⟩ := own_rz0 h2
 exact ⟨⟨a, c, h1, hr, fun y hy => own_fy (s := ⟨a, (comB (pab L) id).2.length, c, []⟩) h2 y hy⟩, pqx g1 g2 g3 hP hl hR (by rw [← g4.inv.comF]; exact g4.com 41 id)⟩
theorem Bq.lcom (h : Bq es w0 p q mm F G g cs w) (hm : mm ≤ 900) (id : Int) (hi : Bt id) : ∃ Y, (∀ b ∈ Y, b < w.heap.size) ∧ Calls Tryz.prog 21 #[.pointer (some ⟨p, 0, none⟩), .int .i64 id] w fun e w' => ∃ a c, e = .returned (.tuple #[.slice a (comB F id).2.length c, erv es (hasE F id)]) ∧ Rz w' a (comB F id).2.length c (comB F id).2 ∧ (∀ y, a = some y → y.block ∉ Y) ∧ ∃ X, Bz es w0 p q (mm + 1) (comB F id).1 G g cs X Y w' := by
 obtain ⟨X, Y, hz⟩ := h.bz
 have hlt := fun b hb => ((dq_ft w0 q mm G).lt hz.d b hb).2
 refine ⟨Y, hlt, (pq_comw hm id hi hz.p).mono fun _ _ ⟨⟨a, c, h1, h2, h3⟩, hn⟩ => ?_⟩
 obtain ⟨X', h4, _⟩ := hz.nl hn
 exact ⟨a, c, h1, h2, fun y hy hm => by
  have := h3 y hy
  have := hlt _ hm
  omega, X', h4⟩
theorem Bz.rcom (h : Bz es w0 p q mm F G g cs X Y w) (hm : mm ≤ 900) (id : Int) {a : Option Addr} {n c : Nat} {l : List Int} (hr : Rz w a n c l) (ha : ∀ y, a = some y → y.block ∉ Y) : Calls Tryz.prog 55 #[.pointer (some ⟨q, 0, none⟩), .int .i64 id] w fun e w' => ∃ a' c', e = .returned (.tuple #[.slice a' (comB G id).2.length c', .int .i64 (hasE G id : Nat)]) ∧ Rz w' a' (comB G id).2.length c' (comB G id).2 ∧ Rz w' a n c l ∧ Bq es w0 p q (mm + 1) F (comB G id).1 g cs w' :=
 (dq_com hm id w Y h.d).mono fun _ _ ⟨⟨a', c', h1, h2⟩, hn⟩ => by
  obtain ⟨Y', h3, hk⟩ := h.nr hn
  exact ⟨a', c', h1, h2, rz_kp hr hk (fun y hy _ => ha y hy), h3.bq⟩
theorem Bz.ltak (h : Bz es w0 p q mm F G g cs X Y w) (hm : mm ≤ 900) (id : Int) (hi : Bt id) {a : Option Addr} {n c : Nat} {l : List Int} (hr : Rz w a n c l) (ha : ∀ y, a = some y → 0 < n → y.block ∉ X) : Calls Tryz.prog 53 #[.pointer (some ⟨p, 0, none⟩), .int .i64 id] w fun e w' => ∃ s : Sl, e = .returned (.slice s.a s.n s.c) ∧ Rz w' s.a s.n s.c (un1 (takL F id)) ∧ Rz w' a n c l ∧ Bq es w0 p q (mm + 1) (upd F id takS) G g cs w' :=
 (pq_tak hm id hi w X h.p).mono fun _ _ ⟨⟨s, h1, h2, h3⟩, hn⟩ => by
  obtain ⟨X', h4, hk⟩ := h.nl hn
  exact ⟨s, h1, by rw [← h2]; exact rz_of_rdm h3, rz_kp hr hk ha, h4.bq⟩
theorem zeq_self (l : List Int) : zeq l l = true := by simp [zeq]
end
section
variable {es : List Addr} {w0 w w' : World} {p q mm : Nat} {F : Fo}
theorem stp_com13 (h : B2q es w0 p q mm F w) (hm : mm ≤ 890) (o : Oq) (ok : o.Ok w) (hv : plc o.k 19 = 13) :
  Calls Tryz.prog 18 #[.pointer (some ⟨p, 0, none⟩), .pointer (some ⟨q, 0, none⟩), .agg #[.int .i64 o.k, .int .i64 o.id, .int .i64 o.a, .int .i64 o.b, .int .i64 o.x, .int .i64 o.y, .int .i64 o.w, .int .i64 o.h, .slice o.l.a o.l.n o.l.c]] w (StR es w0 p q mm) := by
 have hm1 : mm ≤ 900 := by omega
 have hm2 : mm + 1 ≤ 900 := by omega
 have hO := h.bo #[.int .i64 o.k, .int .i64 o.id, .int .i64 o.a, .int .i64 o.b, .int .i64 o.x, .int .i64 o.y, .int .i64 o.w, .int .i64 o.h, .slice o.l.a o.l.n o.l.c]
 have okl := ok.l.on (bel_new w (.cells #[.int .i64 o.k, .int .i64 o.id, .int .i64 o.a, .int .i64 o.b, .int .i64 o.x, .int .i64 o.y, .int .i64 o.w, .int .i64 o.h, .slice o.l.a o.l.n o.l.c] 57))
 have HP := hid (place_any o.k 19 ok.k (by omega) (by omega))
 rw [hv] at HP
 obtain ⟨Y, hY, hYg, hW⟩ := hO.dat
 obtain ⟨r, hc, hr⟩ := hY.s o.id
 have HC := hid hc
 have HW := hid hW
 have HOKL := hid okl
 clear h hc hv hW okl
 go_enter Tryz.func18, Tryz.ntmps18
 go_wp2_with fail
 refine HC.out.mono ?_
 rintro e W ⟨rfl, hW1⟩
 obtain rfl : W = _ := hW1
 clear HC
 generalize w.alloc (.cells #[.int .i64 o.k, .int .i64 o.id, .int .i64 o.a, .int .i64 o.b, .int .i64 o.x, .int .i64 o.y, .int .i64 o.w, .int .i64 o.h, .slice o.l.a o.l.n o.l.c] 57) = W at *
 generalize w.heap.size = g at *
 clear hYg HW HOKL hY
 rcases hr with ⟨rfl, _⟩ | ⟨gd, P, s, rfl, _, _⟩
 all_goals
  have oc := hO.oc
  have c0 := oc.c0
  have l0 := oc.lt
  go_wp2_with fail
  refine (HP.out _).mono ?_
  rintro e W1 ⟨rfl, hW2⟩
  obtain rfl : W1 = W := hW2
  clear HP c0 l0 oc
  obtain ⟨t0, t1, t2, t3, t4, t5, t6, t7, t8, t9⟩ := hO.oc
  obtain ⟨Y1, _, hc1⟩ := hO.lcom hm1 o.id ok.id
  have CA := hid hc1
  clear hO hc1
  go_wp2_with fail
  refine CA.out.mono ?_
  rintro e W2 ⟨a1, c1, rfl, hr1, hy1, X1, hz1⟩
  clear CA t0 t1 t2 t3 t4 t5 t6 t7 t8 t9
  obtain ⟨t0, t1, t2, t3, t4, t5, t6, t7, t8, t9⟩ := hz1.bq.oc
  have CB := hid (hz1.rcom hm2 o.id hr1 hy1)
  clear hz1 hr1 hy1
  go_wp2_with fail
  refine CB.out.mono ?_
  rintro e W3 ⟨a2, c2, rfl, hr2, hr3, hO4⟩
  clear CB t0 t1 t2 t3 t4 t5 t6 t7 t8 t9
  have CS := hid (samez_any _ _ _ _ _ _ _ _ _ hr3 hr2)
  have HO4 := hid hO4
  clear hr2 hr3 hO4
  go_wp2_with fail
  refine CS.out.mono ?_
  rintro e W4 ⟨rfl, q4, rfl⟩
  rw [zeq_self]
  have CK := hid ((HO4.out.on (below_drewN (Below.refl _ _) q4)).kind _ (hasE_le F o.id))
  clear CS HO4
  generalize W3.drewN q4 = W5 at *
  generalize hasE F o.id = kk at *
  go_wp2_with fail
  refine CK.out.mono ?_
  rintro e W6 ⟨rfl, hO6⟩
  have HF := hid hO6
  clear hO6 CK
  go_wp2
  go_ret
  exact ⟨rfl, _, HF.out.two (by omega)⟩
theorem stp_com14 (h : B2q es w0 p q mm F w) (hm : mm ≤ 890) (o : Oq) (ok : o.Ok w) (hv : plc o.k 19 = 14) :
  Calls Tryz.prog 18 #[.pointer (some ⟨p, 0, none⟩), .pointer (some ⟨q, 0, none⟩), .agg #[.int .i64 o.k, .int .i64 o.id, .int .i64 o.a, .int .i64 o.b, .int .i64 o.x, .int .i64 o.y, .int .i64 o.w, .int .i64 o.h, .slice o.l.a o.l.n o.l.c]] w (StR es w0 p q mm) := by
 have hm1 : mm ≤ 900 := by omega
 have hm2 : mm + 1 ≤ 900 := by omega
 have hO := h.bo #[.int .i64 o.k, .int .i64 o.id, .int .i64 o.a, .int .i64 o.b, .int .i64 o.x, .int .i64 o.y, .int .i64 o.w, .int .i64 o.h, .slice o.l.a o.l.n o.l.c]
 have okl := ok.l.on (bel_new w (.cells #[.int .i64 o.k, .int .i64 o.id, .int .i64 o.a, .int .i64 o.b, .int .i64 o.x, .int .i64 o.y, .int .i64 o.w, .int .i64 o.h, .slice o.l.a o.l.n o.l.c] 57))
 have HP := hid (place_any o.k 19 ok.k (by omega) (by omega))
 rw [hv] at HP
 obtain ⟨Y, hY, hYg, hW⟩ := hO.dat
 obtain ⟨r, hc, hr⟩ := hY.s o.id
 have HC := hid hc
 have HW := hid hW
 have HOKL := hid okl
 clear h hc hv hW okl
 go_enter Tryz.func18, Tryz.ntmps18
 go_wp2_with fail
 refine HC.out.mono ?_
 rintro e W ⟨rfl, hW1⟩
 obtain rfl : W = _ := hW1
 clear HC
 generalize w.alloc (.cells #[.int .i64 o.k, .int .i64 o.id, .int .i64 o.a, .int .i64 o.b, .int .i64 o.x, .int .i64 o.y, .int .i64 o.w, .int .i64 o.h, .slice o.l.a o.l.n o.l.c] 57) = W at *
 generalize w.heap.size = g at *
 clear hYg HW HOKL hY
 rcases hr with ⟨rfl, _⟩ | ⟨gd, P, s, rfl, _, _⟩
 all_goals
  have oc := hO.oc
  have c0 := oc.c0
  have l0 := oc.lt
  go_wp2_with fail
  refine (HP.out _).mono ?_
  rintro e W1 ⟨rfl, hW2⟩
  obtain rfl : W1 = W := hW2
  clear HP c0 l0 oc
  obtain ⟨t0, t1, t2, t3, t4, t5, t6, t7, t8, t9⟩ := hO.oc
  obtain ⟨Y1, _, hc1⟩ := hO.lcom hm1 o.id ok.id
  have CA := hid hc1
  clear hO hc1
  go_wp2_with fail
  refine CA.out.mono ?_
  rintro e W2 ⟨a1, c1, rfl, hr1, hy1, X1, hz1⟩
  clear CA t0 t1 t2 t3 t4 t5 t6 t7 t8 t9
  obtain ⟨t0, t1, t2, t3, t4, t5, t6, t7, t8, t9⟩ := hz1.bq.oc
  have CB := hid (hz1.rcom hm2 o.id hr1 hy1)
  clear hz1 hr1 hy1
  go_wp2_with fail
  refine CB.out.mono ?_
  rintro e W3 ⟨a2, c2, rfl, hr2, hr3, hO4⟩
  clear CB t0 t1 t2 t3 t4 t5 t6 t7 t8 t9
  have CS := hid (samez_any _ _ _ _ _ _ _ _ _ hr3 hr2)
  have HO4 := hid hO4
  clear hr2 hr3 hO4
  go_wp2_with fail
  refine CS.out.mono ?_
  rintro e W4 ⟨rfl, q4, rfl⟩
  rw [zeq_self]
  have CK := hid ((HO4.out.on (below_drewN (Below.refl _ _) q4)).kind _ (hasE_le F o.id))
  clear CS HO4
  generalize W3.drewN q4 = W5 at *
  generalize hasE F o.id = kk at *
  go_wp2_with fail
  refine CK.out.mono ?_
  rintro e W6 ⟨rfl, hO6⟩
  have HF := hid hO6
  clear hO6 CK
  go_wp2
  go_ret
  exact ⟨rfl, _, HF.out.two (by omega)⟩
theorem stp_com15 (h : B2q es w0 p q mm F w) (hm : mm ≤ 890) (o : Oq) (ok : o.Ok w) (hv : plc o.k 19 = 15) :
  Calls Tryz.prog 18 #[.pointer (some ⟨p, 0, none⟩), .pointer (some ⟨q, 0, none⟩), .agg #[.int .i64 o.k, .int .i64 o.id, .int .i64 o.a, .int .i64 o.b, .int .i64 o.x, .int .i64 o.y, .int .i64 o.w, .int .i64 o.h, .slice o.l.a o.l.n o.l.c]] w (StR es w0 p q mm) := by
 have hm1 : mm ≤ 900 := by omega
 have hm2 : mm + 1 ≤ 900 := by omega
 have hO := h.bo #[.int .i64 o.k, .int .i64 o.id, .int .i64 o.a, .int .i64 o.b, .int .i64 o.x, .int .i64 o.y, .int .i64 o.w, .int .i64 o.h, .slice o.l.a o.l.n o.l.c]
 have okl := ok.l.on (bel_new w (.cells #[.int .i64 o.k, .int .i64 o.id, .int .i64 o.a, .int .i64 o.b, .int .i64 o.x, .int .i64 o.y, .int .i64 o.w, .int .i64 o.h, .slice o.l.a o.l.n o.l.c] 57))
 have HP := hid (place_any o.k 19 ok.k (by omega) (by omega))
 rw [hv] at HP
 obtain ⟨Y, hY, hYg, hW⟩ := hO.dat
 obtain ⟨r, hc, hr⟩ := hY.s o.id
 have HC := hid hc
 have HW := hid hW
 have HOKL := hid okl
 clear h hc hv hW okl
 go_enter Tryz.func18, Tryz.ntmps18
 go_wp2_with fail
 refine HC.out.mono ?_
 rintro e W ⟨rfl, hW1⟩
 obtain rfl : W = _ := hW1
 clear HC
 generalize w.alloc (.cells #[.int .i64 o.k, .int .i64 o.id, .int .i64 o.a, .int .i64 o.b, .int .i64 o.x, .int .i64 o.y, .int .i64 o.w, .int .i64 o.h, .slice o.l.a o.l.n o.l.c] 57) = W at *
 generalize w.heap.size = g at *
 clear hYg HW HOKL hY
 rcases hr with ⟨rfl, _⟩ | ⟨gd, P, s, rfl, _, _⟩
 all_goals
  have oc := hO.oc
  have c0 := oc.c0
  have l0 := oc.lt
  go_wp2_with fail
  refine (HP.out _).mono ?_
  rintro e W1 ⟨rfl, hW2⟩
  obtain rfl : W1 = W := hW2
  clear HP c0 l0 oc
  obtain ⟨t0, t1, t2, t3, t4, t5, t6, t7, t8, t9⟩ := hO.oc
  obtain ⟨Y1, _, hc1⟩ := hO.lcom hm1 o.id ok.id
  have CA := hid hc1
  clear hO hc1
  go_wp2_with fail
  refine CA.out.mono ?_
  rintro e W2 ⟨a1, c1, rfl, hr1, hy1, X1, hz1⟩
  clear CA t0 t1 t2 t3 t4 t5 t6 t7 t8 t9
  obtain ⟨t0, t1, t2, t3, t4, t5, t6, t7, t8, t9⟩ := hz1.bq.oc
  have CB := hid (hz1.rcom hm2 o.id hr1 hy1)
  clear hz1 hr1 hy1
  go_wp2_with fail
  refine CB.out.mono ?_
  rintro e W3 ⟨a2, c2, rfl, hr2, hr3, hO4⟩
  clear CB t0 t1 t2 t3 t4 t5 t6 t7 t8 t9
  have CS := hid (samez_any _ _ _ _ _ _ _ _ _ hr3 hr2)
  have HO4 := hid hO4
  clear hr2 hr3 hO4
  go_wp2_with fail
  refine CS.out.mono ?_
  rintro e W4 ⟨rfl, q4, rfl⟩
  rw [zeq_self]
  have CK := hid ((HO4.out.on (below_drewN (Below.refl _ _) q4)).kind _ (hasE_le F o.id))
  clear CS HO4
  generalize W3.drewN q4 = W5 at *
  generalize hasE F o.id = kk at *
  go_wp2_with fail
  refine CK.out.mono ?_
  rintro e W6 ⟨rfl, hO6⟩
  have HF := hid hO6
  clear hO6 CK
  go_wp2
  go_ret
  exact ⟨rfl, _, HF.out.two (by omega)⟩
theorem stp_com16 (h : B2q es w0 p q mm F w) (hm : mm ≤ 890) (o : Oq) (ok : o.Ok w) (hv : plc o.k 19 = 16) :
  Calls Tryz.prog 18 #[.pointer (some ⟨p, 0, none⟩), .pointer (some ⟨q, 0, none⟩), .agg #[.int .i64 o.k, .int .i64 o.id, .int .i64 o.a, .int .i64 o.b, .int .i64 o.x, .int .i64 o.y, .int .i64 o.w, .int .i64 o.h, .slice o.l.a o.l.n o.l.c]] w (StR es w0 p q mm) := by
 have hm1 : mm ≤ 900 := by omega
 have hm2 : mm + 1 ≤ 900 := by omega
 have hO := h.bo #[.int .i64 o.k, .int .i64 o.id, .int .i64 o.a, .int .i64 o.b, .int .i64 o.x, .int .i64 o.y, .int .i64 o.w, .int .i64 o.h, .slice o.l.a o.l.n o.l.c]
 have okl := ok.l.on (bel_new w (.cells #[.int .i64 o.k, .int .i64 o.id, .int .i64 o.a, .int .i64 o.b, .int .i64 o.x, .int .i64 o.y, .int .i64 o.w, .int .i64 o.h, .slice o.l.a o.l.n o.l.c] 57))
 have HP := hid (place_any o.k 19 ok.k (by omega) (by omega))
 rw [hv] at HP
 obtain ⟨Y, hY, hYg, hW⟩ := hO.dat
 obtain ⟨r, hc, hr⟩ := hY.s o.id
 have HC := hid hc
 have HW := hid hW
 have HOKL := hid okl
 clear h hc hv hW okl
 go_enter Tryz.func18, Tryz.ntmps18
 go_wp2_with fail
 refine HC.out.mono ?_
 rintro e W ⟨rfl, hW1⟩
 obtain rfl : W = _ := hW1
 clear HC
 generalize w.alloc (.cells #[.int .i64 o.k, .int .i64 o.id, .int .i64 o.a, .int .i64 o.b, .int .i64 o.x, .int .i64 o.y, .int .i64 o.w, .int .i64 o.h, .slice o.l.a o.l.n o.l.c] 57) = W at *
 generalize w.heap.size = g at *
 clear hYg HW HOKL hY
 rcases hr with ⟨rfl, _⟩ | ⟨gd, P, s, rfl, _, _⟩
 all_goals
  have oc := hO.oc
  have c0 := oc.c0
  have l0 := oc.lt
  go_wp2_with fail
  refine (HP.out _).mono ?_
  rintro e W1 ⟨rfl, hW2⟩
  obtain rfl : W1 = W := hW2
  clear HP c0 l0 oc
  obtain ⟨t0, t1, t2, t3, t4, t5, t6, t7, t8, t9⟩ := hO.oc
  obtain ⟨Y1, _, hc1⟩ := hO.lcom hm1 o.id ok.id
  have CA := hid hc1
  clear hO hc1
  go_wp2_with fail
  refine CA.out.mono ?_
  rintro e W2 ⟨a1, c1, rfl, hr1, hy1, X1, hz1⟩
  clear CA t0 t1 t2 t3 t4 t5 t6 t7 t8 t9
  obtain ⟨t0, t1, t2, t3, t4, t5, t6, t7, t8, t9⟩ := hz1.bq.oc
  have CB := hid (hz1.rcom hm2 o.id hr1 hy1)
  clear hz1 hr1 hy1
  go_wp2_with fail
  refine CB.out.mono ?_
  rintro e W3 ⟨a2, c2, rfl, hr2, hr3, hO4⟩
  clear CB t0 t1 t2 t3 t4 t5 t6 t7 t8 t9
  have CS := hid (samez_any _ _ _ _ _ _ _ _ _ hr3 hr2)
  have HO4 := hid hO4
  clear hr2 hr3 hO4
  go_wp2_with fail
  refine CS.out.mono ?_
  rintro e W4 ⟨rfl, q4, rfl⟩
  rw [zeq_self]
  have CK := hid ((HO4.out.on (below_drewN (Below.refl _ _) q4)).kind _ (hasE_le F o.id))
  clear CS HO4
  generalize W3.drewN q4 = W5 at *
  generalize hasE F o.id = kk at *
  go_wp2_with fail
  refine CK.out.mono ?_
  rintro e W6 ⟨rfl, hO6⟩
  have HF := hid hO6
  clear hO6 CK
  go_wp2
  go_ret
  exact ⟨rfl, _, HF.out.two (by omega)⟩
theorem stp_com17 (h : B2q es w0 p q mm F w) (hm : mm ≤ 890) (o : Oq) (ok : o.Ok w) (hv : plc o.k 19 = 17) :
  Calls Tryz.prog 18 #[.pointer (some ⟨p, 0, none⟩), .pointer (some ⟨q, 0, none⟩), .agg #[.int .i64 o.k, .int .i64 o.id, .int .i64 o.a, .int .i64 o.b, .int .i64 o.x, .int .i64 o.y, .int .i64 o.w, .int .i64 o.h, .slice o.l.a o.l.n o.l.c]] w (StR es w0 p q mm) := by
 have hm1 : mm ≤ 900 := by omega
 have hm2 : mm + 1 ≤ 900 := by omega
 have hO := h.bo #[.int .i64 o.k, .int .i64 o.id, .int .i64 o.a, .int .i64 o.b, .int .i64 o.x, .int .i64 o.y, .int .i64 o.w, .int .i64 o.h, .slice o.l.a o.l.n o.l.c]
 have okl := ok.l.on (bel_new w (.cells #[.int .i64 o.k, .int .i64 o.id, .int .i64 o.a, .int .i64 o.b, .int .i64 o.x, .int .i64 o.y, .int .i64 o.w, .int .i64 o.h, .slice o.l.a o.l.n o.l.c] 57))
 have HP := hid (place_any o.k 19 ok.k (by omega) (by omega))
 rw [hv] at HP
 obtain ⟨Y, hY, hYg, hW⟩ := hO.dat
 obtain ⟨r, hc, hr⟩ := hY.s o.id
 have HC := hid hc
 have HW := hid hW
 have HOKL := hid okl
 clear h hc hv hW okl
 go_enter Tryz.func18, Tryz.ntmps18
 go_wp2_with fail
 refine HC.out.mono ?_
 rintro e W ⟨rfl, hW1⟩
 obtain rfl : W = _ := hW1
 clear HC
 generalize w.alloc (.cells #[.int .i64 o.k, .int .i64 o.id, .int .i64 o.a, .int .i64 o.b, .int .i64 o.x, .int .i64 o.y, .int .i64 o.w, .int .i64 o.h, .slice o.l.a o.l.n o.l.c] 57) = W at *
 generalize w.heap.size = g at *
 clear hYg HW HOKL hY
 rcases hr with ⟨rfl, _⟩ | ⟨gd, P, s, rfl, _, _⟩
 all_goals
  have oc := hO.oc
  have c0 := oc.c0
  have l0 := oc.lt
  go_wp2_with fail
  refine (HP.out _).mono ?_
  rintro e W1 ⟨rfl, hW2⟩
  obtain rfl : W1 = W := hW2
  clear HP c0 l0 oc
  obtain ⟨t0, t1, t2, t3, t4, t5, t6, t7, t8, t9⟩ := hO.oc
  obtain ⟨Y1, _, hc1⟩ := hO.lcom hm1 o.id ok.id
  have CA := hid hc1
  clear hO hc1
  go_wp2_with fail
  refine CA.out.mono ?_
  rintro e W2 ⟨a1, c1, rfl, hr1, hy1, X1, hz1⟩
  clear CA t0 t1 t2 t3 t4 t5 t6 t7 t8 t9
  obtain ⟨t0, t1, t2, t3, t4, t5, t6, t7, t8, t9⟩ := hz1.bq.oc
  have CB := hid (hz1.rcom hm2 o.id hr1 hy1)
  clear hz1 hr1 hy1
  go_wp2_with fail
  refine CB.out.mono ?_
  rintro e W3 ⟨a2, c2, rfl, hr2, hr3, hO4⟩
  clear CB t0 t1 t2 t3 t4 t5 t6 t7 t8 t9
  have CS := hid (samez_any _ _ _ _ _ _ _ _ _ hr3 hr2)
  have HO4 := hid hO4
  clear hr2 hr3 hO4
  go_wp2_with fail
  refine CS.out.mono ?_
  rintro e W4 ⟨rfl, q4, rfl⟩
  rw [zeq_self]
  have CK := hid ((HO4.out.on (below_drewN (Below.refl _ _) q4)).kind _ (hasE_le F o.id))
  clear CS HO4
  generalize W3.drewN q4 = W5 at *
  generalize hasE F o.id = kk at *
  go_wp2_with fail
  refine CK.out.mono ?_
  rintro e W6 ⟨rfl, hO6⟩
  have HF := hid hO6
  clear hO6 CK
  go_wp2
  go_ret
  exact ⟨rfl, _, HF.out.two (by omega)⟩
end
end Go.Proofs.YtkjempffidndeaaGreatDoor
