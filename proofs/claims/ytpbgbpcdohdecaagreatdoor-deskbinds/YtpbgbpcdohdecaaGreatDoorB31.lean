/- Lemmas that the proof leans on. -/
import Derived.Test.YtpbgbpcdohdecaaGreatDoorB30
namespace Go.Proofs.YtpbgbpcdohdecaaGreatDoor
open Go Go.RowKit
set_option maxRecDepth 100000
set_option maxHeartbeats 1000000
section
section
variable {es : List Addr} {w0 w w' : World} {a : Da} {mm n : Nat} {d d' : Dsk} {X Z : List Nat} {i : Int} {k : Kl} {c : Ca}
theorem clt_var (h : Tcl w0 c i k w X) : ∃ v, w.heap[c.q]? = some (.cells (clv c i v) 84 (0, 0)) ∧ ∀ e, v.ownBlock = some e → e ≠ c.q := by
 obtain ⟨Y, h1, _⟩ := (lcl_ev k.ev).get h
 obtain ⟨_, _, L, v, h2, _, _⟩ := h1
 exact ⟨v, h2.var, fun e he e' => h2.nv (by rw [he, e'])⟩
def facD (d : Dsk) (i id : Int) : Int := match d.kli i with
 | some k => (k.ids id).1
 | none => 0
theorem dface_any (h : Dke es w0 a mm d w Z) (i id : Int) (hi : -9223372036854775808 ≤ i ∧ i ≤ 9223372036854775807) (hdi : -9223372036854775808 ≤ id ∧ id ≤ 9223372036854775807) :
  Calls Tryz.prog 16 #[ptz a.p, .int .i64 i, .int .i64 id] w fun e w' => e = .returned (.int .i64 (facD d i id)) ∧ Below w.heap.size w w' := by
 have HC := hid (dcli_any h i hi)
 cases hk : d.kli i with
 | none =>
  rw [clq_none hk] at HC
  have HF : Hid (facD d i id = 0) := by rw [Hid, facD, hk]
  clear h hk
  go_enter Tryz.func16, Tryz.ntmps16
  go_wp2_with fail
  refine HC.out.mono ?_
  rintro e w1 ⟨rfl, hb⟩
  have HB := hid hb
  clear hb HC
  go_wp2
  go_ret
  exact ⟨by rw [HF.out]; rfl, HB.out⟩
 | some k =>
  obtain ⟨c, hc, Y, hY, _⟩ := h.clt hk
  rw [clq_some hk hc] at HC
  have HF : Hid (facD d i id = (k.ids id).1) := by rw [Hid, facD, hk]
  have HY := hid hY
  clear h hk hc hY
  go_enter Tryz.func16, Tryz.ntmps16
  go_wp2_with fail
  refine HC.out.mono ?_
  rintro e w1 ⟨rfl, hb⟩
  have h1 := (tcl_ft w0 c i k).on HY.out hb
  obtain ⟨v, hv, _⟩ := clt_var h1
  have c1 : w1.cell? ⟨c.q, 1, none⟩ = some (ptz c.ob) := by rw [Lib.cell_of_heap hv]; rfl
  have l1 : c.q < w1.heap.size := (Array.getElem?_eq_some_iff.1 hv).1
  obtain ⟨Y2, h2, _⟩ := (lcl_ids k.ids).get h1
  have HT := hid (h2.face id hdi)
  have HB := hid hb
  clear hb HC h1 h2 hv HY
  go_wp2_with fail
  refine HT.out.mono ?_
  rintro e w2 ⟨rfl, rfl⟩
  go_wp2
  go_ret
  exact ⟨by rw [HF.out]; rfl, HB.out⟩
structure RdEv (w : World) (x : Option Addr) (n c : Nat) (ev : List Evt) : Prop where
 le : n ≤ c
 max : c ≤ 9223372036854775807
 len : ev.length = n
 pl : ∃ L : List (Evt × Slh), L.map (·.1) = ev ∧ (∀ e ∈ L, RdA w e.2.1 e.2.2.1 e.2.2.2 e.1.l) ∧ (0 < n → ∃ g, x = some ⟨g, 0, none⟩ ∧ g < w.heap.size ∧ ∀ j u, (L.flatMap evc)[j]? = some u → w.cell? ⟨g, j, none⟩ = some u)
theorem RdEv.on {x : Option Addr} {n c : Nat} {ev : List Evt} (h : RdEv w x n c ev) (hb : Below w.heap.size w w') : RdEv w' x n c ev := by
 obtain ⟨L, h1, h2, h3⟩ := h.pl
 refine ⟨h.le, h.max, h.len, L, h1, fun e he => (h2 e he).kpz (kp_of_below hb []) (by simp), fun hn => ?_⟩
 obtain ⟨g, h4, h5, h6⟩ := h3 hn
 exact ⟨g, h4, Nat.lt_of_lt_of_le h5 hb.size, fun j u hu => by rw [hb.cell h5]; exact h6 j u hu⟩
theorem RdEv.nil (w : World) : RdEv w none 0 0 [] := ⟨Nat.le_refl _, by decide, rfl, [], rfl, by simp, fun h => absurd h (by omega)⟩
theorem evc_at {L : List (Evt × Slh)} {j : Nat} {e : Evt × Slh} (h : L[j]? = some e) : (L.flatMap evc)[4 * j]? = some (.int .i64 e.1.face) ∧ (L.flatMap evc)[4 * j + 1]? = some (.int .i64 e.1.o) ∧ (L.flatMap evc)[4 * j + 2]? = some (.int .i64 e.1.q) ∧ (L.flatMap evc)[4 * j + 3]? = some (.slice e.2.1 e.2.2.1 e.2.2.2) := by
 induction L generalizing j with
 | nil => simp at h
 | cons y L ih =>
  have e0 : (y :: L).flatMap evc = .int .i64 y.1.face :: .int .i64 y.1.o :: .int .i64 y.1.q :: .slice y.2.1 y.2.2.1 y.2.2.2 :: L.flatMap evc := rfl
  cases j with
  | zero =>
   simp only [List.getElem?_cons_zero, Option.some.injEq] at h
   subst h
   rw [e0]
   exact ⟨rfl, rfl, rfl, rfl⟩
  | succ j =>
   obtain ⟨h1, h2, h3, h4⟩ := ih (j := j) (by simpa using h)
   rw [e0, show 4 * (j + 1) = 4 * j + 1 + 1 + 1 + 1 by omega]
   simp only [List.getElem?_cons_succ]
   exact ⟨h1, h2, h3, h4⟩
theorem RdEv.el {x : Option Addr} {n c : Nat} {ev : List Evt} (h : RdEv w x n c ev) {j : Nat} {e : Evt} (he : ev[j]? = some e) : ∃ g y m k, x = some ⟨g, 0, none⟩ ∧ g < w.heap.size ∧ j < n ∧ w.cell? ⟨g, 4 * j, none⟩ = some (.int .i64 e.face) ∧ w.cell? ⟨g, 4 * j + 1, none⟩ = some (.int .i64 e.o) ∧ w.cell? ⟨g, 4 * j + 2, none⟩ = some (.int .i64 e.q) ∧ w.cell? ⟨g, 4 * j + 3, none⟩ = some (.slice y m k) ∧ RdA w y m k e.l := by
 obtain ⟨L, h1, h2, h3⟩ := h.pl
 have hj := (List.getElem?_eq_some_iff.1 he).1
 have hn := h.len
 obtain ⟨g, h4, h5, h6⟩ := h3 (by omega)
 rw [← h1, List.getElem?_map] at he
 obtain ⟨y, hy, rfl⟩ := Option.map_eq_some_iff.1 he
 obtain ⟨e1, e2, e3, e4⟩ := evc_at hy
 exact ⟨g, _, _, _, h4, h5, by omega, h6 _ _ e1, h6 _ _ e2, h6 _ _ e3, h6 _ _ e4, h2 y (List.mem_of_getElem? hy)⟩
theorem TvR.rd {L : List (Evt × Slh)} {x : Option Addr} {cv : Nat} (h : TvR w0 c i L (.slice x L.length cv) w) : RdEv w x L.length cv (L.map (·.1)) := by
 obtain ⟨x', c', e, h1, h2, h3⟩ := own_cells h.row
 cases e
 exact ⟨h1, h2, by simp, L, rfl, h.arg, fun hn => by
  obtain ⟨g, h4, _, h5, _, h6⟩ := h3 hn
  exact ⟨g, h4, h5, h6⟩⟩
theorem tv_take {L : List (Evt × Slh)} {v : Value} (h0 : RowKit.Below w0.heap.size w0 w) (hq : w0.heap.size ≤ c.q) (h : TvR w0 c i L v w) : Nx (Tv w0 c i []) (tvb c L v) w (w.setCell ⟨c.q, 4, none⟩ (.slice none 0 0)) := by
 have hk : Kp [c.q] w (w.setCell ⟨c.q, 4, none⟩ (.slice none 0 0)) := (Kp.refl [c.q] w).set ⟨c.q, 4, none⟩ (by simp) _
 refine ⟨[c.q], ⟨h0.trans (hk.below h0.size (fun b hb => by rw [List.mem_singleton.1 hb]; exact hq)), hq, [], .slice none 0 0, ⟨heap_setCell_same _ _ _ _ _ _ h.var, World.ownsRow_nil _ _ _ _, by simp, by simp, by simp [Value.ownBlock]⟩, rfl, by simp [tvb, Value.ownBlock]⟩, hk.mono (fun b hb _ => by rw [List.mem_singleton.1 hb]; exact List.mem_cons_self ..), fun b hb => .inl ?_⟩
 rw [List.mem_singleton.1 hb]
 exact List.mem_cons_self ..
def evD (d : Dsk) (i : Int) : List Evt := match d.kli i with
 | some k => k.ev
 | none => []
def evN (d : Dsk) (i : Int) : Dsk := match d.kli i with
 | some k => d.kput i { k with ev := [] }
 | none => d
theorem dev_any (h : Dke es w0 a mm d w Z) (i : Int) (hi : -9223372036854775808 ≤ i ∧ i ≤ 9223372036854775807) :
  Calls Tryz.prog 9 #[ptz a.p, .int .i64 i] w fun e w' => ∃ x n c, e = .returned (.slice x n c) ∧ RdEv w' x n c (evD d i) ∧ Nx (Dke es w0 a mm (evN d i)) Z w w' := by
 have HC := hid (dcli_any h i hi)
 have HH := hid h
 cases hk : d.kli i with
 | none =>
  rw [clq_none hk] at HC
  have HF : Hid (evD d i = [] ∧ evN d i = d) := by rw [Hid, evD, evN, hk]; exact ⟨rfl, rfl⟩
  clear h hk
  go_enter Tryz.func9, Tryz.ntmps9
  go_wp2_with fail
  refine HC.out.mono ?_
  rintro e w1 ⟨rfl, hb⟩
  have HB := hid hb
  clear hb HC
  go_wp2
  go_ret
  rw [HF.out.1, HF.out.2]
  exact ⟨none, 0, 0, rfl, RdEv.nil _, Nx.refl (dt_ft es w0 a mm d) HH.out HB.out⟩
 | some k =>
  obtain ⟨c, hc⟩ := h.ca hk
  rw [clq_some hk hc] at HC
  have HF : Hid (evD d i = k.ev ∧ evN d i = d.kput i { k with ev := [] }) := by rw [Hid, evD, evN, hk]; exact ⟨rfl, rfl⟩
  have HL : Hid (Ln (Dke es w0 a mm d) (Tv w0 c i k.ev) (Dke es w0 a mm (d.kput i { k with ev := [] })) (Tv w0 c i [])) :=
   Ln.trans (ldt_cl hk hc (fun hok => hok.kput_ i (Nat.le_refl _) hok.mx (by simp))) (lcl_ev [])
  clear h hk hc
  go_enter Tryz.func9, Tryz.ntmps9
  go_wp2_with fail
  refine HC.out.mono ?_
  rintro e w1 ⟨rfl, hb⟩
  have HB := hid hb
  obtain ⟨Y, hY, _, hN⟩ := HL.out w1 Z ((dt_ft es w0 a mm d).on HH.out hb)
  obtain ⟨h0, hq, L, v, hT, hev, rfl⟩ := hY
  obtain ⟨x, cv, rfl, _, _, _⟩ := own_cells hT.row
  have HT := hid (tv_take h0 hq hT)
  have HNN := hid hN
  have hR := hT.rd
  have hks : Kp [c.q] w1 (w1.setCell ⟨c.q, 4, none⟩ (.slice none 0 0)) := (Kp.refl [c.q] w1).set ⟨c.q, 4, none⟩ (by simp) _
  have HR : Hid (RdEv (w1.setCell ⟨c.q, 4, none⟩ (.slice none 0 0)) x L.length cv k.ev) := by
   rw [← hev]
   have hold : ∀ e ∈ L, ∀ b ∈ abl e.2, b ∉ [c.q] := fun e he b hb hm => (hT.old b (List.mem_flatMap.2 ⟨e, he, hb⟩)).2.1 (List.mem_singleton.1 hm)
   obtain ⟨x', c', e', h1, h2, h3⟩ := own_cells (ownsRow_set hT.row ⟨c.q, 4, none⟩ hT.nv (.slice none 0 0))
   cases e'
   exact ⟨h1, h2, by simp, L, rfl, fun e he => (hT.arg e he).kpz hks (hold e he), fun hn => by
    obtain ⟨g, h4, _, h5, _, h6⟩ := h3 hn
    exact ⟨g, h4, h5, h6⟩⟩
  have c4 : w1.cell? ⟨c.q, 4, none⟩ = some (.slice x L.length cv) := by rw [Lib.cell_of_heap hT.var]; rfl
  have f4 := Lib.frozen_of_heap hT.var 4
  have lq : c.q < w1.heap.size := (Array.getElem?_eq_some_iff.1 hT.var).1
  clear hb HC hT hN hR h0 hq hev hks HL
  go_wp2
  go_ret
  rw [HF.out.1, HF.out.2]
  exact ⟨x, _, cv, rfl, HR.out, Nx.before (HNN.out _ HT.out) HB.out⟩
end
end
section
section
variable {es : List Addr} {w0 w w' : World} {c : Ca} {i : Int} {k : Kl} {X : List Nat}
theorem errs_method (h : Errs w gerrs es) : w.cell? ⟨7, 0, none⟩ = some (.iface 392 (.pointer (some (es.getD 5 ⟨0, 0, none⟩)))) := by
 have hl : es.length = 16 := h.len
 have := (h.each 5 7 _ rfl (List.getElem?_eq_getElem (by omega))).1
 rw [this, List.getD, List.getElem?_eq_getElem (by omega)]
 rfl
theorem tcl_bel (h : Tcl w0 c i k w X) : RowKit.Below w0.heap.size w0 w := by
 obtain ⟨Y, ⟨h0, _⟩, _⟩ := (lcl_ev k.ev).get h
 exact h0
theorem rdi_one (u : World) (n : Int) (hn : -9223372036854775808 ≤ n ∧ n ≤ 9223372036854775807) : RdI .i64 (u.alloc (.cells #[.int .i64 n] 3)) (some ⟨u.heap.size, 0, none⟩) 1 1 [n] := by
 refine ⟨rfl, Nat.le_refl _, by decide, (fun h => by cases h), fun x hx j hj => ?_, fun z hz => ?_⟩
 ·cases hx
  obtain rfl : j = 0 := by omega
  simp [Addr.add]
 ·obtain rfl := List.mem_singleton.1 hz
  simp [Lit.wf, IntKind.min, IntKind.max, IntKind.signed, IntKind.bits]
  omega
theorem clt_tell (hE : Errs w0 gerrs es) (h : Tcl w0 c i k w X) (face o q : Int) (x : Option Addr) (n cc : Nat) (ns : List Int) (hr : RdI .i64 w x n cc ns) (hl : n ≤ (evS face q).length) (hn : n ≤ 1000) (hev : k.ev.length ≤ 4000000) :
  Calls Tryz.prog 57 #[ptz c.q, .int .i64 face, .int .i64 o, .int .i64 q, .slice x n cc] w fun e w' => (∃ v, e = .returned v) ∧ Nx (Tcl w0 c i (k.etell face o q ns)) X w w' := by
 obtain ⟨Y, hY, _, hN⟩ := (lcl_ev (w0 := w0) (a := c) (i := i) (k := k) (k.ev ++ [⟨face, o, q, tla face q ns⟩])) w X h
 exact (tell_any hY face o q x n cc ns hr hl hn hev _ (errs_method (hE.below (tcl_bel h)))).mono fun _ w' ⟨h1, h2⟩ => ⟨h1, hN w' h2⟩
end
end
section
section
variable {es : List Addr} {w0 w w' : World} {c : Ca} {i : Int} {k : Kl} {X : List Nat}
def regE (id : Int) (j : Nat) : Evt := ⟨2, id, 0, [anm 117 (j + 1), ⟨115, 0, ⟨(nmS (glF j)).toArray⟩⟩, anm 117 (glV j)]⟩
def kregs (k : Kl) (id : Int) (j : Nat) : Kl := { k with ev := k.ev ++ (List.range j).map (regE id) }
theorem kregs_succ (k : Kl) (id : Int) (j : Nat) : kregs k id (j + 1) = (kregs k id j).esend 2 id 0 (regE id j).l := by
 simp [kregs, Kl.esend, List.range_succ, regE]
theorem clt_send {w1 : World} (h : Tcl w0 c i k w X) (hb : Below w.heap.size w w1) (face o q : Int) (x : Option Addr) (n cc : Nat) (l : List AV) (hr : RdA w1 x n cc l) (hx : ∀ b ∈ abl (x, n, cc), w.heap.size ≤ b) (hev : k.ev.length ≤ 4000000) :
  Calls Tryz.prog 103 #[ptz c.q, .int .i64 face, .int .i64 o, .int .i64 q, .slice x n cc] w1 fun e w' => (∃ v, e = .returned v) ∧ Nx (Tcl w0 c i (k.esend face o q l)) X w w' := by
 obtain ⟨Y, hY, _, hN⟩ := (lcl_ev (w0 := w0) (a := c) (i := i) (k := k) (k.ev ++ [⟨face, o, q, l⟩])) w X h
 exact (send_any hY hb face o q x n cc l hr hx hev).mono fun _ w' ⟨h1, h2⟩ => ⟨h1, hN w' h2⟩
theorem rda_mk (u : World) (l : List AV) (T : TypeId) (hn : l.length ≤ 1000) (hl : ∀ x ∈ l, x.Ok) : RdA (u.alloc (.cells (acs l).toArray T)) (some ⟨u.heap.size, 0, none⟩) l.length l.length l := by
 refine ⟨rfl, Nat.le_refl _, by simp only [maxLen]; omega, (fun h => by cases h), fun x hx j v hv => ?_, hl⟩
 cases hx
 rw [Go.WideShapes.add_plain, Nat.zero_add, World.cell?_alloc_at _ _ _ _ rfl]
 simpa using hv
theorem gl_ix0 (u : World) : (Instr.index 245 (.agg #[.int .i64 4, .int .i64 4, .int .i64 5, .int .i64 1, .int .i64 10, .int .i64 1, .int .i64 12, .int .i64 5, .int .i64 15, .int .i64 1]) (.int .i64 0)).run Tryz.prog u = .ok (.agg #[.int .i64 4, .int .i64 4]) u := by kernel_rfl
theorem gl_ix1 (u : World) : (Instr.index 245 (.agg #[.int .i64 4, .int .i64 4, .int .i64 5, .int .i64 1, .int .i64 10, .int .i64 1, .int .i64 12, .int .i64 5, .int .i64 15, .int .i64 1]) (.int .i64 1)).run Tryz.prog u = .ok (.agg #[.int .i64 5, .int .i64 1]) u := by kernel_rfl
theorem gl_ix2 (u : World) : (Instr.index 245 (.agg #[.int .i64 4, .int .i64 4, .int .i64 5, .int .i64 1, .int .i64 10, .int .i64 1, .int .i64 12, .int .i64 5, .int .i64 15, .int .i64 1]) (.int .i64 2)).run Tryz.prog u = .ok (.agg #[.int .i64 10, .int .i64 1]) u := by kernel_rfl
theorem gl_ix3 (u : World) : (Instr.index 245 (.agg #[.int .i64 4, .int .i64 4, .int .i64 5, .int .i64 1, .int .i64 10, .int .i64 1, .int .i64 12, .int .i64 5, .int .i64 15, .int .i64 1]) (.int .i64 3)).run Tryz.prog u = .ok (.agg #[.int .i64 12, .int .i64 5]) u := by kernel_rfl
theorem gl_ix4 (u : World) : (Instr.index 245 (.agg #[.int .i64 4, .int .i64 4, .int .i64 5, .int .i64 1, .int .i64 10, .int .i64 1, .int .i64 12, .int .i64 5, .int .i64 15, .int .i64 1]) (.int .i64 4)).run Tryz.prog u = .ok (.agg #[.int .i64 15, .int .i64 1]) u := by kernel_rfl
theorem gl_index (j : Nat) (hj : j < 5) (u : World) : (Instr.index 245 (.agg #[.int .i64 4, .int .i64 4, .int .i64 5, .int .i64 1, .int .i64 10, .int .i64 1, .int .i64 12, .int .i64 5, .int .i64 15, .int .i64 1]) (.int .i64 j)).run Tryz.prog u = .ok (.agg #[.int .i64 (glF j), .int .i64 (glV j)]) u := by
 match j, hj with
 | 0, _ => exact gl_ix0 u
 | 1, _ => exact gl_ix1 u
 | 2, _ => exact gl_ix2 u
 | 3, _ => exact gl_ix3 u
 | 4, _ => exact gl_ix4 u
theorem gl_bd (j : Nat) (hj : j < 5) : 0 ≤ glF j ∧ glF j ≤ 17 ∧ 0 ≤ glV j ∧ glV j ≤ 5 ∧ (nmS (glF j)).length ≤ 100 := by
 match j, hj with
 | 0, _ => decide
 | 1, _ => decide
 | 2, _ => decide
 | 3, _ => decide
 | 4, _ => decide
theorem regE_ok (id : Int) (j : Nat) (hj : j < 5) : ∀ x ∈ (regE id j).l, x.Ok := by
 obtain ⟨_, _, h3, h4, h5⟩ := gl_bd j hj
 intro x hx
 simp only [regE, List.mem_cons, List.not_mem_nil, or_false] at hx
 rcases hx with rfl | rfl | rfl
 ·exact ⟨by simp [anm], by simp [anm]; omega, by simp [anm]; omega, by simp [anm, ByteArray.size]⟩
 ·exact ⟨by simp, by simp, by simp, by simp [ByteArray.size, maxLen]; omega⟩
 ·exact ⟨by simp [anm], by simp [anm]; omega, by simp [anm]; omega, by simp [anm, ByteArray.size]⟩
theorem askdisp_reg (h : Tcl w0 c i k w X) (hG : Glb w) (o : Int) (x : Option Addr) (n cc : Nat) (l : List AV) (hr : RdA w x n cc l) (hn : 1 ≤ n) (ser : Int) (hev : k.ev.length ≤ 3000000) :
  Calls Tryz.prog 79 #[ptz c.q, .agg #[.int .i64 o, .int .i64 1, .slice x n cc], .int .i64 ser] w fun e w' => (∃ v, e = .returned v) ∧ Nx (Tcl w0 c i (kregs k (l.getD 0 av0).n 5)) X w w' := by
 have hlen := hr.len
 obtain ⟨bs, off, rfl, hbs, hcz⟩ := hr.plain (by omega)
 obtain ⟨y0, hy0⟩ : ∃ y, l[0]? = some y := ⟨_, List.getElem?_eq_getElem (by omega)⟩
 have d0 := (hcz 0 y0 hy0).2.1
 have hc1 := hr.le
 have hc2 := hr.max
 simp only [maxLen] at hc2
 have e0 : l.getD 0 av0 = y0 := by rw [List.getD_eq_getElem?_getD, hy0]; rfl
 rw [e0]
 obtain ⟨id, hid0⟩ : ∃ id, id = y0.n := ⟨_, rfl⟩
 rw [← hid0] at d0 ⊢
 have HH := hid h
 have g0 : w.cell? ⟨17, 0, none⟩ = some (.int .i64 4) := hG 0 (by decide)
 have g1 : w.cell? ⟨17, 1, none⟩ = some (.int .i64 4) := hG 1 (by decide)
 have g2 : w.cell? ⟨17, 2, none⟩ = some (.int .i64 5) := hG 2 (by decide)
 have g3 : w.cell? ⟨17, 3, none⟩ = some (.int .i64 1) := hG 3 (by decide)
 have g4 : w.cell? ⟨17, 4, none⟩ = some (.int .i64 10) := hG 4 (by decide)
 have g5 : w.cell? ⟨17, 5, none⟩ = some (.int .i64 1) := hG 5 (by decide)
 have g6 : w.cell? ⟨17, 6, none⟩ = some (.int .i64 12) := hG 6 (by decide)
 have g7 : w.cell? ⟨17, 7, none⟩ = some (.int .i64 5) := hG 7 (by decide)
 have g8 : w.cell? ⟨17, 8, none⟩ = some (.int .i64 15) := hG 8 (by decide)
 have g9 : w.cell? ⟨17, 9, none⟩ = some (.int .i64 1) := hG 9 (by decide)
 have lg := World.block_lt_of_cell? _ _ g0
 simp only [Nat.zero_mul, Nat.add_zero] at d0
 have HB := hid (bel_mkK w (.cells #[.int .i64 o, .int .i64 1, .slice (some ⟨bs, off, none⟩) n cc] 42))
 clear hr hcz hy0 e0 hid0 hG h
 go_enter Tryz.func79, Tryz.ntmps79
 go_wp2
 clear g0 g1 g2 g3 g4 g5 g6 g7 g8 g9
 go_loopw [28] (fun v wr => ∃ j : Nat, v = .int .i64 j ∧ j ≤ 5 ∧ Nx (Tcl w0 c i (kregs k id j)) X w wr) (fun v _ => 5 - (numOf v).toNat)
 case atStart => exact ⟨0, rfl, by omega, Nx.refl (tcl_ft w0 c i _) (by simpa [kregs] using HH.out) HB.out⟩
 case round =>
  obtain ⟨j, rfl, hj, hN⟩ := hrel
  have HN := hid hN
  by_cases hgo : j < 5
  ·have e1 : decide ((j : Int) < 5) = true := decide_eq_true (by omega)
   have hix := gl_index j hgo
   have HOK := hid (regE_ok id j hgo)
   have HS : Hid (∀ (w1 : World), Below wr.heap.size wr w1 → ∀ (u : World) (g : Nat), u = w1.alloc (.cells (acs (regE id j).l).toArray 34) → g = w1.heap.size → Calls Tryz.prog 103 #[ptz c.q, .int .i64 2, .int .i64 id, .int .i64 0, .slice (some ⟨g, 0, none⟩) 3 3] u fun e w' => (∃ v, e = .returned v) ∧ Nx (Tcl w0 c i (kregs k id (j + 1))) X w w') := fun w1 hb1 u g hu hg => by
    obtain ⟨X1, h1, k1, s1⟩ := hN
    subst hu hg
    have hr3 := rda_mk w1 (regE id j).l 34 (by simp [regE]) (regE_ok id j hgo)
    refine (clt_send h1 (hb1.alloc hb1.size _) 2 id 0 _ 3 3 (regE id j).l hr3 (fun b hb => ?_) (by simp [kregs]; omega)).mono fun _ w' ⟨q1, q2⟩ => ⟨q1, Nx.trans ⟨h1, k1, s1⟩ (by rw [kregs_succ]; exact q2)⟩
    obtain ⟨_, y, hy, rfl⟩ := mem_abl.1 hb
    cases hy
    exact hb1.size
   obtain ⟨_, _, hv1, hv2, hv3⟩ := gl_bd j hgo
   have HNM := hid (fun u => Name_any (glF j) u)
   have HE : Hid ((acs (regE id j).l).toArray = #[.int .u8 117, .int .i64 ((j : Int) + 1), .string ⟨#[]⟩, .int .u8 115, .int .i64 0, .string ⟨(nmS (glF j)).toArray⟩, .int .u8 117, .int .i64 (glV j), .string ⟨#[]⟩]) := rfl
   generalize glF j = gf at *
   generalize glV j = gv at *
   clear hN
   go_wp2_with fail
   refine (HNM.out _).mono ?_
   rintro e w2 ⟨rfl, hb2⟩
   have hv8 := (kp_of_below hb2 []).var ((kp_of_below (bel_mkK _ _) []).var (heap_alloc_new wr (.cells #[.int .i64 gf, .int .i64 gv] 244)) (by simp)) (by simp)
   have hv9 := (kp_of_below hb2 []).var (heap_alloc_new (wr.alloc (.cells #[.int .i64 gf, .int .i64 gv] 244)) (.cells #[.int .u8 117, .int .i64 ((j : Int) + 1), .string ⟨#[]⟩] 34)) (by simp)
   rw [World.size_alloc] at hv9
   have c8 : w2.cell? ⟨wr.heap.size, 1, none⟩ = some (.int .i64 gv) := by rw [Lib.cell_of_heap hv8]; rfl
   have l8 : wr.heap.size < w2.heap.size := (Array.getElem?_eq_some_iff.1 hv8).1
   have d0' : w2.cell? ⟨wr.heap.size + 1, 0, none⟩ = some (.int .u8 117) := by rw [Lib.cell_of_heap hv9]; rfl
   have d1' : w2.cell? ⟨wr.heap.size + 1, 1, none⟩ = some (.int .i64 ((j : Int) + 1)) := by rw [Lib.cell_of_heap hv9]; rfl
   have d2' : w2.cell? ⟨wr.heap.size + 1, 2, none⟩ = some (.string ⟨#[]⟩) := by rw [Lib.cell_of_heap hv9]; rfl
   have l9 : wr.heap.size + 1 < w2.heap.size := (Array.getElem?_eq_some_iff.1 hv9).1
   have HB2 : Hid (Below wr.heap.size wr w2) := Below.on (Below.on (bel_mkK wr _) (bel_mkK _ _)) hb2
   clear hb2 hv8 hv9 HNM
   go_wp2_with fail
   refine (HS.out ((w2.alloc (.cells #[.int .u8 115, .int .i64 0, .string ⟨(nmS gf).toArray⟩] 34)).alloc (.cells #[.int .u8 117, .int .i64 gv, .string ⟨#[]⟩] 34)) (Below.on (Below.on HB2.out (bel_mkK _ _)) (bel_mkK _ _)) _ _ (by rw [HE.out]) (by simp)).mono ?_
   rintro e w3 ⟨⟨v3, rfl⟩, hN3⟩
   have HN3 := hid hN3
   clear hN3 HS HE
   go_wp2
   go_roundw
   case rel => exact ⟨j + 1, by go_num, by omega, HN3.out⟩
   case measure => simp [numOf]; omega
  ·obtain rfl : j = 5 := by omega
   have e1 : decide (((5 : Nat) : Int) < 5) = false := by decide
   clear hN
   go_wp2
   go_end0
   exact ⟨⟨_, rfl⟩, HN.out⟩
end
end
section
section
variable {es : List Addr} {w0 w w' : World} {c : Ca} {i : Int} {k : Kl} {X : List Nat}
def kgreet (k : Kl) (id : Int) : Kl := if (k.ids id).1 = 5 then (k.etell 5 id 0 [0]).etell 5 id 0 [1] else if (k.ids id).1 = 12 then k.etell 12 id 0 [3] else k
theorem greet_any (hE : Errs w0 gerrs es) (h : Tcl w0 c i k w X) (o q : Int) (x : Option Addr) (n cc : Nat) (l : List AV) (hr : RdA w x n cc l) (hn : 4 ≤ n) (hev : k.ev.length ≤ 3000000) :
  Calls Tryz.prog 80 #[ptz c.q, .agg #[.int .i64 o, .int .i64 q, .slice x n cc]] w fun e w' => (∃ v, e = .returned v) ∧ Nx (Tcl w0 c i (kgreet k (l.getD 3 av0).n)) X w w' := by
 have hlen := hr.len
 obtain ⟨bs, off, rfl, hbs, hcz⟩ := hr.plain (by omega)
 obtain ⟨y3, hy3⟩ : ∃ y, l[3]? = some y := ⟨_, List.getElem?_eq_getElem (by omega)⟩
 have d3 := (hcz 3 y3 hy3).2.1
 have hw3 := hr.wf y3 (List.mem_of_getElem? hy3)
 have hc1 := hr.le
 have hc2 := hr.max
 simp only [maxLen] at hc2
 have e3 : l.getD 3 av0 = y3 := by rw [List.getD_eq_getElem?_getD, hy3]; rfl
 rw [e3]
 obtain ⟨id, hid0⟩ : ∃ id, id = y3.n := ⟨_, rfl⟩
 have hi1 := hw3.lo
 have hi2 := hw3.hi
 rw [← hid0] at d3 hi1 hi2 ⊢
 have hB := bel_mkK w (.cells #[.int .i64 o, .int .i64 q, .slice (some ⟨bs, off, none⟩) n cc] 42)
 have h1 := (tcl_ft w0 c i k).on h hB
 obtain ⟨v, hv, _⟩ := clt_var h1
 have c1 : (w.alloc (.cells #[.int .i64 o, .int .i64 q, .slice (some ⟨bs, off, none⟩) n cc] 42)).cell? ⟨c.q, 1, none⟩ = some (ptz c.ob) := by rw [Lib.cell_of_heap hv]; rfl
 have l1 : c.q < w.heap.size := by
  obtain ⟨v0, hv0, _⟩ := clt_var h
  exact (Array.getElem?_eq_some_iff.1 hv0).1
 have c1' : w.cell? ⟨c.q, 1, none⟩ = some (ptz c.ob) := by
  obtain ⟨v0, hv0, _⟩ := clt_var h
  rw [Lib.cell_of_heap hv0]; rfl
 obtain ⟨Y2, h2, _⟩ := (lcl_ids k.ids).get h1
 have HT := hid (h2.face id ⟨hi1, hi2⟩)
 have HH := hid h1
 have HB := hid hB
 have HE := hid hE
 have HG : Hid (kgreet k id = if (k.ids id).1 = 5 then (k.etell 5 id 0 [0]).etell 5 id 0 [1] else if (k.ids id).1 = 12 then k.etell 12 id 0 [3] else k) := rfl
 obtain ⟨f, hf⟩ : ∃ f, f = (k.ids id).1 := ⟨_, rfl⟩
 rw [← hf] at HT HG
 clear hr hcz hy3 e3 hid0 hw3 h h1 h2 hv hB hE hf
 go_enter Tryz.func80, Tryz.ntmps80
 go_wp2_with fail
 refine HT.out.mono ?_
 rintro e w1 ⟨rfl, rfl⟩
 generalize w.alloc (.cells #[.int .i64 o, .int .i64 q, .slice (some ⟨bs, off, none⟩) n cc] 42) = W at *
 by_cases hf5 : f = 5
 ·have e5 : decide (f = 5) = true := decide_eq_true hf5
  have HQ : Hid (kgreet k id = (k.etell 5 id 0 [0]).etell 5 id 0 [1]) := by rw [Hid, HG.out, if_pos hf5]
  have HT1 := hid (clt_tell HE.out ((tcl_ft w0 c i _).on HH.out (bel_mkK W (.cells #[.int .i64 0] 3))) 5 id 0 _ 1 1 [0] (rdi_one W 0 (by decide)) (by decide) (by decide) (by omega))
  subst hf5
  clear HT HG c1 c1'
  go_wp2_with fail
  refine HT1.out.mono ?_
  rintro e w2 ⟨⟨v2, rfl⟩, hN⟩
  obtain ⟨X1, q1, k1, s1⟩ := Nx.before hN (bel_mkK W _)
  have HT2 := hid (clt_tell HE.out ((tcl_ft w0 c i _).on q1 (bel_mkK w2 (.cells #[.int .i64 1] 3))) 5 id 0 _ 1 1 [1] (rdi_one w2 1 (by decide)) (by decide) (by decide) (by simp [Kl.etell, Kl.esend]; omega))
  have HQ1 := hid q1
  have HK1 := hid k1
  have HS1 := hid s1
  clear hN q1 k1 s1 HT1
  go_wp2_with fail
  refine HT2.out.mono ?_
  rintro e w3 ⟨⟨v3, rfl⟩, hN⟩
  have HN := hid (Nx.before (Nx.trans ⟨HQ1.out, HK1.out, HS1.out⟩ (Nx.before hN (bel_mkK w2 _)) : Nx (Tcl w0 c i ((k.etell 5 id 0 [0]).etell 5 id 0 [1])) X W w3) HB.out)
  clear hN HT2 HQ1 HK1 HS1
  go_wp2
  go_end0
  rw [HQ.out]
  exact ⟨⟨_, rfl⟩, HN.out⟩
 ·have e5 : decide (f = 5) = false := decide_eq_false hf5
  by_cases hf12 : f = 12
  ·have e12 : decide (f = 12) = true := decide_eq_true hf12
   have HQ : Hid (kgreet k id = k.etell 12 id 0 [3]) := by rw [Hid, HG.out, if_neg hf5, if_pos hf12]
   have HT1 := hid (clt_tell HE.out ((tcl_ft w0 c i _).on HH.out (bel_mkK W (.cells #[.int .i64 3] 3))) 12 id 0 _ 1 1 [3] (rdi_one W 3 (by decide)) (by decide) (by decide) (by omega))
   subst hf12
   clear HT HG c1 c1'
   go_wp2_with fail
   refine HT1.out.mono ?_
   rintro e w2 ⟨⟨v2, rfl⟩, hN⟩
   have HN := hid (Nx.before (Nx.before hN (bel_mkK W _)) HB.out)
   clear hN HT1
   go_wp2
   go_end0
   rw [HQ.out]
   exact ⟨⟨_, rfl⟩, HN.out⟩
  ·have e12 : decide (f = 12) = false := decide_eq_false hf12
   have HQ : Hid (kgreet k id = k) := by rw [Hid, HG.out, if_neg hf5, if_neg hf12]
   clear HT HG c1 c1'
   go_wp2
   go_end0
   rw [HQ.out]
   exact ⟨⟨_, rfl⟩, Nx.before (Nx.refl (tcl_ft w0 c i k) HH.out (Below.refl _ _)) HB.out⟩
end
end
end Go.Proofs.YtpbgbpcdohdecaaGreatDoor
