/- Lemmas that the proof leans on. -/
import Derived.Test.YtpbgbpcdohdecaaGreatDoorB31
namespace Go.Proofs.YtpbgbpcdohdecaaGreatDoor
open Go Go.RowKit
set_option maxRecDepth 100000
set_option maxHeartbeats 2000000
section
section
variable {es : List Addr} {w0 w w' : World} {a : Da} {c : Ca} {i : Int} {k k' : Kl} {mm : Nat} {d : Dsk} {X Z : List Nat}
theorem dke_clt (h : Dke es w0 a mm d w Z) (hk : d.kli i = some k) (hc : a.cs[(i - 1).toNat]? = some (some c)) (hm : mm + 1 ≤ 900) (hev : k'.ev.length ≤ 3000 * (mm + 1)) :
  ∃ X, Tcl w0 c i k w X ∧ (∀ b ∈ X, b ∈ Z) ∧ ∀ w', Nx (Tcl w0 c i k') X w w' → Nx (Dke es w0 a (mm + 1) (d.kput i k')) Z w w' :=
 ldt_cl (k' := k') hk hc (fun hok => hok.kput_ i (Nat.le_refl _) hok.mx hev) w Z (h.up (Nat.le_succ mm) hm)
theorem kregs_len (k : Kl) (id : Int) (j : Nat) : (kregs k id j).ev.length = k.ev.length + j := by simp [kregs]
theorem kgreet_len (k : Kl) (id : Int) : (kgreet k id).ev.length ≤ k.ev.length + 2 := by
 unfold kgreet
 split
 ·simp [Kl.etell, Kl.esend]
 ·split <;> simp [Kl.etell, Kl.esend]
theorem do_reg (h : Dke es w0 a mm d w Z) (hk : d.kli i = some k) (hc : a.cs[(i - 1).toNat]? = some (some c)) (hm : mm + 1 ≤ 900) (hG : Glb w) (o : Int) (x : Option Addr) (n cc : Nat) (l : List AV) (hr : RdA w x n cc l) (hn : 1 ≤ n) :
  Calls Tryz.prog 45 #[ptz a.p, ptz c.q, .int .i64 1, .agg #[.int .i64 o, .int .i64 1, .slice x n cc]] w fun e w' => e = .returned .nilIface ∧ Nx (Dke es w0 a (mm + 1) (d.kput i (kregs k (l.getD 0 av0).n 5))) Z w w' := by
 obtain ⟨_, hY, _⟩ := h.td
 have lp := hY.lt
 obtain ⟨_, _, v, h2, _⟩ := hY
 have hle := h.1.1.evl hk
 have hmx := h.1.1.mx
 have s0 : w.cell? ⟨a.p, 1, none⟩ = some (.int .i64 d.ser) := by rw [Lib.cell_of_heap h2]; rfl
 have HC : Hid (∀ u, Below w.heap.size w u → Calls Tryz.prog 79 #[ptz c.q, .agg #[.int .i64 o, .int .i64 1, .slice x n cc], .int .i64 d.ser] u fun e w' => (∃ v, e = .returned v) ∧ Nx (Dke es w0 a (mm + 1) (d.kput i (kregs k (l.getD 0 av0).n 5))) Z w w') := fun u hu => by
  obtain ⟨X, hX, _, hN⟩ := dke_clt (k' := kregs k (l.getD 0 av0).n 5) ((dt_ft es w0 a mm d).on h hu) hk hc hm (by rw [kregs_len]; omega)
  exact (askdisp_reg hX (hG.on hu) o x n cc l (hr.kpz (kp_of_below hu []) (by simp)) hn d.ser (by omega)).mono fun _ w' ⟨q1, q2⟩ => ⟨q1, Nx.before (hN w' q2) hu⟩
 have HB := hid (bel_mkK w (.cells #[.int .i64 o, .int .i64 1, .slice x n cc] 42))
 have hv := heap_alloc_new w (.cells #[.int .i64 o, .int .i64 1, .slice x n cc] 42)
 clear h hk hc hG hr h2
 go_enter Tryz.func45, Tryz.ntmps45
 go_wp2_with fail
 have hU : Below w.heap.size w (w.alloc (.cells #[.int .i64 o, .int .i64 1, .slice x n cc] 42)).drew := HB.out.drew
 have hvU : (w.alloc (.cells #[.int .i64 o, .int .i64 1, .slice x n cc] 42)).drew.heap[w.heap.size]? = some (.cells #[.int .i64 o, .int .i64 1, .slice x n cc] 42 (0, 0)) := hv
 have lw : w.heap.size < (w.alloc (.cells #[.int .i64 o, .int .i64 1, .slice x n cc] 42)).drew.heap.size := (Array.getElem?_eq_some_iff.1 hvU).1
 have hHeld := trivial
 refine wp_region_held_drew (S := fun _ => True) (by kernel_rfl) hHeld (fun _ => ?_)
 generalize (w.alloc (.cells #[.int .i64 o, .int .i64 1, .slice x n cc] 42)).drew = U0 at *
 have c0 : U0.cell? ⟨w.heap.size, 0, none⟩ = some (.int .i64 o) := (by rw [Lib.cell_of_heap hvU]; rfl)
 have c1 : U0.cell? ⟨w.heap.size, 1, none⟩ = some (.int .i64 1) := (by rw [Lib.cell_of_heap hvU]; rfl)
 have c2 : U0.cell? ⟨w.heap.size, 2, none⟩ = some (.slice x n cc) := (by rw [Lib.cell_of_heap hvU]; rfl)
 have s1 := (hU.cell lp).trans s0
 have HU := hid hU
 have lpU : a.p < U0.heap.size := Nat.lt_of_lt_of_le lp hU.size
 clear hU hvU s0
 refine wpAnyH_take (i := 0) (v := ?_) rfl (by kernel_rfl) (by kernel_rfl) (by kernel_rfl) (fun _ _ _ h => h) (Or.inl ⟨by kernel_rfl, ?hy0⟩) (by assumption) ?_
 case hy0 => (intro w hSw; (try dsimp only at hSw); go_simp; try with_reducible rfl)
 try simp only [Act.put, List.getElem_toArray, List.getElem_cons_zero, List.setIfInBounds_toArray, List.set_cons_zero, List.set_cons_succ]
 refine wpAnyH_take (i := 2) (v := ?_) rfl (by kernel_rfl) (by kernel_rfl) (by kernel_rfl) (fun _ _ _ h => h) (Or.inl ⟨by kernel_rfl, ?hy2⟩) (by assumption) ?_
 case hy2 => (intro w hSw; (try dsimp only at hSw); go_simp; try with_reducible rfl)
 try simp only [Act.put, List.getElem_toArray, List.getElem_cons_zero, List.getElem_cons_succ, List.setIfInBounds_toArray, List.set_cons_zero, List.set_cons_succ]
 refine wpAnyH_take (i := 3) (v := ?_) rfl (by kernel_rfl) (by kernel_rfl) (by kernel_rfl) (fun _ _ _ h => h) (Or.inl ⟨by kernel_rfl, ?hy3⟩) (by assumption) ?_
 case hy3 => (intro w hSw; (try dsimp only at hSw); go_simp; try with_reducible rfl)
 try simp only [Act.put, List.getElem_toArray, List.getElem_cons_zero, List.getElem_cons_succ, List.setIfInBounds_toArray, List.set_cons_zero, List.set_cons_succ]
 refine wpAnyH_take (i := 4) (v := ?_) rfl (by kernel_rfl) (by kernel_rfl) (by kernel_rfl) (fun _ _ _ h => h) (Or.inl ⟨by kernel_rfl, ?hy4⟩) (by assumption) ?_
 case hy4 => (intro w hSw; (try dsimp only at hSw); go_simp; try with_reducible rfl)
 try simp only [Act.put, List.getElem_toArray, List.getElem_cons_zero, List.getElem_cons_succ, List.setIfInBounds_toArray, List.set_cons_zero, List.set_cons_succ]
 refine wpAnyH_ready (rs := [1, 5]) (by kernel_rfl) (by simp) ?_
 refine AllReadyH.cons rfl (fun K hK => ?_) ?_
 ·go_simp
  refine hK.out _ _ trivial (fun _ => ?_)
  clear hK K
  try simp only [Act.put, List.getElem_toArray, List.getElem_cons_zero, List.getElem_cons_succ, List.setIfInBounds_toArray, List.set_cons_zero, List.set_cons_succ]
  refine wpAnyH_ready (rs := [5]) (by kernel_rfl) (by simp) ?_
  refine AllReadyH.cons rfl (fun K hK => ?_) AllReadyH.nil
  go_simp
  refine hK.out _ _ trivial (fun _ => ?_)
  clear hK K
  try simp only [Act.put, List.getElem_toArray, List.getElem_cons_zero, List.getElem_cons_succ, List.setIfInBounds_toArray, List.set_cons_zero, List.set_cons_succ]
  refine wpAnyH_ready (rs := [6]) (by kernel_rfl) (by simp) ?_
  refine AllReadyH.cons rfl (fun K hK => ?_) AllReadyH.nil
  go_simp
  go_wp2_with fail
  refine (HC.out U0 HU.out).mono ?_
  rintro e u6 ⟨⟨v6, rfl⟩, hN⟩
  have HN := hid hN
  refine hK.out _ _ trivial (fun _ => ?_)
  clear hK K hN
  try simp only [Act.put, List.getElem_toArray, List.getElem_cons_zero, List.getElem_cons_succ, List.setIfInBounds_toArray, List.set_cons_zero, List.set_cons_succ]
  refine wpAnyH_done (by kernel_rfl) ?_ _
  clear c0 c1 c2 s1 HC HU
  go_wp2
  go_ret
  exact ⟨rfl, HN.out⟩
 refine AllReadyH.cons rfl (fun K hK => ?_) ?_
 ·go_simp
  refine hK.out _ _ trivial (fun _ => ?_)
  clear hK K
  try simp only [Act.put, List.getElem_toArray, List.getElem_cons_zero, List.getElem_cons_succ, List.setIfInBounds_toArray, List.set_cons_zero, List.set_cons_succ]
  refine wpAnyH_ready (rs := [1]) (by kernel_rfl) (by simp) ?_
  refine AllReadyH.cons rfl (fun K hK => ?_) AllReadyH.nil
  go_simp
  refine hK.out _ _ trivial (fun _ => ?_)
  clear hK K
  try simp only [Act.put, List.getElem_toArray, List.getElem_cons_zero, List.getElem_cons_succ, List.setIfInBounds_toArray, List.set_cons_zero, List.set_cons_succ]
  refine wpAnyH_ready (rs := [6]) (by kernel_rfl) (by simp) ?_
  refine AllReadyH.cons rfl (fun K hK => ?_) AllReadyH.nil
  go_simp
  go_wp2_with fail
  refine (HC.out U0 HU.out).mono ?_
  rintro e u6 ⟨⟨v6, rfl⟩, hN⟩
  have HN := hid hN
  refine hK.out _ _ trivial (fun _ => ?_)
  clear hK K hN
  try simp only [Act.put, List.getElem_toArray, List.getElem_cons_zero, List.getElem_cons_succ, List.setIfInBounds_toArray, List.set_cons_zero, List.set_cons_succ]
  refine wpAnyH_done (by kernel_rfl) ?_ _
  clear c0 c1 c2 s1 HC HU
  go_wp2
  go_ret
  exact ⟨rfl, HN.out⟩
 exact AllReadyH.nil
theorem do_greet (hE : Errs w0 gerrs es) (h : Dke es w0 a mm d w Z) (hk : d.kli i = some k) (hc : a.cs[(i - 1).toNat]? = some (some c)) (hm : mm + 1 ≤ 900) (o q : Int) (x : Option Addr) (n cc : Nat) (l : List AV) (hr : RdA w x n cc l) (hn : 4 ≤ n) :
  Calls Tryz.prog 45 #[ptz a.p, ptz c.q, .int .i64 2, .agg #[.int .i64 o, .int .i64 q, .slice x n cc]] w fun e w' => e = .returned .nilIface ∧ Nx (Dke es w0 a (mm + 1) (d.kput i (kgreet k (l.getD 3 av0).n))) Z w w' := by
 have hle := h.1.1.evl hk
 have hmx := h.1.1.mx
 have HC : Hid (∀ u, Below w.heap.size w u → Calls Tryz.prog 80 #[ptz c.q, .agg #[.int .i64 o, .int .i64 q, .slice x n cc]] u fun e w' => (∃ v, e = .returned v) ∧ Nx (Dke es w0 a (mm + 1) (d.kput i (kgreet k (l.getD 3 av0).n))) Z w w') := fun u hu => by
  obtain ⟨X, hX, _, hN⟩ := dke_clt (k' := kgreet k (l.getD 3 av0).n) ((dt_ft es w0 a mm d).on h hu) hk hc hm (Nat.le_trans (kgreet_len k _) (by omega))
  exact (greet_any hE hX o q x n cc l (hr.kpz (kp_of_below hu []) (by simp)) hn (by omega)).mono fun _ w' ⟨q1, q2⟩ => ⟨q1, Nx.before (hN w' q2) hu⟩
 have HB := hid (bel_mkK w (.cells #[.int .i64 o, .int .i64 q, .slice x n cc] 42))
 clear h hk hc hr hE
 go_enter Tryz.func45, Tryz.ntmps45
 go_wp2_with fail
 refine (HC.out _ HB.out).mono ?_
 rintro e w1 ⟨⟨v1, rfl⟩, hN⟩
 have HN := hid hN
 clear hN HC
 go_wp2
 go_ret
 exact ⟨rfl, HN.out⟩
end
end
section
abbrev eS_FtA (a : Addr) : Value := .iface 392 (.pointer (some a))
abbrev eF_FtA (b : Nat) : Value := .iface 138 (.pointer (some ⟨b, 0, none⟩))
abbrev eN (v : Value) (i : Int) : Value := .iface 182 (.agg #[v, .int .i64 i])
def rank_FtA : Value → Nat
 | .iface t (.pointer (some a)) => if t = 138 then a.block + 2 else 0
 | .iface _ (.agg _) => 1
 | _ => 0
theorem rankS (a : Addr) : rank_FtA (eS_FtA a) = 0 := by simp [rank_FtA]
theorem rankN (v : Value) (i : Int) : rank_FtA (eN v i) = 1 := rfl
theorem rankF (b : Nat) : rank_FtA (eF_FtA b) = b + 2 := by simp [rank_FtA]
inductive Ch_FtA (w : World) (L : Value) : Value → Option Nat → Prop where
 | leaf (a : Addr) (h : L = eS_FtA a) : Ch_FtA w L (eS_FtA a) none
 | found (a : Addr) (i : Int) (h : L = eS_FtA a) : Ch_FtA w L (eN (eS_FtA a) i) none
 | fault (b : Nat) (o c : Int) (s : ByteArray) (v : Value) (F : Option Nat) (h : w.heap[b]? = some (.cells #[.int .i64 o, .int .i64 c, .string s, v] 202 (0, 0))) (hr : rank_FtA v < b + 2) (hv : Ch_FtA w L v F) : Ch_FtA w L (eF_FtA b) (some b)
theorem Ch_FtA.stays {w w' : World} {L v : Value} {F : Option Nat} (h : Ch_FtA w L v F) (hb : Below w.heap.size w w') : Ch_FtA w' L v F := by
 have blk : ∀ {b o}, w.heap[b]? = some o → w'.heap[b]? = some o := fun {b o} e => by
  rw [hb.block _ (Array.getElem?_eq_some_iff.1 e).1]
  exact e
 induction h with
 | leaf a h => exact .leaf a h
 | found a i h => exact .found a i h
 | fault b o c s v F h hr _ ih => exact .fault b o c s v F (blk h) hr ih
theorem Ch_FtA.iface {w : World} {L v : Value} {F : Option Nat} (h : Ch_FtA w L v F) : ∃ t q, v = .iface t q := by
 cases h <;> exact ⟨_, _, rfl⟩
theorem eqNe_FtA (tx ty : TypeId) (vx vy : Value) (hne : tx ≠ ty) (w : World) : (binOp .eql 24 (.iface tx vx) (.iface ty vy)).run Tryz.prog w = .ok (.bool false) w := run_eql_iface_types tx ty vx vy Tryz.underlying24 hne w
theorem noIsF_FtA (v : Value) (xT : TypeId) (w : World) : (Instr.typeAssert (.iface 138 v) xT 225 true).run Tryz.prog w = .ok (.tuple #[.nilIface, .bool false]) w := run_typeAssert_lacksB Tryz.underlying225 (by kernel_rfl) (by kernel_rfl) v xT w
theorem noIsN_FtA (v : Value) (xT : TypeId) (w : World) : (Instr.typeAssert (.iface 182 v) xT 225 true).run Tryz.prog w = .ok (.tuple #[.nilIface, .bool false]) w := run_typeAssert_lacksB Tryz.underlying225 (by kernel_rfl) (by kernel_rfl) v xT w
theorem unwrapF_FtA (v : Value) (xT : TypeId) (w : World) : (Instr.typeAssert (.iface 138 v) xT 228 true).run Tryz.prog w = .ok (.tuple #[.iface 138 v, .bool true]) w := run_typeAssert_hasB Tryz.underlying228 (by kernel_rfl) v xT w
theorem unwrapN_FtA (v : Value) (xT : TypeId) (w : World) : (Instr.typeAssert (.iface 182 v) xT 228 true).run Tryz.prog w = .ok (.tuple #[.iface 182 v, .bool true]) w := run_typeAssert_hasB Tryz.underlying228 (by kernel_rfl) v xT w
theorem mUnwrapF_FtA (n : Nat) (v : Value) (w : World) : (Go.method (n + 1) 138 v "Unwrap").run Tryz.prog w = .ok (330, v) w := by kernel_rfl
theorem mUnwrapN_FtA (n : Nat) (v : Value) (w : World) : (Go.method (n + 1) 182 v "Unwrap").run Tryz.prog w = .ok (332, v) w := by kernel_rfl
def Apart_FtA (w : World) (L : Value) (x : Addr) : Prop := ∀ a, L = eS_FtA a → a ≠ x → (∃ c t, w.heap[a.block]? = some (.cells c t (0, 0))) ∧ ∃ c t, w.heap[x.block]? = some (.cells c t (0, 0))
theorem Apart_FtA.stays {w w' : World} {L : Value} {x : Addr} (h : Apart_FtA w L x) (hb : Below w.heap.size w w') : Apart_FtA w' L x := fun a hL hx => by
 obtain ⟨⟨c, t, h1⟩, c', t', h2⟩ := h a hL hx
 exact ⟨⟨c, t, by rw [hb.block _ (Array.getElem?_eq_some_iff.1 h1).1]; exact h1⟩, c', t', by rw [hb.block _ (Array.getElem?_eq_some_iff.1 h2).1]; exact h2⟩
theorem is_chain_FtA (w : World) (L v : Value) (F : Option Nat) (x : Addr) (h : Ch_FtA w L v F) (hA : Apart_FtA w L x) (r : Bool) (hr : r = true ↔ L = eS_FtA x) :
  Calls Tryz.prog 61 #[v, eS_FtA x, .bool true] w fun e w' => e = .returned (.bool r) ∧ Below w.heap.size w w' := by
 obtain ⟨i, hi, hcmp⟩ := Option.map_eq_some_iff.1 isComp
 obtain ⟨j, hj, hjs⟩ := Option.map_eq_some_iff.1 isSize
 have nE := noIsE
 have uE := noUnwrapE
 have vE := noUnwrapsE
 have nF := noIsF_FtA
 have uF := unwrapF_FtA
 have nN := noIsN_FtA
 have uN := unwrapN_FtA
 have mF := mUnwrapF_FtA
 have mN := mUnwrapN_FtA
 have HA : Hid (Apart_FtA w L x) := hA
 clear hA
 have HR : Hid (r = true ↔ L = eS_FtA x) := hr
 clear hr
 go_enter Tryz.func61, Tryz.ntmps61
 go_wp2
 go_loopw [0] (fun v wr => (∃ F, Ch_FtA wr L v F) ∧ Below w.heap.size w wr) (fun v _ => rank_FtA v)
 case atStart => exact ⟨⟨F, h⟩, Below.refl _ _⟩
 case round =>
  obtain ⟨⟨F, hc⟩, hbw⟩ := hrel
  have HB := hid hbw
  have HAW := hid (HA.out.stays hbw)
  clear hbw
  cases hc with
  | leaf a hL =>
   have HL : Hid (L = eS_FtA a) := hL
   clear hL h
   by_cases hax : a = x
   ·subst hax
    have hh : Hid (r = true) := HR.out.2 HL.out
    have heq := run_eql_iface_ptr_same (P := Tryz.prog) wr a Tryz.underlying24 Tryz.underlying392 hi hcmp hj
    go_wp2
    go_ret
    exact ⟨by rw [hh.out]; rfl, HB.out⟩
   ·obtain ⟨⟨ca, ta, ha⟩, cb, tb, hb⟩ := HAW.out a HL.out hax
    have hh : Hid (r = false) := by
     show r = false
     cases hr : r
     ·rfl
     ·have := HL.out.symm.trans (HR.out.1 hr)
      simp only [eS_FtA, Value.iface.injEq, Value.pointer.injEq, Option.some.injEq, true_and] at this
      exact absurd this hax
    have heq := run_eql_iface_ptr_other (P := Tryz.prog) wr Tryz.underlying24 Tryz.underlying392 hi hcmp hj (by rw [hjs]; decide) hax ha hb
    clear ha hb
    go_wp2
    go_ret
    exact ⟨by rw [hh.out]; rfl, HB.out⟩
  | found a p hL =>
   have heq := eqNe_FtA 182 392 (.agg #[eS_FtA a, .int .i64 p]) (.pointer (some x)) (by decide) wr
   have HL : Hid (L = eS_FtA a) := hL
   clear hL h
   go_wp2
   go_roundw
   case rel => exact ⟨⟨none, .leaf a HL.out⟩, HB.out.alloc HB.out.size _⟩
   case measure => exact (rankS a).symm ▸ (by decide : 0 < 1)
  | fault b o c s v F hb hr hv =>
   have heq := eqNe_FtA 138 392 (.pointer (some ⟨b, 0, none⟩)) (.pointer (some x)) (by decide) wr
   have c3 : wr.cell? ⟨b, 3, none⟩ = some v := by rw [World.cell?, hb]; rfl
   obtain ⟨t, q, rfl⟩ := hv.iface
   have HV : Hid (Ch_FtA wr L (.iface t q) F) := hv
   have HM : Hid (rank_FtA (.iface t q) < b + 2) := hr
   clear hv hr hb h
   go_wp2
   go_roundw
   case rel => exact ⟨⟨F, HV.out⟩, HB.out⟩
   case measure => exact (rankF b).symm ▸ HM.out
theorem Is_chain_FtA (w : World) (L v : Value) (F : Option Nat) (x : Addr) (h : Ch_FtA w L v F) (hA : Apart_FtA w L x) (r : Bool) (hr : r = true ↔ L = eS_FtA x) :
  Calls Tryz.prog 32 #[v, eS_FtA x] w fun e w' => e = .returned (.bool r) ∧ Below w.heap.size w w' := by
 have h8 := @run_callFunc_extern Tryz.prog 60 _ Extern.ReflectliteType.typeOf Tryz.func60 (by kernel_rfl) (by kernel_rfl) (by kernel_rfl) (by kernel_rfl)
 have h32 := @run_callFunc_extern Tryz.prog 338 _ (Extern.ReflectliteType.method fun t => do Extern.Rtype.noPackHeld "Comparable" t; pure (.bool (← typeInfo t).comparable)) Tryz.func338 (by kernel_rfl) (by kernel_rfl) (by kernel_rfl) (by kernel_rfl)
 have tT := isTypeOf
 have cT := isComparable
 have mR := isMethodComparable
 have HC : Hid (∀ w', w' = w → Calls Tryz.prog 61 #[v, eS_FtA x, .bool true] w' fun e w' => e = .returned (.bool r) ∧ Below w.heap.size w w') := fun w' e => by subst e; exact is_chain_FtA w' L v F x h hA r hr
 obtain ⟨t, q, rfl⟩ := h.iface
 clear h hA hr
 go_enter Tryz.func32, Tryz.ntmps32
 go_wp2_with (go_at_call 61; refine (HC.out _ rfl).mono ?_; rintro e w' ⟨rfl, hbb⟩; have HBB := hid hbb; clear hbb)
 go_ret
 exact ⟨rfl, HBB.out⟩
end
section
theorem catch_idle_FtB (p : Addr) (w : World) :
  CallsD Tryz.prog 217 #[.pointer (some p)] .returning w fun e u' w' => e = .returned (.tuple #[]) ∧ u' = .returning ∧ w' = w := by
 refine callsD_of_wpS Tryz.func217 rfl fun c₀ cs hu => ?_
 apply wpS_seq
 apply wpS_region
 simp [wpOpsS, go_sem, recoverD, hu, Tryz.ntmps217, Exit.thenS]
 refine wpS_cond (t := false) (by simp [Act.eval, Array.replicate]) ?_
 simp only [Bool.false_eq_true, if_false]
 refine wpS_of_wp (wp_skip ?_)
 cases c₀
 simp_all [bodyPostS, results, Tryz.results217]
theorem fIs_FtB (w : World) (v y : Value) (r : Bool) (h : ∀ w', Below w.heap.size w w' → Calls Tryz.prog 32 #[v, y] w' fun e w'' => e = .returned (.bool r) ∧ Below w'.heap.size w' w'') :
  Calls Tryz.prog 157 #[v, y] w fun e w' => e = .returned (.bool r) ∧ Below w.heap.size w w' := by
 have hmf : ∀ (fn : Fn) (first cap : Array Value) (w : World), (Instr.makeFunc fn first cap).run Tryz.prog w = .ok (.func fn first cap) w := fun _ _ _ _ => rfl
 have HC : Hid (∀ w', Below w.heap.size w w' → Calls Tryz.prog 32 #[v, y] w' fun e w'' => e = .returned (.bool r) ∧ Below w'.heap.size w' w'') := h
 clear h
 go_enter_defers Tryz.func157, Tryz.ntmps157
 go_wp2_with fail
 refine (HC.out _ ((Below.refl _ _).alloc (Nat.le_refl _) _)).mono ?_
 rintro e w' ⟨rfl, hbb⟩
 have hv0 := (hbb.block w.heap.size (by simp)).trans (heap_alloc_new w _)
 have c0 : w'.cell? ⟨w.heap.size, 0, none⟩ = some (.bool false) := (Lib.cell_of_heap hv0 0).trans rfl
 have f0 := Lib.frozen_of_heap hv0 0
 have HBB := hid (((Below.refl w.heap.size w).alloc (Nat.le_refl _) (.cells #[.bool false] 4)).trans (hbb.mono (by simp)))
 clear hbb hv0
 go_wp2
 refine leaves_cons (f := 217) (args := #[.pointer (some ⟨w.heap.size, 0, none⟩)]) (by simp) (by simp [go_sem]) ?_
 refine (catch_idle_FtB ⟨w.heap.size, 0, none⟩ _).mono ?_
 rintro e u' w'' ⟨rfl, rfl, rfl⟩
 ·have c1 : (w'.setCell ⟨w.heap.size, 0, none⟩ (.bool r)).cell? ⟨w.heap.size, 0, none⟩ = some (.bool r) := World.cell?_setCell_same _ _ _ c0
  simp [Leaves, settle, results, Tryz.results157, go_sem, c1]
  exact HBB.out.setCell (p := ⟨w.heap.size, 0, none⟩) (Nat.le_refl _) _
end
section
open Go Go.RowKit Go.Extern
abbrev rvPP_FtC (a : Addr) : Value := .agg #[.pointer (some ⟨19, 140, none⟩), .pointer (some a), .int .u64 150]
abbrev rtP_FtC : Value := .iface 223 (.agg #[.pointer (some ⟨19, 138, none⟩)])
abbrev rtPP_FtC : Value := .iface 223 (.agg #[.pointer (some ⟨19, 140, none⟩)])
theorem asValueOf_FtC (t : Addr) (w : World) : (ReflectliteValue.unpack (.iface 140 (.pointer (some t)))).run Tryz.prog w
  = .ok (rvPP_FtC ⟨w.heap.size, 0, none⟩) (w.alloc (.cells #[.pointer (some t)] 140)) := by kernel_rfl
theorem asType_FtC (a : Addr) (w : World) : (ReflectliteValue.methodAny (ReflectliteValue.valueError "reflectlite.Value.Type" 0) (fun t _ _ _ => ReflectliteType.toType t) #[rvPP_FtC a]).run Tryz.prog w = .ok rtPP_FtC w := by kernel_rfl
theorem asMethodKind_FtC (n : Nat) (h : Value) (w : World) : (Go.method (n + 2) 223 (.agg #[h]) "Kind").run Tryz.prog w = .ok (324, h) w := by kernel_rfl
theorem asKindPP_FtC (w : World) : ((ReflectliteType.abiMethod fun t => (fun a : Nat => Value.int IntKind.u8 (a : Int)) <$> Rtype.kind t) #[.pointer (some ⟨19, 140, none⟩)]).run Tryz.prog w = .ok (.int .u8 22) w := by kernel_rfl
theorem asKindP_FtC (w : World) : ((ReflectliteType.abiMethod fun t => (fun a : Nat => Value.int IntKind.u8 (a : Int)) <$> Rtype.kind t) #[.pointer (some ⟨19, 138, none⟩)]).run Tryz.prog w = .ok (.int .u8 22) w := by kernel_rfl
theorem asPartsPP_FtC (a : Addr) (w : World) : (ReflectliteValue.parts (rvPP_FtC a)).run Tryz.prog w = .ok (some (140, a, 150)) w := by kernel_rfl
theorem asMeth_FtC (z : Sem Value) (f : TypeId → Addr → Nat → Nat → Sem Value) (v : Value) (w : World) {t : TypeId} {a : Addr} {fl : Nat} (h : (ReflectliteValue.parts v).run Tryz.prog w = .ok (some (t, a, fl)) w) :
  (ReflectliteValue.method z f #[v]).run Tryz.prog w = (f t a fl (fl % 32)).run Tryz.prog w := by
 have e : ReflectliteValue.method z f #[v] = (ReflectliteValue.parts v >>= fun | none => z | some (t, a, fl) => f t a fl (fl % 32)) := rfl
 rw [e]
 simp only [Sem.run_bind, h, Result.andThen]
theorem asIsNil_FtC (a p : Addr) (w : World) (ha : w.cell? a = some (.pointer (some p))) :
  (ReflectliteValue.method (ReflectliteValue.valueError "reflectlite.Value.IsNil" 0) ReflectliteValue.isNil #[rvPP_FtC a]).run Tryz.prog w = .ok (.bool false) w := by
 rw [asMeth_FtC _ _ _ _ (asPartsPP_FtC a w)]
 simp [ReflectliteValue.isNil, loadVar, isAgg, underlying, Tryz.underlying140, ha, Result.andThen]
theorem asMethodElem_FtC (n : Nat) (h : Value) (w : World) : (Go.method (n + 1) 223 (.agg #[h]) "Elem").run Tryz.prog w = .ok (339, .agg #[h]) w := by kernel_rfl
theorem asMethodImplements_FtC (n : Nat) (h : Value) (w : World) : (Go.method (n + 1) 223 (.agg #[h]) "Implements").run Tryz.prog w = .ok (340, .agg #[h]) w := by kernel_rfl
theorem asMethodAssignable_FtC (n : Nat) (h : Value) (w : World) : (Go.method (n + 1) 223 (.agg #[h]) "AssignableTo").run Tryz.prog w = .ok (337, .agg #[h]) w := by kernel_rfl
theorem asElem_FtC (w : World) : (ReflectliteType.method ReflectliteType.elem #[.agg #[.pointer (some ⟨19, 140, none⟩)]]).run Tryz.prog w = .ok rtP_FtC w := by kernel_rfl
theorem asImplements_FtC (w : World) : (ReflectliteType.relation "Implements" ReflectliteType.implements_ #[.agg #[.pointer (some ⟨19, 138, none⟩)], .iface 223 (.agg #[.pointer (some ⟨19, 24, none⟩)])]).run Tryz.prog w = .ok (.bool true) w := by kernel_rfl
theorem asTypeOf_FtC (t : TypeId) (ht : t = 138 ∨ t = 182 ∨ t = 392) (v : Value) (w : World) : (ReflectliteType.typeOf #[.iface t v]).run Tryz.prog w = .ok (.iface 223 (.agg #[.pointer (some ⟨19, t, none⟩)])) w := by
 rcases ht with rfl | rfl | rfl <;> kernel_rfl
theorem asAssignableF_FtC (w : World) : (ReflectliteType.relation "AssignableTo" ReflectliteType.assignableTo #[.agg #[.pointer (some ⟨19, 138, none⟩)], rtP_FtC]).run Tryz.prog w = .ok (.bool true) w := by kernel_rfl
theorem asAssignableN (w : World) : (ReflectliteType.relation "AssignableTo" ReflectliteType.assignableTo #[.agg #[.pointer (some ⟨19, 182, none⟩)], rtP_FtC]).run Tryz.prog w = .ok (.bool false) w := by kernel_rfl
theorem asAssignableE_FtC (w : World) : (ReflectliteType.relation "AssignableTo" ReflectliteType.assignableTo #[.agg #[.pointer (some ⟨19, 392, none⟩)], rtP_FtC]).run Tryz.prog w = .ok (.bool false) w := by kernel_rfl
theorem asValueOfP_FtC (e : Addr) (w : World) : (ReflectliteValue.unpack (.iface 138 (.pointer (some e)))).run Tryz.prog w
  = .ok (.agg #[.pointer (some ⟨19, 138, none⟩), .pointer (some ⟨w.heap.size, 0, none⟩), .int .u64 150]) (w.alloc (.cells #[.pointer (some e)] 138)) := by kernel_rfl
theorem asElemOf_FtC (w : World) : (Rtype.elem? 140).run Tryz.prog w = .ok (some 138) w := by kernel_rfl
theorem asMk_FtC (p : Addr) (w : World) : (ReflectliteValue.mk 138 p ReflectliteValue.flagAddr).run Tryz.prog w = .ok (.agg #[.pointer (some ⟨19, 138, none⟩), .pointer (some p), .int .u64 406]) w := by kernel_rfl
theorem asElemV_FtC (a p : Addr) (w : World) (ha : w.cell? a = some (.pointer (some p))) :
  (ReflectliteValue.method (ReflectliteValue.valueError "reflectlite.Value.Elem" 0) ReflectliteValue.elem #[rvPP_FtC a]).run Tryz.prog w
   = .ok (.agg #[.pointer (some ⟨19, 138, none⟩), .pointer (some p), .int .u64 406]) w := by
 rw [asMeth_FtC _ _ _ _ (asPartsPP_FtC a w)]
 simp [ReflectliteValue.elem, loadVar, isAgg, underlying, Tryz.underlying140, ha, Result.andThen, asElemOf_FtC, asMk_FtC]
theorem asPartsA_FtC (a : Addr) (w : World) : (ReflectliteValue.parts (.agg #[.pointer (some ⟨19, 138, none⟩), .pointer (some a), .int .u64 406])).run Tryz.prog w = .ok (some (138, a, 406)) w := by kernel_rfl
theorem asPartsB_FtC (a : Addr) (w : World) : (ReflectliteValue.parts (.agg #[.pointer (some ⟨19, 138, none⟩), .pointer (some a), .int .u64 150])).run Tryz.prog w = .ok (some (138, a, 150)) w := by kernel_rfl
theorem asDirect_FtC (w : World) : (Rtype.directlyAssignable 138 138).run Tryz.prog w = .ok true w := by kernel_rfl
theorem asSet_FtC (ta b e : Addr) (old : Value) (w : World) (hb : w.cell? b = some (.pointer (some e))) (ht : w.cell? ta = some old) (hf : w.frozen? ta = false) :
  (ReflectliteValue.set #[.agg #[.pointer (some ⟨19, 138, none⟩), .pointer (some ta), .int .u64 406], .agg #[.pointer (some ⟨19, 138, none⟩), .pointer (some b), .int .u64 150]]).run Tryz.prog w
   = .ok (.tuple #[]) (w.setCell ta (.pointer (some e))) := by
 have e1 : ∀ v x : Value, ReflectliteValue.set #[v, x] = (ReflectliteValue.parts v >>= fun p => ReflectliteValue.parts x >>= fun q => _) := fun _ _ => rfl
 rw [e1]
 simp only [Sem.run_bind, asPartsA_FtC, asPartsB_FtC, Result.andThen]
 simp [ReflectliteValue.flagAddr, loadVar, isAgg, underlying, Tryz.underlying138, hb, Result.andThen, asDirect_FtC, storeVar, Value.cells, storeCells, Addr.add]
 rw [run_store Tryz.prog w ta _ _ (by rfl)]
 simp [ht, hf]
end
section
open Go Go.RowKit Go.Extern
theorem noAs_FtD (t : TypeId) (ht : t = 138 ∨ t = 182 ∨ t = 392) (v : Value) (xT : TypeId) (w : World) : (Instr.typeAssert (.iface t v) xT 264 true).run Tryz.prog w = .ok (.tuple #[.nilIface, .bool false]) w := by
 rcases ht with rfl | rfl | rfl <;> exact run_typeAssert_lacksB Tryz.underlying264 (by kernel_rfl) (by kernel_rfl) v xT w
def AsEnds_FtD (w : World) (F : Option Nat) (t : Addr) (e : Ending) (w' : World) : Prop :=
 match F with
 | some b => e = .returned (.bool true) ∧ Below t.block w w' ∧ w'.cell? t = some (.pointer (some ⟨b, 0, none⟩))
 | none => e = .returned (.bool false) ∧ Below w.heap.size w w'
structure Hit_FtD (w : World) (t n : Addr) (old : Value) : Prop where
 hn : w.cell? n = some (.pointer (some t))
 ht : w.cell? t = some old
 hf : w.frozen? t = false
abbrev wT_FtD (w : World) (n : Addr) : World := w.alloc (.cells #[.pointer (some ⟨19, 140, none⟩), .pointer (some n), .int .u64 150] 194)
theorem Hit_FtD.elem {w : World} {t n : Addr} {old : Value} (h : Hit_FtD w t n old) :
  (ReflectliteValue.method (ReflectliteValue.valueError "reflectlite.Value.Elem" 0) ReflectliteValue.elem #[rvPP_FtC n]).run Tryz.prog (wT_FtD w n)
   = .ok (.agg #[.pointer (some ⟨19, 138, none⟩), .pointer (some t), .int .u64 406]) (wT_FtD w n) :=
 asElemV_FtC n t _ (by rw [World.cell?_alloc_lt _ _ n (World.block_lt_of_cell? w _ h.hn)]; exact h.hn)
theorem Hit_FtD.set {w : World} {t n : Addr} {old : Value} (h : Hit_FtD w t n old) (b : Nat) :
  (ReflectliteValue.set #[.agg #[.pointer (some ⟨19, 138, none⟩), .pointer (some t), .int .u64 406], .agg #[.pointer (some ⟨19, 138, none⟩), .pointer (some ⟨w.heap.size + 1, 0, none⟩), .int .u64 150]]).run Tryz.prog ((wT_FtD w n).alloc (.cells #[.pointer (some ⟨b, 0, none⟩)] 138))
   = .ok (.tuple #[]) (((wT_FtD w n).alloc (.cells #[.pointer (some ⟨b, 0, none⟩)] 138)).setCell t (.pointer (some ⟨b, 0, none⟩))) := by
 have hlt := World.block_lt_of_cell? w _ h.ht
 refine asSet_FtC t ⟨w.heap.size + 1, 0, none⟩ ⟨b, 0, none⟩ old _ ?_ ?_ ?_
 ·rw [World.cell?_alloc_at _ _ _ _ (by simp)]; rfl
 ·rw [World.cell?_alloc_lt _ _ t (by simp; omega), World.cell?_alloc_lt _ _ t hlt]; exact h.ht
 ·rw [World.frozen?_alloc_old _ _ t (by simp; omega), World.frozen?_alloc_old _ _ t (Nat.ne_of_lt hlt)]; exact h.hf
theorem Hit_FtD.ends {w : World} {t n : Addr} {old : Value} (h : Hit_FtD w t n old) (b : Nat) :
  AsEnds_FtD w (some b) t (.returned (.bool true)) (((wT_FtD w n).alloc (.cells #[.pointer (some ⟨b, 0, none⟩)] 138)).setCell t (.pointer (some ⟨b, 0, none⟩))) := by
 have hlt := World.block_lt_of_cell? w _ h.ht
 refine ⟨rfl, ?_, ?_⟩
 ·exact (((Below.refl t.block w).alloc (by omega) _).alloc (by simp; omega) _).setCell (p := t) (Nat.le_refl _) _
 ·have hc : ((wT_FtD w n).alloc (.cells #[.pointer (some ⟨b, 0, none⟩)] 138)).cell? t = some old := by
   rw [World.cell?_alloc_lt _ _ t (by simp; omega), World.cell?_alloc_lt _ _ t hlt]; exact h.ht
  exact World.cell?_setCell_same _ _ _ hc
theorem as_chain_FtD (w : World) (L v : Value) (F : Option Nat) (t n : Addr) (old : Value) (h : Ch_FtA w L v F) (hn : w.cell? n = some (.pointer (some t))) (ht : w.cell? t = some old) (hf : w.frozen? t = false) :
  Calls Tryz.prog 96 #[v, .iface 140 (.pointer (some t)), rvPP_FtC n, rtP_FtC] w (AsEnds_FtD w F t) := by
 have h26 := @run_callFunc_extern Tryz.prog 60 _ ReflectliteType.typeOf Tryz.func60 (by kernel_rfl) (by kernel_rfl) (by kernel_rfl) (by kernel_rfl)
 have h63 := @run_callFunc_extern Tryz.prog 337 _ (ReflectliteType.relation "AssignableTo" ReflectliteType.assignableTo) Tryz.func337 (by kernel_rfl) (by kernel_rfl) (by kernel_rfl) (by kernel_rfl)
 have h28 := @run_callFunc_extern Tryz.prog 93 _ (fun args => ReflectliteValue.unpack (args.getD 0 (.tuple #[]))) Tryz.func93 (by kernel_rfl) (by kernel_rfl) (by kernel_rfl) (by kernel_rfl)
 have h32 := @run_callFunc_extern Tryz.prog 154 _ (ReflectliteValue.method (ReflectliteValue.valueError "reflectlite.Value.Elem" 0) ReflectliteValue.elem) Tryz.func154 (by kernel_rfl) (by kernel_rfl) (by kernel_rfl) (by kernel_rfl)
 have h33 := @run_callFunc_extern Tryz.prog 155 _ ReflectliteValue.set Tryz.func155 (by kernel_rfl) (by kernel_rfl) (by kernel_rfl) (by kernel_rfl)
 have tF := asTypeOf_FtC 138 (.inl rfl)
 have tW := asTypeOf_FtC 182 (.inr (.inl rfl))
 have tE := asTypeOf_FtC 392 (.inr (.inr rfl))
 have mA := asMethodAssignable_FtC
 have aF := asAssignableF_FtC
 have aW := asAssignableN
 have aE := asAssignableE_FtC
 have v25 := asValueOfP_FtC
 have nE := noAs_FtD 392 (.inr (.inr rfl))
 have uE := noUnwrapE
 have vE := noUnwrapsE
 have nF := noAs_FtD 138 (.inl rfl)
 have uF := unwrapF_FtA
 have nW := noAs_FtD 182 (.inr (.inl rfl))
 have uW := unwrapN_FtA
 have mF := mUnwrapF_FtA
 have mW := mUnwrapN_FtA
 have HN : Hid (w.cell? n = some (.pointer (some t))) := hn
 have HT : Hid (w.cell? t = some old) := ht
 have HF : Hid (w.frozen? t = false) := hf
 clear hn ht hf
 go_enter Tryz.func96, Tryz.ntmps96
 go_wp2
 have HB0 := hid ((Below.refl w.heap.size w).alloc (Nat.le_refl _) (.cells #[.pointer (some ⟨19, 140, none⟩), .pointer (some n), .int .u64 150] 194))
 go_loopw [0] (fun v wr => (wr = wT_FtD w n ∧ Ch_FtA w L v F) ∨ (∃ a, v = eS_FtA a ∧ F = none ∧ Below w.heap.size w wr)) (fun v _ => rank_FtA v)
 case atStart => exact .inl ⟨rfl, h⟩
 case round =>
  rcases hrel with ⟨rfl, hrel⟩ | ⟨a, rfl, rfl, hbw⟩
  ·cases hrel with
   | leaf a hL =>
    clear hL h
    go_wp2
    go_ret
    exact ⟨rfl, HB0.out⟩
   | found a p hL =>
    clear hL h
    go_wp2
    go_roundw
    case rel =>
     refine .inr ⟨a, rfl, ?_⟩
     first
      | exact ⟨trivial, HB0.out.alloc HB0.out.size _⟩
      | exact ⟨rfl, HB0.out.alloc HB0.out.size _⟩
    case measure => exact (rankS a).symm ▸ (by decide : 0 < 1)
   | fault b o c s v F hb hr hv =>
    clear hb hr hv h
    have HH : Hid (Hit_FtD w t n old) := ⟨HN.out, HT.out, HF.out⟩
    have el := HH.out.elem
    have st := HH.out.set b
    go_wp2
    go_ret
    exact HH.out.ends b
  ·have HBW := hid hbw
   clear hbw h
   go_wp2
   go_ret
   exact ⟨rfl, HBW.out⟩
end
end Go.Proofs.YtpbgbpcdohdecaaGreatDoor
