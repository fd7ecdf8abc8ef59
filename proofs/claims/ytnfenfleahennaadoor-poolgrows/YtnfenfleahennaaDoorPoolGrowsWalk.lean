/- PoolGrows: for any two numbers the call returns true; nothing that was there has turned. -/
import Derived.Test.YtnfenfleahennaaDoorPolF
import Derived.Test.YtnfenfleahennaaDoorLibS
import Derived.Deep.DeepCutAuto
import Derived.LaidMore
import Derived.Laws.StructEq
namespace Go.Proofs.YtnfenfleahennaaDoor.poolGrows
open Go Go.RowKit

theorem eqlG (x y : Operand) (xs ys : Array Value) (w : World) : (eqGuard .eql 60 x y (.agg xs) (.agg ys)).run Tryd.prog w = .ok () w := run_eqGuard_agg w .eql 60 x y xs ys (by kernel_rfl)
theorem eqlN (w : World) : (binOp .eql 60 (.agg #[.int .i64 9, .int .i64 0, .int .i64 2, .int .i64 2, .int .i64 8, .int .i64 0]) (.agg #[.int .i64 9, .int .i64 0, .int .i64 2, .int .i64 2, .int .i64 8, .int .i64 0])).run Tryd.prog w = .ok (.bool true) w := by kernel_rfl

/-- The buffer. -/
def q9 : Nf := ⟨9, 0, 2, 2, 8, 0⟩
theorem nb9 {x : World} {g : Nat} (h : Nb x g q9) : x.cell? ⟨g, 0, none⟩ = some (.int .i64 9) ∧ x.cell? ⟨g, 1, none⟩ = some (.int .i64 0) ∧ x.cell? ⟨g, 2, none⟩ = some (.int .i64 2) ∧ x.cell? ⟨g, 3, none⟩ = some (.int .i64 2) ∧ x.cell? ⟨g, 4, none⟩ = some (.int .i64 8) ∧ x.cell? ⟨g, 5, none⟩ = some (.int .i64 0) := nb_cells h
theorem info9 : infoV [(2, (q9, false))] 2 = .tuple #[.agg #[.int .i64 9, .int .i64 0, .int .i64 2, .int .i64 2, .int .i64 8, .int .i64 0], .bool true] := rfl
theorem mx (m n z : Int) (hz : z = if n > m then n else m) (u : World) : (Builtin.max_ #[3, 3] 3 #[.int .i64 m, .int .i64 n]).run Tryd.prog u = .ok (.int .i64 z) u := by
  rw [hz]
  simp [Builtin.max_, Builtin.max2]

set_option maxRecDepth 100000 in
set_option maxHeartbeats 400000 in
theorem core (m n : Nat) (ra rb : Int) (w : World) (hm : m < 1000) (hn : n < 1000) (hra : ∀ u, Calls Tryd.prog 10 #[.int .i64 ra, .int .i64 1000] u fun e u' => e = .returned (.int .i64 (m : Nat)) ∧ u' = u) (hrb : ∀ u, Calls Tryd.prog 10 #[.int .i64 rb, .int .i64 1000] u fun e u' => e = .returned (.int .i64 (n : Nat)) ∧ u' = u) (es : List Addr) (hE : Errs w gerrs es)
    (M N Z : Int) (hM : M = 16 + (m : Int)) (hN : N = 16 + (n : Int)) (k : Nat) (v : Value) (t : Bool) (hZ : Z = if N > M then N else M) (hk : gvE N M 5000 = k) (hv : erv es k = v) (ht : decide (M ≤ N) = t) (hkt : (k = 0 ∧ t = true ∧ v = .nilIface ∧ Z = N) ∨ (k = 8 ∧ t = false ∧ (∃ z, v = .iface 128 (.pointer (some z))) ∧ Z = M)) :
    Calls Tryd.prog 7 #[.int .i64 ra, .int .i64 rb] w fun e w' => e = .returned (.bool true) ∧ Below w.heap.size w w' := by
  have HA := hid hra
  have HB := hid hrb
  have HE := hid hE
  have HZ := hid hZ
  have eg := eqlG
  have eq9 := eqlN
  have HKT := hid hkt
  obtain ⟨x9, hx9⟩ : ∃ z, erv es 9 = .iface 128 (.pointer (some z)) := ⟨_, rfl⟩
  obtain ⟨x5, hx5⟩ : ∃ z, erv es 5 = .iface 128 (.pointer (some z)) := ⟨_, rfl⟩
  have g1 : poolE [] 1 M 5000 = 0 := by rw [poolE, show (gt ([] : PL) 1).isSome = false from rfl, if_neg (by decide), gvE, if_neg (by omega), if_neg (by omega)]
  have s1 : poolS [] 1 9 M 5000 = [(1, (9, M))] := by rw [poolS, g1]; rfl
  have g2 : bufE [(1, (9, M))] [] 2 1 0 2 2 8 0 = 0 := by
    show (if false = true then 5 else rmE M 0 2 2 8 0) = 0
    rw [if_neg (by decide), rmE, if_neg (by omega), if_neg (by omega)]
  have s2 : bufS [(1, (9, M))] [] 2 1 0 2 2 8 0 = [(2, (q9, false))] := by rw [bufS, g2]; rfl
  have g3 : rszE [(1, (9, M))] 1 N 5000 = k := by rw [← hk]; rfl
  have s3 : rszS [(1, (9, M))] 1 N 5000 = [(1, (9, Z))] := by
    rw [rszS, g3]
    rcases hkt with ⟨h, -, -, hz⟩ | ⟨h, -, -, hz⟩
    · rw [h, hz]; rfl
    · rw [h, hz]; rfl
  have hz2 : 16 ≤ Z ∧ Z ≤ 1015 := by omega
  have g4 : rszE [(1, (9, Z))] 1 6000 5000 = 9 := by
    show gvE 6000 Z 5000 = 9
    rw [gvE, if_neg (by omega), if_pos (by omega)]
  have s4 : rszS [(1, (9, Z))] 1 6000 5000 = [(1, (9, Z))] := by rw [rszS, g4, if_neg (by decide)]
  have HG1 := hid g1
  have HS1 := hid s1
  have HG2 := hid g2
  have HS2 := hid s2
  have HG3 := hid g3
  have HS3 := hid s3
  have HG4 := hid g4
  have HS4 := hid s4
  have HV := hid hv
  clear hra hrb hE g1 s1 g2 s2 g3 s3 g4 s4 hkt hk hZ hv
  have hr1 : I64 M := by omega
  have hr2 : I64 N := by omega
  subst hM hN
  go_enter Tryd.func7, Tryd.ntmps7
  go_wp2_with fail
  refine (HA.out _).mono ?_
  rintro e w1 ⟨rfl, rfl⟩
  go_wp2_with fail
  refine (HB.out _).mono ?_
  rintro e w1 ⟨rfl, rfl⟩
  go_wp2_with fail
  refine (qsnew w1).mono ?_
  rintro e w2 ⟨rfl, hQ⟩
  have HQ := hid hQ
  clear hQ
  generalize w1.heap.size + 2 = p at *
  generalize w1.heap.size + 1 = b at *
  generalize ha : w1.heap.size = a at HQ
  clear ha
  -- pool
  go_wp2_with fail
  refine (HQ.out.pool HE.out 1 9 _ 5000 (by decide) _ _ HG1.out HS1.out (by simp)).mono ?_
  rintro e w3 ⟨rfl, hQ, -⟩
  have HQ := hid hQ
  clear hQ
  rw [show erv es 0 = .nilIface from rfl]
  -- buffer
  go_wp2_with fail
  refine (HQ.out.buffer HE.out 2 1 0 2 2 8 0 (by decide) (by decide) (by decide) (by decide) (by decide) (by decide) _ _ HG2.out HS2.out (by decide)).mono ?_
  rintro e w4 ⟨rfl, hQ, -⟩
  have HQ := hid hQ
  clear hQ
  rw [show erv es 0 = .nilIface from rfl]
  -- resize
  go_wp2_with fail
  refine (HQ.out.resize HE.out 1 _ 5000 (by decide) _ _ HG3.out HS3.out (by simp)).mono ?_
  rintro e w5 ⟨rfl, hQ, -⟩
  have HQ := hid hQ
  clear hQ
  rw [HV.out]
  have key : ∀ _ : Unit, (t = true ∧ v = .nilIface) ∨ (t = false ∧ ∃ z, v = .iface 128 (.pointer (some z))) := fun _ => by
    rcases HKT.out with ⟨-, h1, h2, -⟩ | ⟨-, h1, h2, -⟩
    · exact .inl ⟨h1, h2⟩
    · exact .inr ⟨h1, h2⟩
  clear HA HB HG1 HS1 HG2 HS2 HG3 HS3 HV HKT
  have hmx := mx _ _ Z HZ.out
  have n1 : (Z != Z) = false := by simp
  rcases key () with ⟨rfl, rfl⟩ | ⟨rfl, z, rfl⟩
  · have hmn : m ≤ n := by have := of_decide_eq_true ht; omega
    have e1 : decide (m ≤ n) = true := decide_eq_true hmn
    clear key
    go_wp2_with fail
    refine (HQ.out.size 1 (by decide) Z rfl).mono ?_
    rintro e w6 ⟨rfl, hQ, -⟩
    have HQ := hid hQ
    clear hQ
    go_wp2_with fail
    refine (HQ.out.resize HE.out 1 6000 5000 (by decide) _ _ HG4.out HS4.out (by simp)).mono ?_
    rintro e w7 ⟨rfl, hQ, -⟩
    have HQ := hid hQ
    clear hQ
    rw [hx9]
    go_wp2_with fail
    refine (HQ.out.info 2 (by decide)).mono ?_
    rintro e w8 ⟨rfl, hQ, -⟩
    rw [info9]
    have HQ := hid (hQ.on ((Below.refl _ w8).alloc (Nat.le_refl _) (.cells #[.int .i64 9, .int .i64 0, .int .i64 2, .int .i64 2, .int .i64 8, .int .i64 0] 60)))
    have HN1 : Hid (Nb (w8.alloc (.cells #[.int .i64 9, .int .i64 0, .int .i64 2, .int .i64 2, .int .i64 8, .int .i64 0] 60)) w8.heap.size q9) := heap_alloc_new _ _
    have HL := hid hQ.st.lt
    obtain ⟨g1, hg1⟩ : ∃ g, g = w8.heap.size := ⟨_, rfl⟩
    have HNA : Hid (g1 ≠ a ∧ g1 ≠ b) := by have := HL.out; exact ⟨by omega, by omega⟩
    clear hQ
    go_wp2_with fail
    rw [← hg1] at HN1 ⊢
    clear hg1 HL
    refine (HQ.out.drop HE.out 1 (by decide) 0 [] rfl rfl).mono ?_
    rintro e w9 ⟨rfl, hQ, hk⟩
    have HN2 : Hid (Nb w9 g1 q9) := hk.var HN1.out (by simpa using HNA.out.1)
    have HQ := hid hQ
    clear hQ hk HN1
    rw [show erv es 0 = .nilIface from rfl]
    go_wp2_with fail
    refine (HQ.out.drop HE.out 1 (by decide) 5 [] rfl rfl).mono ?_
    rintro e w10 ⟨rfl, hQ, hk⟩
    have HN3 : Hid (Nb w10 g1 q9) := hk.var HN2.out (by simpa using HNA.out.1)
    have HQ := hid hQ
    clear hQ hk HN2
    rw [hx5]
    go_wp2_with fail
    refine (HQ.out.size 1 (by decide) (-1) rfl).mono ?_
    rintro e w11 ⟨rfl, hQ, hb⟩
    have HN4 : Hid (Nb w11 g1 q9) := (kp_of_below hb []).var HN3.out (by simp)
    have HQ := hid hQ
    clear hQ hb HN3
    go_wp2_with fail
    refine (HQ.out.buffer HE.out 3 1 0 1 1 4 0 (by decide) (by decide) (by decide) (by decide) (by decide) (by decide) 5 _ rfl rfl (by decide)).mono ?_
    rintro e w12 ⟨rfl, hQ, hk⟩
    have HN5 : Hid (Nb w12 g1 q9) := hk.var HN4.out (by simpa using HNA.out.2)
    have HQ := hid (show Qs w1 w12 p a b [] [(2, (q9, false))] from hQ)
    clear hQ hk HN4
    rw [hx5]
    go_wp2_with fail
    refine (HQ.out.info 2 (by decide)).mono ?_
    rintro e w13 ⟨rfl, hQ, hb⟩
    rw [info9]
    have hb2 := (Below.refl _ w13).alloc (Nat.le_refl _) (.cells #[.int .i64 9, .int .i64 0, .int .i64 2, .int .i64 2, .int .i64 8, .int .i64 0] 60)
    have HN6 : Hid (Nb (w13.alloc (.cells #[.int .i64 9, .int .i64 0, .int .i64 2, .int .i64 2, .int .i64 8, .int .i64 0] 60)) g1 q9) := (kp_of_below (Below.on hb hb2) []).var HN5.out (by simp)
    have HQ := hid (hQ.on hb2)
    have HO1 : Hid (Nb (w13.alloc (.cells #[.int .i64 9, .int .i64 0, .int .i64 2, .int .i64 2, .int .i64 8, .int .i64 0] 60)) w13.heap.size q9) := heap_alloc_new _ _
    clear hQ hb hb2 HN5
    obtain ⟨d0, d1, d2, d3, d4, d5⟩ := nb9 HN6.out
    go_wp2_with fail
    refine (HQ.out.live 2 (by decide) true rfl).mono ?_
    rintro e w14 ⟨rfl, hQ, -⟩
    have HQ := hid hQ
    clear hQ d0 d1 d2 d3 d4 d5 HN6 HO1
    go_wp2_with fail
    refine (HQ.out.dropb HE.out 2 (by decide) 0 [(2, (q9, true))] rfl rfl (by decide)).mono ?_
    rintro e w15 ⟨rfl, hQ, -⟩
    have HQ := hid hQ
    clear hQ
    rw [show erv es 0 = .nilIface from rfl]
    go_wp2_with fail
    refine (HQ.out.live 2 (by decide) false rfl).mono ?_
    rintro e w16 ⟨rfl, hQ, -⟩
    have HQ := hid hQ
    clear hQ
    go_wp2_with fail
    refine (HQ.out.dropb HE.out 2 (by decide) 5 [(2, (q9, true))] rfl rfl (by decide)).mono ?_
    rintro e w17 ⟨rfl, hQ, -⟩
    have HQ := hid hQ
    clear hQ
    rw [hx5]
    go_wp2_with fail
    refine (HQ.out.awake HE.out).mono ?_
    rintro e w18 ⟨rfl, hb⟩
    go_wp2
    go_ret
    exact ⟨rfl, hb⟩
  · have hmn : n < m := by have := of_decide_eq_false ht; omega
    have e1 : decide (m ≤ n) = false := decide_eq_false (by omega)
    have e2 : decide (n < m) = true := decide_eq_true hmn
    clear key
    go_wp2_with fail
    refine (HQ.out.size 1 (by decide) Z rfl).mono ?_
    rintro e w6 ⟨rfl, hQ, -⟩
    have HQ := hid hQ
    clear hQ
    go_wp2_with fail
    refine (HQ.out.resize HE.out 1 6000 5000 (by decide) _ _ HG4.out HS4.out (by simp)).mono ?_
    rintro e w7 ⟨rfl, hQ, -⟩
    have HQ := hid hQ
    clear hQ
    rw [hx9]
    go_wp2_with fail
    refine (HQ.out.info 2 (by decide)).mono ?_
    rintro e w8 ⟨rfl, hQ, -⟩
    rw [info9]
    have HQ := hid (hQ.on ((Below.refl _ w8).alloc (Nat.le_refl _) (.cells #[.int .i64 9, .int .i64 0, .int .i64 2, .int .i64 2, .int .i64 8, .int .i64 0] 60)))
    have HN1 : Hid (Nb (w8.alloc (.cells #[.int .i64 9, .int .i64 0, .int .i64 2, .int .i64 2, .int .i64 8, .int .i64 0] 60)) w8.heap.size q9) := heap_alloc_new _ _
    have HL := hid hQ.st.lt
    obtain ⟨g1, hg1⟩ : ∃ g, g = w8.heap.size := ⟨_, rfl⟩
    have HNA : Hid (g1 ≠ a ∧ g1 ≠ b) := by have := HL.out; exact ⟨by omega, by omega⟩
    clear hQ
    go_wp2_with fail
    rw [← hg1] at HN1 ⊢
    clear hg1 HL
    refine (HQ.out.drop HE.out 1 (by decide) 0 [] rfl rfl).mono ?_
    rintro e w9 ⟨rfl, hQ, hk⟩
    have HN2 : Hid (Nb w9 g1 q9) := hk.var HN1.out (by simpa using HNA.out.1)
    have HQ := hid hQ
    clear hQ hk HN1
    rw [show erv es 0 = .nilIface from rfl]
    go_wp2_with fail
    refine (HQ.out.drop HE.out 1 (by decide) 5 [] rfl rfl).mono ?_
    rintro e w10 ⟨rfl, hQ, hk⟩
    have HN3 : Hid (Nb w10 g1 q9) := hk.var HN2.out (by simpa using HNA.out.1)
    have HQ := hid hQ
    clear hQ hk HN2
    rw [hx5]
    go_wp2_with fail
    refine (HQ.out.size 1 (by decide) (-1) rfl).mono ?_
    rintro e w11 ⟨rfl, hQ, hb⟩
    have HN4 : Hid (Nb w11 g1 q9) := (kp_of_below hb []).var HN3.out (by simp)
    have HQ := hid hQ
    clear hQ hb HN3
    go_wp2_with fail
    refine (HQ.out.buffer HE.out 3 1 0 1 1 4 0 (by decide) (by decide) (by decide) (by decide) (by decide) (by decide) 5 _ rfl rfl (by decide)).mono ?_
    rintro e w12 ⟨rfl, hQ, hk⟩
    have HN5 : Hid (Nb w12 g1 q9) := hk.var HN4.out (by simpa using HNA.out.2)
    have HQ := hid (show Qs w1 w12 p a b [] [(2, (q9, false))] from hQ)
    clear hQ hk HN4
    rw [hx5]
    go_wp2_with fail
    refine (HQ.out.info 2 (by decide)).mono ?_
    rintro e w13 ⟨rfl, hQ, hb⟩
    rw [info9]
    have hb2 := (Below.refl _ w13).alloc (Nat.le_refl _) (.cells #[.int .i64 9, .int .i64 0, .int .i64 2, .int .i64 2, .int .i64 8, .int .i64 0] 60)
    have HN6 : Hid (Nb (w13.alloc (.cells #[.int .i64 9, .int .i64 0, .int .i64 2, .int .i64 2, .int .i64 8, .int .i64 0] 60)) g1 q9) := (kp_of_below (Below.on hb hb2) []).var HN5.out (by simp)
    have HQ := hid (hQ.on hb2)
    have HO1 : Hid (Nb (w13.alloc (.cells #[.int .i64 9, .int .i64 0, .int .i64 2, .int .i64 2, .int .i64 8, .int .i64 0] 60)) w13.heap.size q9) := heap_alloc_new _ _
    clear hQ hb hb2 HN5
    obtain ⟨d0, d1, d2, d3, d4, d5⟩ := nb9 HN6.out
    go_wp2_with fail
    refine (HQ.out.live 2 (by decide) true rfl).mono ?_
    rintro e w14 ⟨rfl, hQ, -⟩
    have HQ := hid hQ
    clear hQ d0 d1 d2 d3 d4 d5 HN6 HO1
    go_wp2_with fail
    refine (HQ.out.dropb HE.out 2 (by decide) 0 [(2, (q9, true))] rfl rfl (by decide)).mono ?_
    rintro e w15 ⟨rfl, hQ, -⟩
    have HQ := hid hQ
    clear hQ
    rw [show erv es 0 = .nilIface from rfl]
    go_wp2_with fail
    refine (HQ.out.live 2 (by decide) false rfl).mono ?_
    rintro e w16 ⟨rfl, hQ, -⟩
    have HQ := hid hQ
    clear hQ
    go_wp2_with fail
    refine (HQ.out.dropb HE.out 2 (by decide) 5 [(2, (q9, true))] rfl rfl (by decide)).mono ?_
    rintro e w17 ⟨rfl, hQ, -⟩
    have HQ := hid hQ
    clear hQ
    rw [hx5]
    go_wp2_with fail
    refine (HQ.out.awake HE.out).mono ?_
    rintro e w18 ⟨rfl, hb⟩
    go_wp2
    go_ret
    exact ⟨rfl, hb⟩

theorem walk (a b : Int) (w : World) (ha : (Lit.int .i64 a).wf = true) (hb : (Lit.int .i64 b).wf = true) (hL : laidMetH Tryd.prog Rows.poolGrowsRow.laid w) :
    Calls Tryd.prog 7 #[.int .i64 a, .int .i64 b] w fun e w' => e = .returned (.bool true) ∧ Below w.heap.size w w' := by
  obtain ⟨es, hE⟩ := errs16 hL
  have h1 := plc_lt a 1000 (by omega)
  have h2 := plc_lt b 1000 (by omega)
  have c1 := place_any a 1000 (wf64 ha) (by omega) (by omega)
  have c2 := place_any b 1000 (wf64 hb) (by omega) (by omega)
  generalize plc a 1000 = m at *
  generalize plc b 1000 = n at *
  refine core m n a b w h1 h2 c1 c2 es hE _ _ _ rfl rfl _ _ _ rfl rfl rfl rfl ?_
  by_cases h : 16 + (m : Int) ≤ 16 + (n : Int)
  · left
    have hg : gvE (16 + (n : Int)) (16 + (m : Int)) 5000 = 0 := by rw [gvE, if_neg (by omega), if_neg (by omega)]
    rw [hg]
    refine ⟨rfl, decide_eq_true h, rfl, ?_⟩
    split <;> omega
  · right
    have hg : gvE (16 + (n : Int)) (16 + (m : Int)) 5000 = 8 := by rw [gvE, if_pos (by omega)]
    rw [hg]
    refine ⟨rfl, decide_eq_false h, ⟨_, rfl⟩, ?_⟩
    split <;> omega
end Go.Proofs.YtnfenfleahennaaDoor.poolGrows
