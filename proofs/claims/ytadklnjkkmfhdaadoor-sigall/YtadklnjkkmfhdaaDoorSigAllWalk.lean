/- SigAll's walk: for every interface, number and name the law returns true; nothing that was there is turned. -/
import Derived.Test.YtadklnjkkmfhdaaDoorSigG
import Derived.Test.YtadklnjkkmfhdaaDoorRefU
import Derived.Test.YtadklnjkkmfhdaaDoorKindA
set_option linter.unusedSimpArgs false
namespace Go.Proofs.YtadklnjkkmfhdaaDoor.sigAll
open Go Go.RowKit

/-- The number of what Request and Event tell. -/
def kv : Bool → Int
  | true => 0
  | false => 6

set_option maxRecDepth 100000 in
theorem long (a0 a1 : Int) (a2 : ByteArray) (w : World) (a : Addr) (hM : Meth w a) (h : ¬ a2.size ≤ 200) :
    Calls Tryd.prog 3 #[.int .i64 a0, .int .i64 a1, .string a2] w fun e w' => e = .returned (.bool true) ∧ Below w.heap.size w w' := by
  have HM : Hid (Meth w a) := hM
  have g1 : (200 : Int) < a2.size := by omega
  clear hM h
  go_enter Tryd.func3, Tryd.ntmps3
  go_wp2_with fail
  refine (awake_any _ a HM.out).mono ?_
  rintro e w1 ⟨rfl, b1⟩
  go_wp2
  go_ret
  exact ⟨rfl, b1⟩

set_option maxRecDepth 100000 in
set_option maxHeartbeats 4000000 in
theorem short (f o : Int) (nm : ByteArray) (w : World) (es : List Addr) (hE : Errs w gerrs es) (h : nm.size ≤ 200) :
    Calls Tryd.prog 3 #[.int .i64 f, .int .i64 o, .string nm] w fun e w' => e = .returned (.bool true) ∧ Below w.heap.size w w' := by
  obtain ⟨a, ha⟩ : ∃ a, es.getD 5 ⟨0, 0, none⟩ = a := ⟨_, rfl⟩
  have HM : Hid (Meth w a) := by
    have h5 : 5 < es.length := by rw [hE.len]; decide
    have h := (hE.each 5 0 es[5] rfl (List.getElem?_eq_getElem h5)).1
    show _ = _
    rw [← ha, List.getD, List.getElem?_eq_getElem h5]
    exact h
  have HF : Hid (Errs w gerrs es) := hE
  have HK : Hid (∀ u q, Errs u gerrs es → Calls Tryd.prog 12 #[errv a q] u fun e w' => e = .returned (.int .i64 (kv q)) ∧ Below u.heap.size u w') := by
    intro u q hu
    cases q
    · have h := kind_erv u es hu 6 (by decide)
      rw [erv, ha] at h
      exact h
    · exact kind_erv u es hu 0 (by decide)
  have g1 : ¬ (200 : Int) < nm.size := by omega
  clear hE h ha
  have HR : Hid (∀ u, Meth u a → Calls Tryd.prog 8 #[.int .i64 f, .int .i64 o] u fun e w' => e = .returned (.tuple #[.string ⟨(rqS f o).toArray⟩, errv a (rqIs f o)]) ∧ Below u.heap.size u w') := fun u hu => Request_any _ _ u a hu
  have HE : Hid (∀ u, Meth u a → Calls Tryd.prog 10 #[.int .i64 f, .int .i64 o] u fun e w' => e = .returned (.tuple #[.string ⟨(evS f o).toArray⟩, errv a (evIs f o)]) ∧ Below u.heap.size u w') := fun u hu => Event_any _ _ u a hu
  have HR' : Hid (∀ u, Calls Tryd.prog 9 #[.int .i64 f, .int .i64 o] u fun e w' => e = .returned (.tuple #[.agg #[.string ⟨(rqS f o).toArray⟩, .int .i64 (rqM f o), .bool (rqB f o)], .bool (rqIs f o)]) ∧ Below u.heap.size u w') := RefRequest_any _ _
  have HE' : Hid (∀ u, Calls Tryd.prog 11 #[.int .i64 f, .int .i64 o] u fun e w' => e = .returned (.tuple #[.string ⟨(evS f o).toArray⟩, .bool (evIs f o)]) ∧ Below u.heap.size u w') := RefEvent_any _ _
  have CM : Hid (∀ u, Calls Tryd.prog 13 #[.int .i64 f, .int .i64 o] u fun e w' => e = .returned (.int .i64 (rqM f o)) ∧ Below u.heap.size u w') := Makes_any _ _
  have CE : Hid (∀ u, Calls Tryd.prog 14 #[.int .i64 f, .int .i64 o] u fun e w' => e = .returned (.bool (rqB f o)) ∧ Below u.heap.size u w') := Ends_any _ _
  have CN : Hid (∀ u, Calls Tryd.prog 15 #[.int .i64 f] u fun e w' => e = .returned (.string ⟨(nmS f).toArray⟩) ∧ Below u.heap.size u w') := Name_any _
  have CN' : Hid (∀ u, Calls Tryd.prog 16 #[.int .i64 f] u fun e w' => e = .returned (.string ⟨(nmS f).toArray⟩) ∧ Below u.heap.size u w') := fun u => RefName_any f u
  have CF : Hid (∀ u, Calls Tryd.prog 17 #[.string nm] u fun e w' => e = .returned (.int .i64 (faceOf nm : Nat)) ∧ Below u.heap.size u w') := Face_any _
  have CF' : Hid (∀ u, Calls Tryd.prog 18 #[.string nm] u fun e w' => e = .returned (.int .i64 (faceOf nm : Nat)) ∧ Below u.heap.size u w') := RefFace_any _
  generalize rqIs f o = q1 at *
  generalize evIs f o = q2 at *
  generalize (⟨(rqS f o).toArray⟩ : ByteArray) = s1 at *
  generalize (⟨(evS f o).toArray⟩ : ByteArray) = s2 at *
  generalize rqM f o = m1 at *
  generalize rqB f o = b1 at *
  generalize (⟨(nmS f).toArray⟩ : ByteArray) = n1 at *
  generalize ((faceOf nm : Nat) : Int) = f1 at *
  go_enter Tryd.func3, Tryd.ntmps3
  go_wp2_with fail
  refine (HR.out _ HM.out).mono ?_
  rintro e w1 ⟨rfl, hb⟩
  have H1 : Hid (Below w.heap.size w w1) := hb
  clear HR hb
  generalize hv1 : errv a q1 = v1
  go_wp2_with fail
  refine (HR'.out _).mono ?_
  rintro e w2 ⟨rfl, hb⟩
  have H2 : Hid (Below w.heap.size w w2) := Below.on H1.out hb
  clear H1 HR' hb
  have hv := below1 w2 (.cells #[.string s1, .int .i64 m1, .bool b1] 28)
  have H3 : Hid (Below w.heap.size w (w2.alloc (.cells #[.string s1, .int .i64 m1, .bool b1] 28))) := Below.on H2.out hv
  have hV := heap_alloc_last w2 (.cells #[.string s1, .int .i64 m1, .bool b1] 28)
  have HV : Hid ((w2.alloc (.cells #[.string s1, .int .i64 m1, .bool b1] 28)).heap[w2.heap.size]? = some (.cells #[.string s1, .int .i64 m1, .bool b1] 28)) := hV
  clear hV hv H2
  go_wp2_with fail
  refine (HE.out _ (HM.out.below H3.out)).mono ?_
  rintro e w4 ⟨rfl, hb⟩
  have H4 : Hid (Below w.heap.size w w4) := Below.on H3.out hb
  have HV4 : Hid (w4.heap[w2.heap.size]? = some (.cells #[.string s1, .int .i64 m1, .bool b1] 28)) := by
    show _ = _
    rw [hb.block _ (Array.getElem?_eq_some_iff.1 HV.out).1]
    exact HV.out
  clear H3 HE hb HV
  generalize hv2 : errv a q2 = v2
  go_wp2_with fail
  refine (HE'.out _).mono ?_
  rintro e w5 ⟨rfl, hb⟩
  have H5 : Hid (Below w.heap.size w w5) := Below.on H4.out hb
  have HV5 : Hid (w5.heap[w2.heap.size]? = some (.cells #[.string s1, .int .i64 m1, .bool b1] 28)) := by
    show _ = _
    rw [hb.block _ (Array.getElem?_eq_some_iff.1 HV4.out).1]
    exact HV4.out
  clear H4 HE' hb HV4
  generalize w2.heap.size = nV at *
  go_upto_if 45 with fail
  go_cut [15] (fun c wx => c = .int .i64 (kv q1) ∧ wx = w5)
  case first =>
    cases q1
    all_goals
      go_wp2_with fail
      go_meet
      exact ⟨rfl, rfl⟩
  case rest =>
    obtain ⟨rfl, rfl⟩ := hcut
    go_upto_if 46 with fail
    go_cut [16] (fun c wx => c = .int .i64 (kv q2) ∧ wx = wc)
    case first =>
      cases q2
      all_goals
        go_wp2_with fail
        go_meet
        exact ⟨rfl, rfl⟩
    case rest =>
      obtain ⟨rfl, rfl⟩ := hcut
      go_wp2_with fail
      -- HERE
      have CK1 : Hid (∀ u, Below wc.heap.size wc u → Calls Tryd.prog 12 #[v1] u fun e w' => e = .returned (.int .i64 (kv q1)) ∧ Below u.heap.size u w') := fun u hu => by
        rw [← hv1]
        exact HK.out u q1 ((HF.out.below H5.out).below hu)
      have CK2 : Hid (∀ u, Below wc.heap.size wc u → Calls Tryd.prog 12 #[v2] u fun e w' => e = .returned (.int .i64 (kv q2)) ∧ Below u.heap.size u w') := fun u hu => by
        rw [← hv2]
        exact HK.out u q2 ((HF.out.below H5.out).below hu)
      have CA : Hid (∀ u, Below wc.heap.size wc u → Calls Tryd.prog 7 #[] u fun e w' => e = .returned (.bool true) ∧ Below u.heap.size u w') := fun u hu => awake_any u a ((HM.out.below H5.out).below hu)
      have tf0 : ∀ u, Below wc.heap.size wc u → u.cell? ⟨nV, 0, none⟩ = some (.string s1) := fun u hu => by rw [World.cell?, hu.block _ (Array.getElem?_eq_some_iff.1 HV5.out).1, HV5.out]; rfl
      have tf1 : ∀ u, Below wc.heap.size wc u → u.cell? ⟨nV, 1, none⟩ = some (.int .i64 m1) := fun u hu => by rw [World.cell?, hu.block _ (Array.getElem?_eq_some_iff.1 HV5.out).1, HV5.out]; rfl
      have tf2 : ∀ u, Below wc.heap.size wc u → u.cell? ⟨nV, 2, none⟩ = some (.bool b1) := fun u hu => by rw [World.cell?, hu.block _ (Array.getElem?_eq_some_iff.1 HV5.out).1, HV5.out]; rfl
      generalize kv q1 = k1 at *
      generalize kv q2 = k2 at *
      clear hv1 hv2 HV5 HK HF HM
      refine wp_region_held_drew (S := fun x => Below wc.heap.size wc x) (by kernel_rfl) (Below.refl _ _).drew (fun hHeld => ?_)
      have hHeld : Below wc.heap.size wc wc.drew := hHeld
      have bw : Below wc.heap.size wc wc.drew := (Below.refl _ _).drew
      refine wpAnyH_take (i := 0) (v := ?_) rfl (by kernel_rfl) (by kernel_rfl) (by kernel_rfl) (fun _ _ _ h => h) (Or.inl ⟨by kernel_rfl, ?hy0⟩) (by assumption) ?_
      case hy0 => (intro w hSw; (try dsimp only at hSw); go_simp; try with_reducible rfl)
      try simp only [Act.put, List.getElem_toArray, List.getElem_cons_zero, List.getElem_cons_succ, List.setIfInBounds_toArray, List.set_cons_zero, List.set_cons_succ]
      refine wpAnyH_take (i := 1) (v := ?_) rfl (by kernel_rfl) (by kernel_rfl) (by kernel_rfl) (fun _ _ _ h => h) (Or.inl ⟨by kernel_rfl, ?hy1⟩) (by assumption) ?_
      case hy1 => (intro w hSw; (try dsimp only at hSw); go_simp; try with_reducible rfl)
      try simp only [Act.put, List.getElem_toArray, List.getElem_cons_zero, List.getElem_cons_succ, List.setIfInBounds_toArray, List.set_cons_zero, List.set_cons_succ]
      refine wpAnyH_take (i := 2) (v := ?_) rfl (by kernel_rfl) (by kernel_rfl) (by kernel_rfl) (fun _ _ _ h => h) (Or.inl ⟨by kernel_rfl, ?hy2⟩) (by assumption) ?_
      case hy2 => (intro w hSw; (try dsimp only at hSw); go_simp; try with_reducible rfl)
      try simp only [Act.put, List.getElem_toArray, List.getElem_cons_zero, List.getElem_cons_succ, List.setIfInBounds_toArray, List.set_cons_zero, List.set_cons_succ]
      refine wpAnyH_take (i := 3) (v := ?_) rfl (by kernel_rfl) (by kernel_rfl) (by kernel_rfl) (fun _ _ _ h => h) (Or.inl ⟨by kernel_rfl, ?hy3⟩) (by assumption) ?_
      case hy3 => (intro w hSw; (try dsimp only at hSw); go_simp; try with_reducible rfl)
      try simp only [Act.put, List.getElem_toArray, List.getElem_cons_zero, List.getElem_cons_succ, List.setIfInBounds_toArray, List.set_cons_zero, List.set_cons_succ]
      refine wpAnyH_take (i := 4) (v := ?_) rfl (by kernel_rfl) (by kernel_rfl) (by kernel_rfl) (fun _ _ _ h => h) (Or.inl ⟨by kernel_rfl, ?hy4⟩) (by assumption) ?_
      case hy4 => (intro w hSw; (try dsimp only at hSw); go_simp; try with_reducible rfl)
      try simp only [Act.put, List.getElem_toArray, List.getElem_cons_zero, List.getElem_cons_succ, List.setIfInBounds_toArray, List.set_cons_zero, List.set_cons_succ]
      refine wpAnyH_take (i := 5) (v := ?_) rfl (by kernel_rfl) (by kernel_rfl) (by kernel_rfl) (fun _ _ _ h => h) (Or.inl ⟨by kernel_rfl, ?hy5⟩) (by assumption) ?_
      case hy5 => (intro w hSw; (try dsimp only at hSw); go_simp; try with_reducible rfl)
      try simp only [Act.put, List.getElem_toArray, List.getElem_cons_zero, List.getElem_cons_succ, List.setIfInBounds_toArray, List.set_cons_zero, List.set_cons_succ]
      refine wpAnyH_take (i := 7) (v := ?_) rfl (by kernel_rfl) (by kernel_rfl) (by kernel_rfl) (fun _ _ _ h => h) (Or.inl ⟨by kernel_rfl, ?hy7⟩) (by assumption) ?_
      case hy7 => (intro w hSw; (try dsimp only at hSw); go_simp; try with_reducible rfl)
      try simp only [Act.put, List.getElem_toArray, List.getElem_cons_zero, List.getElem_cons_succ, List.setIfInBounds_toArray, List.set_cons_zero, List.set_cons_succ]
      refine wpAnyH_ready (rs := [6]) (by kernel_rfl) (by simp) ?_
      refine AllReadyH.cons rfl (fun K hK => ?_) AllReadyH.nil
      go_simp
      go_wp2_with fail
      refine (CK1.out _ bw).mono ?_
      rintro e u6 ⟨rfl, hb⟩
      have hS' := Below.on hHeld hb
      refine hK.out _ _ hS' (fun _ => ?_)
      clear hK K
      refine wpAnyH_mono (S' := fun x => Below u6.heap.size u6 x) (fun x hx => Below.on hS' hx) ?_
      replace bw := Below.on bw hb
      replace tf0 := fun x hx => tf0 x (Below.on hS' hx)
      replace tf1 := fun x hx => tf1 x (Below.on hS' hx)
      replace tf2 := fun x hx => tf2 x (Below.on hS' hx)
      clear hHeld hb hS'
      have hHeld : Below u6.heap.size u6 u6 := Below.refl _ _
      refine wpAnyH_take (i := 8) (v := ?_) rfl (by kernel_rfl) (by kernel_rfl) (by kernel_rfl) (fun _ _ _ h => h) (Or.inl ⟨by kernel_rfl, ?hy8⟩) (by assumption) ?_
      case hy8 => (intro w hSw; (try dsimp only at hSw); go_simp; try with_reducible rfl)
      try simp only [Act.put, List.getElem_toArray, List.getElem_cons_zero, List.getElem_cons_succ, List.setIfInBounds_toArray, List.set_cons_zero, List.set_cons_succ]
      refine wpAnyH_take (i := 9) (v := ?_) rfl (by kernel_rfl) (by kernel_rfl) (by kernel_rfl) (fun _ _ _ h => h) (Or.inl ⟨by kernel_rfl, ?hy9⟩) (by assumption) ?_
      case hy9 => (intro w hSw; (try dsimp only at hSw); go_simp; try with_reducible rfl)
      try simp only [Act.put, List.getElem_toArray, List.getElem_cons_zero, List.getElem_cons_succ, List.setIfInBounds_toArray, List.set_cons_zero, List.set_cons_succ]
      refine wpAnyH_take (i := 10) (v := ?_) rfl (by kernel_rfl) (by kernel_rfl) (by kernel_rfl) (fun _ _ _ h => h) (Or.inl ⟨by kernel_rfl, ?hy10⟩) (by assumption) ?_
      case hy10 => (intro w hSw; (try dsimp only at hSw); go_simp; try with_reducible rfl)
      try simp only [Act.put, List.getElem_toArray, List.getElem_cons_zero, List.getElem_cons_succ, List.setIfInBounds_toArray, List.set_cons_zero, List.set_cons_succ]
      refine wpAnyH_take (i := 11) (v := ?_) rfl (by kernel_rfl) (by kernel_rfl) (by kernel_rfl) (fun _ _ _ h => h) (Or.inl ⟨by kernel_rfl, ?hy11⟩) (by assumption) ?_
      case hy11 => (intro w hSw; (try dsimp only at hSw); go_simp; try with_reducible rfl)
      try simp only [Act.put, List.getElem_toArray, List.getElem_cons_zero, List.getElem_cons_succ, List.setIfInBounds_toArray, List.set_cons_zero, List.set_cons_succ]
      refine wpAnyH_take (i := 12) (v := ?_) rfl (by kernel_rfl) (by kernel_rfl) (by kernel_rfl) (fun _ _ _ h => h) (Or.inl ⟨by kernel_rfl, ?hy12⟩) (by assumption) ?_
      case hy12 => (intro w hSw; (try dsimp only at hSw); go_simp; try with_reducible rfl)
      try simp only [Act.put, List.getElem_toArray, List.getElem_cons_zero, List.getElem_cons_succ, List.setIfInBounds_toArray, List.set_cons_zero, List.set_cons_succ]
      refine wpAnyH_take (i := 13) (v := ?_) rfl (by kernel_rfl) (by kernel_rfl) (by kernel_rfl) (fun _ _ _ h => h) (Or.inl ⟨by kernel_rfl, ?hy13⟩) (by assumption) ?_
      case hy13 => (intro w hSw; (try dsimp only at hSw); go_simp; try with_reducible rfl)
      try simp only [Act.put, List.getElem_toArray, List.getElem_cons_zero, List.getElem_cons_succ, List.setIfInBounds_toArray, List.set_cons_zero, List.set_cons_succ]
      refine wpAnyH_take (i := 14) (v := ?_) rfl (by kernel_rfl) (by kernel_rfl) (by kernel_rfl) (fun _ _ _ h => h) (Or.inl ⟨by kernel_rfl, ?hy14⟩) (by assumption) ?_
      case hy14 => (intro w hSw; (try dsimp only at hSw); go_simp; try with_reducible rfl)
      try simp only [Act.put, List.getElem_toArray, List.getElem_cons_zero, List.getElem_cons_succ, List.setIfInBounds_toArray, List.set_cons_zero, List.set_cons_succ]
      refine wpAnyH_take (i := 15) (v := ?_) rfl (by kernel_rfl) (by kernel_rfl) (by kernel_rfl) (fun _ _ _ h => h) (Or.inl ⟨by kernel_rfl, ?hy15⟩) (by assumption) ?_
      case hy15 => (intro w hSw; (try dsimp only at hSw); go_simp; try with_reducible rfl)
      try simp only [Act.put, List.getElem_toArray, List.getElem_cons_zero, List.getElem_cons_succ, List.setIfInBounds_toArray, List.set_cons_zero, List.set_cons_succ]
      refine wpAnyH_take (i := 16) (v := ?_) rfl (by kernel_rfl) (by kernel_rfl) (by kernel_rfl) (fun _ _ _ h => h) (Or.inl ⟨by kernel_rfl, ?hy16⟩) (by assumption) ?_
      case hy16 => (intro w hSw; (try dsimp only at hSw); go_simp; try with_reducible rfl)
      try simp only [Act.put, List.getElem_toArray, List.getElem_cons_zero, List.getElem_cons_succ, List.setIfInBounds_toArray, List.set_cons_zero, List.set_cons_succ]
      refine wpAnyH_take (i := 18) (v := ?_) rfl (by kernel_rfl) (by kernel_rfl) (by kernel_rfl) (fun _ _ _ h => h) (Or.inl ⟨by kernel_rfl, ?hy18⟩) (by assumption) ?_
      case hy18 => (intro w hSw; (try dsimp only at hSw); go_simp; try with_reducible rfl)
      try simp only [Act.put, List.getElem_toArray, List.getElem_cons_zero, List.getElem_cons_succ, List.setIfInBounds_toArray, List.set_cons_zero, List.set_cons_succ]
      refine wpAnyH_ready (rs := [17]) (by kernel_rfl) (by simp) ?_
      refine AllReadyH.cons rfl (fun K hK => ?_) AllReadyH.nil
      go_simp
      go_wp2_with fail
      refine (CK2.out _ bw).mono ?_
      rintro e u17 ⟨rfl, hb⟩
      have hS' := Below.on hHeld hb
      refine hK.out _ _ hS' (fun _ => ?_)
      clear hK K
      refine wpAnyH_mono (S' := fun x => Below u17.heap.size u17 x) (fun x hx => Below.on hS' hx) ?_
      replace bw := Below.on bw hb
      replace tf0 := fun x hx => tf0 x (Below.on hS' hx)
      replace tf1 := fun x hx => tf1 x (Below.on hS' hx)
      replace tf2 := fun x hx => tf2 x (Below.on hS' hx)
      clear hHeld hb hS'
      have hHeld : Below u17.heap.size u17 u17 := Below.refl _ _
      refine wpAnyH_take (i := 19) (v := ?_) rfl (by kernel_rfl) (by kernel_rfl) (by kernel_rfl) (fun _ _ _ h => h) (Or.inl ⟨by kernel_rfl, ?hy19⟩) (by assumption) ?_
      case hy19 => (intro w hSw; (try dsimp only at hSw); go_simp; try with_reducible rfl)
      try simp only [Act.put, List.getElem_toArray, List.getElem_cons_zero, List.getElem_cons_succ, List.setIfInBounds_toArray, List.set_cons_zero, List.set_cons_succ]
      refine wpAnyH_take (i := 20) (v := ?_) rfl (by kernel_rfl) (by kernel_rfl) (by kernel_rfl) (fun _ _ _ h => h) (Or.inl ⟨by kernel_rfl, ?hy20⟩) (by assumption) ?_
      case hy20 => (intro w hSw; (try dsimp only at hSw); go_simp; try with_reducible rfl)
      try simp only [Act.put, List.getElem_toArray, List.getElem_cons_zero, List.getElem_cons_succ, List.setIfInBounds_toArray, List.set_cons_zero, List.set_cons_succ]
      refine wpAnyH_take (i := 21) (v := ?_) rfl (by kernel_rfl) (by kernel_rfl) (by kernel_rfl) (fun _ _ _ h => h) (Or.inl ⟨by kernel_rfl, ?hy21⟩) (by assumption) ?_
      case hy21 => (intro w hSw; (try dsimp only at hSw); go_simp; try with_reducible rfl)
      try simp only [Act.put, List.getElem_toArray, List.getElem_cons_zero, List.getElem_cons_succ, List.setIfInBounds_toArray, List.set_cons_zero, List.set_cons_succ]
      refine wpAnyH_take (i := 22) (v := ?_) rfl (by kernel_rfl) (by kernel_rfl) (by kernel_rfl) (fun _ _ _ h => h) (Or.inl ⟨by kernel_rfl, ?hy22⟩) (by assumption) ?_
      case hy22 => (intro w hSw; (try dsimp only at hSw); go_simp; try with_reducible rfl)
      try simp only [Act.put, List.getElem_toArray, List.getElem_cons_zero, List.getElem_cons_succ, List.setIfInBounds_toArray, List.set_cons_zero, List.set_cons_succ]
      refine wpAnyH_take (i := 23) (v := ?_) rfl (by kernel_rfl) (by kernel_rfl) (by kernel_rfl) (fun _ _ _ h => h) (Or.inl ⟨by kernel_rfl, ?hy23⟩) (by assumption) ?_
      case hy23 => (intro w hSw; (try dsimp only at hSw); go_simp; try with_reducible rfl)
      try simp only [Act.put, List.getElem_toArray, List.getElem_cons_zero, List.getElem_cons_succ, List.setIfInBounds_toArray, List.set_cons_zero, List.set_cons_succ]
      refine wpAnyH_take (i := 25) (v := ?_) rfl (by kernel_rfl) (by kernel_rfl) (by kernel_rfl) (fun _ _ _ h => h) (Or.inl ⟨by kernel_rfl, ?hy25⟩) (by assumption) ?_
      case hy25 => (intro w hSw; (try dsimp only at hSw); go_simp; try with_reducible rfl)
      try simp only [Act.put, List.getElem_toArray, List.getElem_cons_zero, List.getElem_cons_succ, List.setIfInBounds_toArray, List.set_cons_zero, List.set_cons_succ]
      refine wpAnyH_take (i := 26) (v := ?_) rfl (by kernel_rfl) (by kernel_rfl) (by kernel_rfl) (fun _ _ _ h => h) (Or.inl ⟨by kernel_rfl, ?hy26⟩) (by assumption) ?_
      case hy26 => (intro w hSw; (try dsimp only at hSw); go_simp; try with_reducible rfl)
      try simp only [Act.put, List.getElem_toArray, List.getElem_cons_zero, List.getElem_cons_succ, List.setIfInBounds_toArray, List.set_cons_zero, List.set_cons_succ]
      refine wpAnyH_ready (rs := [24]) (by kernel_rfl) (by simp) ?_
      refine AllReadyH.cons rfl (fun K hK => ?_) AllReadyH.nil
      go_simp
      go_wp2_with fail
      refine (CM.out _).mono ?_
      rintro e u24 ⟨rfl, hb⟩
      have hS' := Below.on hHeld hb
      refine hK.out _ _ hS' (fun _ => ?_)
      clear hK K
      refine wpAnyH_mono (S' := fun x => Below u24.heap.size u24 x) (fun x hx => Below.on hS' hx) ?_
      replace bw := Below.on bw hb
      replace tf0 := fun x hx => tf0 x (Below.on hS' hx)
      replace tf1 := fun x hx => tf1 x (Below.on hS' hx)
      replace tf2 := fun x hx => tf2 x (Below.on hS' hx)
      clear hHeld hb hS'
      have hHeld : Below u24.heap.size u24 u24 := Below.refl _ _
      refine wpAnyH_take (i := 27) (v := ?_) rfl (by kernel_rfl) (by kernel_rfl) (by kernel_rfl) (fun _ _ _ h => h) (Or.inl ⟨by kernel_rfl, ?hy27⟩) (by assumption) ?_
      case hy27 => (intro w hSw; (try dsimp only at hSw); go_simp; try with_reducible rfl)
      try simp only [Act.put, List.getElem_toArray, List.getElem_cons_zero, List.getElem_cons_succ, List.setIfInBounds_toArray, List.set_cons_zero, List.set_cons_succ]
      refine wpAnyH_take (i := 28) (v := ?_) rfl (by kernel_rfl) (by kernel_rfl) (by kernel_rfl) (fun _ _ _ h => h) (Or.inl ⟨by kernel_rfl, ?hy28⟩) (by assumption) ?_
      case hy28 => (intro w hSw; (try dsimp only at hSw); go_simp; try with_reducible rfl)
      try simp only [Act.put, List.getElem_toArray, List.getElem_cons_zero, List.getElem_cons_succ, List.setIfInBounds_toArray, List.set_cons_zero, List.set_cons_succ]
      refine wpAnyH_take (i := 29) (v := ?_) rfl (by kernel_rfl) (by kernel_rfl) (by kernel_rfl) (fun _ _ _ h => h) (Or.inl ⟨by kernel_rfl, ?hy29⟩) (by assumption) ?_
      case hy29 => (intro w hSw; (try dsimp only at hSw); go_simp; try with_reducible rfl)
      try simp only [Act.put, List.getElem_toArray, List.getElem_cons_zero, List.getElem_cons_succ, List.setIfInBounds_toArray, List.set_cons_zero, List.set_cons_succ]
      refine wpAnyH_take (i := 30) (v := ?_) rfl (by kernel_rfl) (by kernel_rfl) (by kernel_rfl) (fun _ _ _ h => h) (Or.inl ⟨by kernel_rfl, ?hy30⟩) (by assumption) ?_
      case hy30 => (intro w hSw; (try dsimp only at hSw); go_simp; try with_reducible rfl)
      try simp only [Act.put, List.getElem_toArray, List.getElem_cons_zero, List.getElem_cons_succ, List.setIfInBounds_toArray, List.set_cons_zero, List.set_cons_succ]
      refine wpAnyH_take (i := 31) (v := ?_) rfl (by kernel_rfl) (by kernel_rfl) (by kernel_rfl) (fun _ _ _ h => h) (Or.inl ⟨by kernel_rfl, ?hy31⟩) (by assumption) ?_
      case hy31 => (intro w hSw; (try dsimp only at hSw); go_simp; try with_reducible rfl)
      try simp only [Act.put, List.getElem_toArray, List.getElem_cons_zero, List.getElem_cons_succ, List.setIfInBounds_toArray, List.set_cons_zero, List.set_cons_succ]
      refine wpAnyH_take (i := 33) (v := ?_) rfl (by kernel_rfl) (by kernel_rfl) (by kernel_rfl) (fun _ _ _ h => h) (Or.inl ⟨by kernel_rfl, ?hy33⟩) (by assumption) ?_
      case hy33 => (intro w hSw; (try dsimp only at hSw); go_simp; try with_reducible rfl)
      try simp only [Act.put, List.getElem_toArray, List.getElem_cons_zero, List.getElem_cons_succ, List.setIfInBounds_toArray, List.set_cons_zero, List.set_cons_succ]
      refine wpAnyH_take (i := 34) (v := ?_) rfl (by kernel_rfl) (by kernel_rfl) (by kernel_rfl) (fun _ _ _ h => h) (Or.inl ⟨by kernel_rfl, ?hy34⟩) (by assumption) ?_
      case hy34 => (intro w hSw; (try dsimp only at hSw); go_simp; try with_reducible rfl)
      try simp only [Act.put, List.getElem_toArray, List.getElem_cons_zero, List.getElem_cons_succ, List.setIfInBounds_toArray, List.set_cons_zero, List.set_cons_succ]
      refine wpAnyH_ready (rs := [32]) (by kernel_rfl) (by simp) ?_
      refine AllReadyH.cons rfl (fun K hK => ?_) AllReadyH.nil
      go_simp
      go_wp2_with fail
      refine (CE.out _).mono ?_
      rintro e u32 ⟨rfl, hb⟩
      have hS' := Below.on hHeld hb
      refine hK.out _ _ hS' (fun _ => ?_)
      clear hK K
      refine wpAnyH_mono (S' := fun x => Below u32.heap.size u32 x) (fun x hx => Below.on hS' hx) ?_
      replace bw := Below.on bw hb
      replace tf0 := fun x hx => tf0 x (Below.on hS' hx)
      replace tf1 := fun x hx => tf1 x (Below.on hS' hx)
      replace tf2 := fun x hx => tf2 x (Below.on hS' hx)
      clear hHeld hb hS'
      have hHeld : Below u32.heap.size u32 u32 := Below.refl _ _
      refine wpAnyH_take (i := 35) (v := ?_) rfl (by kernel_rfl) (by kernel_rfl) (by kernel_rfl) (fun _ _ _ h => h) (Or.inl ⟨by kernel_rfl, ?hy35⟩) (by assumption) ?_
      case hy35 => (intro w hSw; (try dsimp only at hSw); go_simp; try with_reducible rfl)
      try simp only [Act.put, List.getElem_toArray, List.getElem_cons_zero, List.getElem_cons_succ, List.setIfInBounds_toArray, List.set_cons_zero, List.set_cons_succ]
      refine wpAnyH_take (i := 36) (v := ?_) rfl (by kernel_rfl) (by kernel_rfl) (by kernel_rfl) (fun _ _ _ h => h) (Or.inl ⟨by kernel_rfl, ?hy36⟩) (by assumption) ?_
      case hy36 => (intro w hSw; (try dsimp only at hSw); go_simp; try with_reducible rfl)
      try simp only [Act.put, List.getElem_toArray, List.getElem_cons_zero, List.getElem_cons_succ, List.setIfInBounds_toArray, List.set_cons_zero, List.set_cons_succ]
      refine wpAnyH_take (i := 37) (v := ?_) rfl (by kernel_rfl) (by kernel_rfl) (by kernel_rfl) (fun _ _ _ h => h) (Or.inl ⟨by kernel_rfl, ?hy37⟩) (by assumption) ?_
      case hy37 => (intro w hSw; (try dsimp only at hSw); go_simp; try with_reducible rfl)
      try simp only [Act.put, List.getElem_toArray, List.getElem_cons_zero, List.getElem_cons_succ, List.setIfInBounds_toArray, List.set_cons_zero, List.set_cons_succ]
      refine wpAnyH_take (i := 38) (v := ?_) rfl (by kernel_rfl) (by kernel_rfl) (by kernel_rfl) (fun _ _ _ h => h) (Or.inl ⟨by kernel_rfl, ?hy38⟩) (by assumption) ?_
      case hy38 => (intro w hSw; (try dsimp only at hSw); go_simp; try with_reducible rfl)
      try simp only [Act.put, List.getElem_toArray, List.getElem_cons_zero, List.getElem_cons_succ, List.setIfInBounds_toArray, List.set_cons_zero, List.set_cons_succ]
      refine wpAnyH_take (i := 40) (v := ?_) rfl (by kernel_rfl) (by kernel_rfl) (by kernel_rfl) (fun _ _ _ h => h) (Or.inl ⟨by kernel_rfl, ?hy40⟩) (by assumption) ?_
      case hy40 => (intro w hSw; (try dsimp only at hSw); go_simp; try with_reducible rfl)
      try simp only [Act.put, List.getElem_toArray, List.getElem_cons_zero, List.getElem_cons_succ, List.setIfInBounds_toArray, List.set_cons_zero, List.set_cons_succ]
      refine wpAnyH_ready (rs := [39]) (by kernel_rfl) (by simp) ?_
      refine AllReadyH.cons rfl (fun K hK => ?_) AllReadyH.nil
      go_simp
      go_wp2_with fail
      refine (CN.out _).mono ?_
      rintro e u39 ⟨rfl, hb⟩
      have hS' := Below.on hHeld hb
      refine hK.out _ _ hS' (fun _ => ?_)
      clear hK K
      refine wpAnyH_mono (S' := fun x => Below u39.heap.size u39 x) (fun x hx => Below.on hS' hx) ?_
      replace bw := Below.on bw hb
      replace tf0 := fun x hx => tf0 x (Below.on hS' hx)
      replace tf1 := fun x hx => tf1 x (Below.on hS' hx)
      replace tf2 := fun x hx => tf2 x (Below.on hS' hx)
      clear hHeld hb hS'
      have hHeld : Below u39.heap.size u39 u39 := Below.refl _ _
      refine wpAnyH_ready (rs := [41]) (by kernel_rfl) (by simp) ?_
      refine AllReadyH.cons rfl (fun K hK => ?_) AllReadyH.nil
      go_simp
      go_wp2_with fail
      refine (CN'.out _).mono ?_
      rintro e u41 ⟨rfl, hb⟩
      have hS' := Below.on hHeld hb
      refine hK.out _ _ hS' (fun _ => ?_)
      clear hK K
      refine wpAnyH_mono (S' := fun x => Below u41.heap.size u41 x) (fun x hx => Below.on hS' hx) ?_
      replace bw := Below.on bw hb
      replace tf0 := fun x hx => tf0 x (Below.on hS' hx)
      replace tf1 := fun x hx => tf1 x (Below.on hS' hx)
      replace tf2 := fun x hx => tf2 x (Below.on hS' hx)
      clear hHeld hb hS'
      have hHeld : Below u41.heap.size u41 u41 := Below.refl _ _
      refine wpAnyH_take (i := 42) (v := ?_) rfl (by kernel_rfl) (by kernel_rfl) (by kernel_rfl) (fun _ _ _ h => h) (Or.inl ⟨by kernel_rfl, ?hy42⟩) (by assumption) ?_
      case hy42 => (intro w hSw; (try dsimp only at hSw); go_simp; try with_reducible rfl)
      try simp only [Act.put, List.getElem_toArray, List.getElem_cons_zero, List.getElem_cons_succ, List.setIfInBounds_toArray, List.set_cons_zero, List.set_cons_succ]
      refine wpAnyH_take (i := 43) (v := ?_) rfl (by kernel_rfl) (by kernel_rfl) (by kernel_rfl) (fun _ _ _ h => h) (Or.inl ⟨by kernel_rfl, ?hy43⟩) (by assumption) ?_
      case hy43 => (intro w hSw; (try dsimp only at hSw); go_simp; try with_reducible rfl)
      try simp only [Act.put, List.getElem_toArray, List.getElem_cons_zero, List.getElem_cons_succ, List.setIfInBounds_toArray, List.set_cons_zero, List.set_cons_succ]
      refine wpAnyH_take (i := 44) (v := ?_) rfl (by kernel_rfl) (by kernel_rfl) (by kernel_rfl) (fun _ _ _ h => h) (Or.inl ⟨by kernel_rfl, ?hy44⟩) (by assumption) ?_
      case hy44 => (intro w hSw; (try dsimp only at hSw); go_simp; try with_reducible rfl)
      try simp only [Act.put, List.getElem_toArray, List.getElem_cons_zero, List.getElem_cons_succ, List.setIfInBounds_toArray, List.set_cons_zero, List.set_cons_succ]
      refine wpAnyH_take (i := 45) (v := ?_) rfl (by kernel_rfl) (by kernel_rfl) (by kernel_rfl) (fun _ _ _ h => h) (Or.inl ⟨by kernel_rfl, ?hy45⟩) (by assumption) ?_
      case hy45 => (intro w hSw; (try dsimp only at hSw); go_simp; try with_reducible rfl)
      try simp only [Act.put, List.getElem_toArray, List.getElem_cons_zero, List.getElem_cons_succ, List.setIfInBounds_toArray, List.set_cons_zero, List.set_cons_succ]
      refine wpAnyH_take (i := 47) (v := ?_) rfl (by kernel_rfl) (by kernel_rfl) (by kernel_rfl) (fun _ _ _ h => h) (Or.inl ⟨by kernel_rfl, ?hy47⟩) (by assumption) ?_
      case hy47 => (intro w hSw; (try dsimp only at hSw); go_simp; try with_reducible rfl)
      try simp only [Act.put, List.getElem_toArray, List.getElem_cons_zero, List.getElem_cons_succ, List.setIfInBounds_toArray, List.set_cons_zero, List.set_cons_succ]
      refine wpAnyH_ready (rs := [46]) (by kernel_rfl) (by simp) ?_
      refine AllReadyH.cons rfl (fun K hK => ?_) AllReadyH.nil
      go_simp
      go_wp2_with fail
      refine (CF.out _).mono ?_
      rintro e u46 ⟨rfl, hb⟩
      have hS' := Below.on hHeld hb
      refine hK.out _ _ hS' (fun _ => ?_)
      clear hK K
      refine wpAnyH_mono (S' := fun x => Below u46.heap.size u46 x) (fun x hx => Below.on hS' hx) ?_
      replace bw := Below.on bw hb
      replace tf0 := fun x hx => tf0 x (Below.on hS' hx)
      replace tf1 := fun x hx => tf1 x (Below.on hS' hx)
      replace tf2 := fun x hx => tf2 x (Below.on hS' hx)
      clear hHeld hb hS'
      have hHeld : Below u46.heap.size u46 u46 := Below.refl _ _
      refine wpAnyH_ready (rs := [48]) (by kernel_rfl) (by simp) ?_
      refine AllReadyH.cons rfl (fun K hK => ?_) AllReadyH.nil
      go_simp
      go_wp2_with fail
      refine (CF'.out _).mono ?_
      rintro e u48 ⟨rfl, hb⟩
      have hS' := Below.on hHeld hb
      refine hK.out _ _ hS' (fun _ => ?_)
      clear hK K
      refine wpAnyH_mono (S' := fun x => Below u48.heap.size u48 x) (fun x hx => Below.on hS' hx) ?_
      replace bw := Below.on bw hb
      replace tf0 := fun x hx => tf0 x (Below.on hS' hx)
      replace tf1 := fun x hx => tf1 x (Below.on hS' hx)
      replace tf2 := fun x hx => tf2 x (Below.on hS' hx)
      clear hHeld hb hS'
      have hHeld : Below u48.heap.size u48 u48 := Below.refl _ _
      refine wpAnyH_take (i := 49) (v := ?_) rfl (by kernel_rfl) (by kernel_rfl) (by kernel_rfl) (fun _ _ _ h => h) (Or.inl ⟨by kernel_rfl, ?hy49⟩) (by assumption) ?_
      case hy49 => (intro w hSw; (try dsimp only at hSw); go_simp; try with_reducible rfl)
      try simp only [Act.put, List.getElem_toArray, List.getElem_cons_zero, List.getElem_cons_succ, List.setIfInBounds_toArray, List.set_cons_zero, List.set_cons_succ]
      refine wpAnyH_take (i := 50) (v := ?_) rfl (by kernel_rfl) (by kernel_rfl) (by kernel_rfl) (fun _ _ _ h => h) (Or.inl ⟨by kernel_rfl, ?hy50⟩) (by assumption) ?_
      case hy50 => (intro w hSw; (try dsimp only at hSw); go_simp; try with_reducible rfl)
      try simp only [Act.put, List.getElem_toArray, List.getElem_cons_zero, List.getElem_cons_succ, List.setIfInBounds_toArray, List.set_cons_zero, List.set_cons_succ]
      refine wpAnyH_take (i := 51) (v := ?_) rfl (by kernel_rfl) (by kernel_rfl) (by kernel_rfl) (fun _ _ _ h => h) (Or.inl ⟨by kernel_rfl, ?hy51⟩) (by assumption) ?_
      case hy51 => (intro w hSw; (try dsimp only at hSw); go_simp; try with_reducible rfl)
      try simp only [Act.put, List.getElem_toArray, List.getElem_cons_zero, List.getElem_cons_succ, List.setIfInBounds_toArray, List.set_cons_zero, List.set_cons_succ]
      refine wpAnyH_ready (rs := [52]) (by kernel_rfl) (by simp) ?_
      refine AllReadyH.cons rfl (fun K hK => ?_) AllReadyH.nil
      go_simp
      go_wp2_with fail
      refine (CA.out _ bw).mono ?_
      rintro e u52 ⟨rfl, hb⟩
      have hS' := Below.on hHeld hb
      refine hK.out _ _ hS' (fun _ => ?_)
      clear hK K
      refine wpAnyH_mono (S' := fun x => Below u52.heap.size u52 x) (fun x hx => Below.on hS' hx) ?_
      replace bw := Below.on bw hb
      replace tf0 := fun x hx => tf0 x (Below.on hS' hx)
      replace tf1 := fun x hx => tf1 x (Below.on hS' hx)
      replace tf2 := fun x hx => tf2 x (Below.on hS' hx)
      clear hHeld hb hS'
      have hHeld : Below u52.heap.size u52 u52 := Below.refl _ _
      refine wpAnyH_take (i := 53) (v := ?_) rfl (by kernel_rfl) (by kernel_rfl) (by kernel_rfl) (fun _ _ _ h => h) (Or.inl ⟨by kernel_rfl, ?hy53⟩) (by assumption) ?_
      case hy53 => (intro w hSw; (try dsimp only at hSw); go_simp; try with_reducible rfl)
      try simp only [Act.put, List.getElem_toArray, List.getElem_cons_zero, List.getElem_cons_succ, List.setIfInBounds_toArray, List.set_cons_zero, List.set_cons_succ]
      refine wpAnyH_take (i := 54) (v := ?_) rfl (by kernel_rfl) (by kernel_rfl) (by kernel_rfl) (fun _ _ _ h => h) (Or.inl ⟨by kernel_rfl, ?hy54⟩) (by assumption) ?_
      case hy54 => (intro w hSw; (try dsimp only at hSw); go_simp; try with_reducible rfl)
      try simp only [Act.put, List.getElem_toArray, List.getElem_cons_zero, List.getElem_cons_succ, List.setIfInBounds_toArray, List.set_cons_zero, List.set_cons_succ]
      refine wpAnyH_done (by kernel_rfl) ?_ _
      have H6 : Hid (Below w.heap.size w u52) := Below.on H5.out bw
      clear bw H5 CK1 CK2 CA tf0 tf1 tf2 CM CE CN CN' CF CF' hHeld
      go_wp2
      go_ret
      exact ⟨rfl, H6.out⟩

theorem walk (a0 a1 : Int) (a2 : ByteArray) (w : World) (_ : (Lit.int .i64 a0).wf = true) (_ : (Lit.int .i64 a1).wf = true) (_ : a2.size ≤ 140737488351232) (hL : laidMetH Tryd.prog Rows.sigAllRow.laid w) :
    Calls Tryd.prog 3 #[.int .i64 a0, .int .i64 a1, .string a2] w fun e w' => e = .returned (.bool true) ∧ Below w.heap.size w w' := by
  obtain ⟨es, hE⟩ := errs16 hL
  by_cases h : a2.size ≤ 200
  · exact short a0 a1 a2 w es hE h
  · have h5 : 5 < es.length := by rw [hE.len]; decide
    exact long a0 a1 a2 w es[5] (hE.each 5 0 es[5] rfl (List.getElem?_eq_getElem h5)).1 h
end Go.Proofs.YtadklnjkkmfhdaaDoor.sigAll
