/- ForestPlaces: for every number, list of numbers and truth the call returns true; nothing that was there has turned. Written by forest/mk_places.py. -/
import Derived.Test.YtdgknofpkafppaaDoorBh
import Derived.Test.YtdgknofpkafppaaDoorPgT
import Derived.Test.YtdgknofpkafppaaDoorFsFan
import Derived.Test.YtdgknofpkafppaaDoorBe
import Derived.Deep.DeepCutAuto
import Derived.Deep.CutRange
import Derived.Deep.RegionHeldLaw
import Derived.BigQuiet
namespace Go.Proofs.YtdgknofpkafppaaDoor.forestPlaces
open Go Go.RowKit

theorem own_one (w : World) (B : Nat) (hB : B ≤ w.heap.size) (z0 z1 z2 : Int) : (w.alloc (.cells #[.int .i64 z0, .int .i64 z1, .int .i64 z2] 46)).ownsRow B 46 3 (.slice (some ⟨w.heap.size, 0, none⟩) 1 1) 1 (mcs [[z0, z1, z2]]) :=
  ⟨by simp [mcs], .inr ⟨w.heap.size, 1, #[.int .i64 z0, .int .i64 z1, .int .i64 z2], rfl, hB, (bk_new w _ _).obj, Nat.le_refl _, by simp [maxLen], by simp, by simp [mcs]⟩⟩
theorem lit3 (w : World) (z0 z1 z2 : Int) : RdM 3 (w.alloc (.cells #[.int .i64 z0, .int .i64 z1, .int .i64 z2] 46)) (some ⟨w.heap.size, 0, none⟩) 1 1 [[z0, z1, z2]] := by
  obtain ⟨a, c, h1, h2⟩ := own_rd3 (l := [[z0, z1, z2]]) (own_one w 0 (Nat.zero_le _) z0 z1 z2) (by simp)
  cases h1
  exact h2
def Okc (cs : List (Int × Int)) : Prop := ∀ c ∈ cs, (0 ≤ c.1 ∧ c.1 < 100) ∧ 0 ≤ c.2 ∧ c.2 < 100
theorem fnW_len : ∀ (i : Nat) (cs : List (Int × Int)), (fnW i cs).length = cs.length
  | _, [] => rfl
  | i, _ :: l => by simp [fnW, fnW_len (i + 1) l]
theorem fnW_app : ∀ (i : Nat) (cs : List (Int × Int)) (c : Int × Int), fnW i (cs ++ [c]) = fnW i cs ++ [[((i + cs.length : Nat) : Int), c.1, c.2]]
  | i, [], c => by simp [fnW]
  | i, _ :: l, c => by
    simp only [List.cons_append, fnW, fnW_app (i + 1) l c, List.length_cons]
    rw [show i + 1 + l.length = i + (l.length + 1) by omega]
theorem fnW_size : ∀ (i : Nat) (cs : List (Int × Int)), ∀ y ∈ fnW i cs, y.length = 3
  | _, [], y, h => by cases h
  | i, c :: l, y, h => by
    rcases List.mem_cons.1 h with rfl | h
    · rfl
    · exact fnW_size (i + 1) l y h
theorem fnS_len (b : Bool) (cs : List (Int × Int)) : (fnS b cs).length = cs.length + 1 := by
  cases b
  · simp [fnS, fnW_len]
  · simp [fnS, fnW_len]
theorem fnS_size (b : Bool) (cs : List (Int × Int)) : ∀ y ∈ fnS b cs, y.length = 3 := by
  cases b
  · intro y h
    rcases List.mem_cons.1 h with rfl | h
    · rfl
    · exact fnW_size 2 cs y h
  · intro y h
    rcases List.mem_append.1 h with h | h
    · exact fnW_size 2 cs y h
    · obtain rfl := List.mem_singleton.1 h
      rfl
theorem fnS_no (cs : List (Int × Int)) (x y : Int) : fnS false (cs ++ [(x, y)]) = fnS false cs ++ [[((cs.length + 2 : Nat) : Int), x, y]] := by
  simp only [fnS, cond_false, fnW_app, Nat.add_comm 2, List.cons_append]
theorem fnS_yes (cs : List (Int × Int)) (x y : Int) : fnS true (cs ++ [(x, y)]) = ((fnS true cs).take cs.length ++ [[((cs.length + 2 : Nat) : Int), x, y]]) ++ (fnS true cs).drop cs.length := by
  have h := fnW_len 2 cs
  simp only [fnS, cond_true, fnW_app, Nat.add_comm 2]
  rw [List.take_append_of_le_length (by omega), List.drop_append_of_le_length (by omega), List.take_of_length_le (by omega), List.drop_eq_nil_of_le (by omega)]
  simp
theorem rdm_take {w : World} {a : Option Addr} {n c : Nat} {l : List (List Int)} (h : RdM 3 w a n c l) (k : Nat) (hk : k ≤ n) : RdM 3 w a k c (l.take k) :=
  ⟨by rw [List.length_take, h.len]; omega, Nat.le_trans hk h.le, h.max, h.hnil, fun h0 => by
    obtain ⟨b, off, e, h1, h2⟩ := h.pl (by omega)
    refine ⟨b, off, e, h1, fun j y hy => h2 j y ?_⟩
    rw [List.getElem?_take] at hy
    split at hy
    · exact hy
    · exact absurd hy (by simp), fun y hy => h.size y (List.mem_of_mem_take hy)⟩
theorem rdm_drop {w : World} {b off : Nat} {n c : Nat} {l : List (List Int)} (h : RdM 3 w (some ⟨b, off, none⟩) n c l) (k : Nat) (hk : k ≤ n) : RdM 3 w (some ⟨b, off + k * 3, none⟩) (n - k) (c - k) (l.drop k) :=
  ⟨by rw [List.length_drop, h.len], by have := h.le; omega, by have := h.max; omega, (fun h => by cases h), fun h0 => by
    obtain ⟨b', off', e, h1, h2⟩ := h.pl (by omega)
    cases e
    refine ⟨b, off + k * 3, rfl, h1, fun j y hy i z hz => ?_⟩
    rw [List.getElem?_drop] at hy
    have := h2 (k + j) y hy i z hz
    rw [show off + k * 3 + (j * 3 + i) = off + ((k + j) * 3 + i) by omega]
    exact this, fun y hy => h.size y (List.mem_of_mem_drop hy)⟩

theorem tdiv_ok {z : Int} (h : -9223372036854775808 ≤ z ∧ z ≤ 9223372036854775807) : -9223372036854775808 ≤ z.tdiv 100 ∧ z.tdiv 100 ≤ 9223372036854775807 := by
  rcases Int.lt_or_le z 0 with h1 | h1
  · have e : z.tdiv 100 = -((-z) / 100) := by
      rw [← Int.tdiv_eq_ediv_of_nonneg (by omega : 0 ≤ -z), Int.neg_tdiv]
      simp
    omega
  · rw [Int.tdiv_eq_ediv_of_nonneg h1]
    omega
/-- The forest, and the row that the law builds beside it. -/
structure Fw (es : List Addr) (w0 : World) (p mm : Nat) (F : Fo) (v : Value) (N : Nat) (l : List (List Int)) (w : World) : Prop where
  ex : Ex (sbs (Pq es w0 p mm F) (own3 w0.heap.size 46 3 v N (mcs l))) w
/-- And a block beside both. -/
structure Fg (es : List Addr) (w0 : World) (p mm : Nat) (F : Fo) (v : Value) (N : Nat) (l : List (List Int)) (g : Nat) (cs : Array Value) (w : World) : Prop where
  ex : Ex (sbs (sbs (Pq es w0 p mm F) (own3 w0.heap.size 46 3 v N (mcs l))) (blk g 46 cs)) w
  lo : w0.heap.size ≤ g
variable {es : List Addr} {w0 w w' : World} {p mm N g : Nat} {F F' : Fo} {v : Value} {l : List (List Int)} {cs : Array Value}
theorem fw_ft : Ft w0.heap.size (sbs (Pq es w0 p mm F) (own3 w0.heap.size 46 3 v N (mcs l))) := sbs_ft (pq_ft _ _ _ _ _) own3_ft
theorem Fw.bel (h : Fw es w0 p mm F v N l w) : RowKit.Below w0.heap.size w0 w := by
  obtain ⟨_, _, _, h1, _⟩ := h.ex
  exact h1.1
theorem Fw.pq (h : Fw es w0 p mm F v N l w) : ∃ X, Pq es w0 p mm F w X := by
  obtain ⟨_, X, _, h1, _⟩ := h.ex
  exact ⟨X, h1⟩
theorem Fw.on (h : Fw es w0 p mm F v N l w) (hb : Below w.heap.size w w') : Fw es w0 p mm F v N l w' := ⟨h.ex.on fw_ft hb⟩
theorem Fw.row (h : Fw es w0 p mm F v N l w) : w.ownsRow w0.heap.size 46 3 v N (mcs l) := by
  obtain ⟨_, _, _, _, h1, _⟩ := h.ex
  exact h1.1
theorem Fw.mono (h : Fw es w0 p mm F v N l w) {n : Nat} (hn : mm ≤ n) : Fw es w0 p n F v N l w := by
  obtain ⟨Z, X, Y, h1, h2⟩ := h.ex
  exact ⟨Z, X, Y, pq_mono h1 hn, h2⟩
theorem Fw.fg (h : Fw es w0 p mm F v N l w) (hb : Below w.heap.size w w') {g : Nat} (hg : w.heap.size ≤ g) (hB : Bk w' g 46 cs) : Fg es w0 p mm F v N l g cs w' := by
  have h0 := h.bel.size
  obtain ⟨Z, hZ⟩ := h.ex
  exact ⟨⟨_, sbs_new fw_ft hZ hb ⟨hB.obj, rfl⟩ (fun b hb => by
    obtain rfl := List.mem_singleton.1 hb
    exact hg)⟩, by omega⟩
theorem Fg.fw (h : Fg es w0 p mm F v N l g cs w) : Fw es w0 p mm F v N l w := by
  obtain ⟨_, X, _, h1, _⟩ := h.ex
  exact ⟨X, h1⟩
theorem Fg.bk (h : Fg es w0 p mm F v N l g cs w) : Bk w g 46 cs := by
  obtain ⟨_, _, _, _, h1, _⟩ := h.ex
  exact ⟨h1.1⟩
theorem Fg.call {f : Nat} {args : Array Value} {r : Value} (h : Fg es w0 p mm F v N l g cs w) (hc : Ct Tryd.prog f args (Pq es w0 p mm F) (Pq es w0 p (mm + 1) F') r) : Calls Tryd.prog f args w fun e w' => e = .returned r ∧ Fg es w0 p (mm + 1) F' v N l g cs w' :=
  (Ct.ex ((hc.left (pq_ft _ _ _ _ _) own3_ft).left fw_ft (blk_ft h.lo)) h.ex).mono fun _ _ ⟨h1, h2⟩ => ⟨h1, h2, h.lo⟩
theorem Fw.callq {f : Nat} {args : Array Value} {Q : Ending → World → Prop} (h : Fw es w0 p mm F v N l w) (hc : Cq Tryd.prog f args (Pq es w0 p mm F) (Pq es w0 p (mm + 1) F') Q) : Calls Tryd.prog f args w fun e w' => Q e w' ∧ Fw es w0 p (mm + 1) F' v N l w' :=
  (Cq.ex (hc.left (pq_ft _ _ _ _ _) own3_ft) h.ex).mono fun _ _ ⟨h1, h2⟩ => ⟨h1, ⟨h2⟩⟩
/-- The row grown where it lay, or anew. -/
theorem Fw.grow {v' : Value} {N' : Nat} {l' : List (List Int)} (h : Fw es w0 p mm F v N l w) (ho : w'.ownsRow w0.heap.size 46 3 v' N' (mcs l')) (hg : w.grownBy w' v.ownBlock) (hv : v'.ownBlock = v.ownBlock ∨ v'.ownBlock = some w.heap.size) : Fw es w0 p mm F v' N' l' w' :=
  ⟨(sbs_swap (Q := True) (pq_ft _ _ _ _ _) own3_ft h.ex (fun Y hY => by
    obtain ⟨_, rfl⟩ := hY
    refine ⟨v'.ownBlock.toList, ⟨ho, rfl⟩, kp_of_grown hg, fun b hb => ?_, trivial⟩
    rcases hv with h1 | h1
    · rw [h1] at hb
      exact .inl hb
    · rw [h1] at hb
      simp at hb
      exact .inr (by omega))).1⟩
/-- A new row in its place. -/
theorem Fw.swap {v' : Value} {N' : Nat} {l' : List (List Int)} (h : Fw es w0 p mm F v N l w) (hb : Below w.heap.size w w') (ho : w'.ownsRow w.heap.size 46 3 v' N' (mcs l')) : Fw es w0 p mm F v' N' l' w' := by
  have h0 := h.bel.size
  obtain ⟨X, hX⟩ := h.pq
  exact ⟨_, sbs_new (pq_ft _ _ _ _ _) hX hb ⟨ownsRow_low ho (by omega), rfl⟩ (fun b hb => (ho.lt b (by simpa using hb)).1)⟩
set_option maxRecDepth 100000 in
set_option maxHeartbeats 4000000 in
theorem core_false (a : Int) (a1 : Option Addr) (n1 c1 : Nat) (os : List Int) (w : World) (ha : -9223372036854775808 ≤ a ∧ a ≤ 9223372036854775807) (h1 : RdI .i64 w a1 n1 c1 os) (es : List Addr) (hE : Fe w es) :
    Calls Tryd.prog 5 #[.int .i64 a, .slice a1 n1 c1, .bool false] w fun e w' => e = .returned (.bool true) ∧ Below w.heap.size w w' := by
  have hng := ng5 hE
  have H1 := hid h1
  have hs1 := h1.le
  have hs2 := h1.max
  simp only [maxLen] at hs2
  have CP := hid (place_any a 6 ha (by omega) (by omega))
  obtain ⟨k, hk⟩ : ∃ k, k = 1 + plc a 6 := ⟨_, rfl⟩
  have hk2 : 1 ≤ k ∧ k < 7 := by have := plc_lt a 6 (by omega); omega
  have hkk : 1 + (plc a 6 : Int) = (k : Int) := by omega
  have CN := hid (pq_new (es := es) w w (Below.refl _ _) hE hng)
  have AW : Hid (∀ W, Below w.heap.size w W → Fe W es → Calls Tryd.prog 17 #[] W fun e w' => e = .returned (.bool true) ∧ Below W.heap.size W w') := fun W hW hF => fawake_any W hF (Nat.le_trans hng hW.size)
  clear hE ha hk h1 hng
  go_enter Tryd.func5, Tryd.ntmps5
  go_wp2_with fail
  refine (CP.out w).mono ?_
  rintro e w1 ⟨rfl, rfl⟩
  have e1 : IntKind.i64.wrap (1 + (plc a 6 : Int)) = (k : Int) := by rw [hkk, IntKind.wrap_i64]; omega
  go_wp2_with fail
  refine CN.out.mono ?_
  rintro e w2 ⟨p, X, rfl, hp2, -, -⟩
  have C1 : Hid (Calls Tryd.prog 9 #[.pointer (some ⟨p, 0, none⟩), .int .i64 1] w2 fun e w' => e = .returned .nilIface ∧ Ex (Pq es w1 p 1 (addF [] 1)) w') := by
    have := (pq_add (es := es) (w0 := w1) (p := p) (F := []) (mm := 0) (by omega) 1 ⟨by decide, by decide⟩).ex ⟨X, hp2⟩
    rw [fn_0.1] at this
    exact this
  clear hp2 CN CP
  go_wp2_with fail
  refine C1.out.mono ?_
  rintro e w3 ⟨rfl, hp3⟩
  have C2 : Hid (Calls Tryd.prog 11 #[.pointer (some ⟨p, 0, none⟩), .int .i64 1, .int .i64 9] w3 fun e w' => e = .returned .nilIface ∧ Ex (Pq es w1 p 2 (fan false [])) w') := by
    have := (pq_att (es := es) (w0 := w1) (p := p) (F := addF [] 1) (mm := 1) (by omega) 1 9 ⟨by decide, by decide⟩ ⟨by decide, by decide⟩).ex hp3
    rw [fn_0.2, fn_00 false] at this
    exact this
  clear hp3 C1
  go_wp2_with fail
  refine C2.out.mono ?_
  rintro e w4 ⟨rfl, hp4⟩
  have hb4 := bel_new w4 (.cells #[.int .i64 1, .int .i64 0, .int .i64 0] 46)
  have HX : Hid (Fw es w1 p (2 + 6 * 0) (fan false []) (.slice (some ⟨w4.heap.size, 0, none⟩) 1 1) 1 (fnS false []) (w4.alloc (.cells #[.int .i64 1, .int .i64 0, .int .i64 0] 46))) := by
    obtain ⟨X, hX⟩ := hp4
    exact ⟨_, sbs_new (pq_ft _ _ _ _ _) hX hb4 ⟨own_one w4 w1.heap.size hX.1.size 1 0 0, rfl⟩ (fun b hb => by
      have : b = w4.heap.size := by simpa [Value.ownBlock] using hb
      omega)⟩
  clear hp4 hb4 C2
  go_wp2
  go_loopw [9, 10] (fun vw vi wr => ∃ (n : Nat) (cs : List (Int × Int)) (q c : Nat), vw = .slice (some ⟨q, 0, none⟩) (n + 1) c ∧ vi = .int .i64 (n : Int) ∧ n ≤ k ∧ cs.length = n ∧ Okc cs ∧ Fw es w1 p (2 + 6 * n) (fan false cs) (.slice (some ⟨q, 0, none⟩) (n + 1) c) (n + 1) (fnS false cs) wr) (fun _ vi _ => 10 - (numOf vi).toNat)
  case atStart => exact ⟨0, [], w4.heap.size, 1, rfl, rfl, by omega, rfl, (fun c hc => by cases hc), HX.out⟩
  case round =>
    obtain ⟨n, cs, q, c, rfl, rfl, hn, hcl, hok, hx⟩ := hrel
    have HOK := hid hok
    clear hok HX
    by_cases hgo : n < k
    · have e2 : decide ((n : Int) < k) = true := decide_eq_true (by omega)
      have e3 : IntKind.i64.wrap (2 + (n : Int)) = 2 + (n : Int) := by rw [IntKind.wrap_i64]; omega
      go_upto_if 47 with fail
      have hbW := bel_new wr (.cells #[.int .i64 (2 + (n : Int)), .int .i64 0, .int .i64 0] 46)
      have hB := bk_new wr #[.int .i64 (2 + (n : Int)), .int .i64 0, .int .i64 0] 46
      obtain ⟨g, hg⟩ : ∃ g, g = wr.heap.size := ⟨_, rfl⟩
      have HG := hid hg
      rw [← hg] at hB ⊢
      generalize wr.alloc (.cells #[.int .i64 (2 + (n : Int)), .int .i64 0, .int .i64 0] 46) = W at *
      clear hg
      have HBW := hid hbW
      clear hbW
      go_cut [12] from 47 to 60 (fun v wc => v = .pointer (some ⟨g, 0, none⟩) ∧ ∃ x y : Int, (0 ≤ x ∧ x < 100) ∧ (0 ≤ y ∧ y < 100) ∧ RowKit.Below wr.heap.size wr wc ∧ Bk wc g 46 #[.int .i64 (2 + (n : Int)), .int .i64 x, .int .i64 y])
      case first =>
        by_cases hl1 : n < n1
        · have e5 : decide ((n : Int) < n1) = true := decide_eq_true (by omega)
          have e6 : (n : Int) < n1 := by omega
          obtain ⟨bl, off, z, rfl, hbl, hz, c0⟩ := ((rz_of_rdi H1.out).on hx.bel).at_ hl1
          have hzb : -9223372036854775808 ≤ z ∧ z ≤ 9223372036854775807 := by
            have := H1.out.wf z (List.mem_of_getElem? hz)
            simpa [Lit.wf, IntKind.min, IntKind.max, IntKind.signed, IntKind.bits] using this
          obtain ⟨D, hD⟩ : ∃ D, D = z.tdiv 100 := ⟨_, rfl⟩
          have hdb : -9223372036854775808 ≤ D ∧ D ≤ 9223372036854775807 := by rw [hD]; exact tdiv_ok hzb
          have hw : IntKind.i64.wrap (z.tdiv 100) = D := by rw [← hD, IntKind.wrap_i64]; omega
          clear hD
          have CZ := hid (place_any z 100 hzb (by omega) (by omega))
          have CD := hid (place_any D 100 hdb (by omega) (by omega))
          have hx1 := plc_lt z 100 (by omega)
          have hy1 := plc_lt D 100 (by omega)
          have HC : Hid (∀ u : World, RowKit.Below wr.heap.size wr u → u.cell? ⟨bl, off + n, none⟩ = some (.int .i64 z) ∧ bl < u.heap.size) := fun u hu => ⟨by rw [hu.cell hbl]; exact c0, Nat.lt_of_lt_of_le hbl hu.size⟩
          clear hz c0
          go_upto_region 12 with fail
          replace hB := hB.on (Below.refl _ _).drew
          refine wp_region_held_drew (S := RowKit.Below wr.heap.size wr) (by kernel_rfl) ?hh (fun hHeld => ?_)
          case hh => exact (Below.on HBW.out (Below.refl _ _).drew)
          generalize W.drew = W0 at hHeld hB ⊢
          try dsimp only at hHeld
          refine wpAnyH_take (i := 0) (v := ?_) rfl (by kernel_rfl) (by kernel_rfl) (by kernel_rfl) (fun _ _ _ h => h) (Or.inl ⟨by kernel_rfl, ?hy0⟩) (by assumption) ?_
          case hy0 => (intro wI hSw; (try dsimp only at hSw); obtain ⟨t1, t2⟩ := HC.out _ hSw; go_simp; try with_reducible rfl)
          try simp only [Act.put, List.getElem_toArray, List.getElem_cons_zero, List.setIfInBounds_toArray, List.set_cons_zero, List.set_cons_succ]
          refine wpAnyH_take (i := 1) (v := ?_) rfl (by kernel_rfl) (by kernel_rfl) (by kernel_rfl) (fun _ _ _ h => h) (Or.inl ⟨by kernel_rfl, ?hy1⟩) (by assumption) ?_
          case hy1 => (intro wI hSw; (try dsimp only at hSw); obtain ⟨t1, t2⟩ := HC.out _ hSw; go_simp; try with_reducible rfl)
          try simp only [Act.put, List.getElem_toArray, List.getElem_cons_zero, List.getElem_cons_succ, List.setIfInBounds_toArray, List.set_cons_zero, List.set_cons_succ]
          refine wpAnyH_take (i := 2) (v := ?_) rfl (by kernel_rfl) (by kernel_rfl) (by kernel_rfl) (fun _ _ _ h => h) (Or.inl ⟨by kernel_rfl, ?hy2⟩) (by assumption) ?_
          case hy2 => (intro wI hSw; (try dsimp only at hSw); obtain ⟨t1, t2⟩ := HC.out _ hSw; go_simp; try with_reducible rfl)
          try simp only [Act.put, List.getElem_toArray, List.getElem_cons_zero, List.getElem_cons_succ, List.setIfInBounds_toArray, List.set_cons_zero, List.set_cons_succ]
          refine wpAnyH_take (i := 3) (v := ?_) rfl (by kernel_rfl) (by kernel_rfl) (by kernel_rfl) (fun _ _ _ h => h) (Or.inl ⟨by kernel_rfl, ?hy3⟩) (by assumption) ?_
          case hy3 => (intro wI hSw; (try dsimp only at hSw); obtain ⟨t1, t2⟩ := HC.out _ hSw; go_simp; try with_reducible rfl)
          try simp only [Act.put, List.getElem_toArray, List.getElem_cons_zero, List.getElem_cons_succ, List.setIfInBounds_toArray, List.set_cons_zero, List.set_cons_succ]
          refine wpAnyH_take (i := 5) (v := ?_) rfl (by kernel_rfl) (by kernel_rfl) (by kernel_rfl) (fun _ _ _ h => h) (Or.inl ⟨by kernel_rfl, ?hy5⟩) (by assumption) ?_
          case hy5 => (intro wI hSw; (try dsimp only at hSw); obtain ⟨t1, t2⟩ := HC.out _ hSw; go_simp; try with_reducible rfl)
          try simp only [Act.put, List.getElem_toArray, List.getElem_cons_zero, List.getElem_cons_succ, List.setIfInBounds_toArray, List.set_cons_zero, List.set_cons_succ]
          refine wpAnyH_take (i := 6) (v := ?_) rfl (by kernel_rfl) (by kernel_rfl) (by kernel_rfl) (fun _ _ _ h => h) (Or.inl ⟨by kernel_rfl, ?hy6⟩) (by assumption) ?_
          case hy6 => (intro wI hSw; (try dsimp only at hSw); obtain ⟨t1, t2⟩ := HC.out _ hSw; go_simp; try with_reducible rfl)
          try simp only [Act.put, List.getElem_toArray, List.getElem_cons_zero, List.getElem_cons_succ, List.setIfInBounds_toArray, List.set_cons_zero, List.set_cons_succ]
          refine wpAnyH_take (i := 7) (v := ?_) rfl (by kernel_rfl) (by kernel_rfl) (by kernel_rfl) (fun _ _ _ h => h) (Or.inl ⟨by kernel_rfl, ?hy7⟩) (by assumption) ?_
          case hy7 => (intro wI hSw; (try dsimp only at hSw); obtain ⟨t1, t2⟩ := HC.out _ hSw; go_simp; try with_reducible rfl)
          try simp only [Act.put, List.getElem_toArray, List.getElem_cons_zero, List.getElem_cons_succ, List.setIfInBounds_toArray, List.set_cons_zero, List.set_cons_succ]
          refine wpAnyH_take (i := 8) (v := ?_) rfl (by kernel_rfl) (by kernel_rfl) (by kernel_rfl) (fun _ _ _ h => h) (Or.inl ⟨by kernel_rfl, ?hy8⟩) (by assumption) ?_
          case hy8 => (intro wI hSw; (try dsimp only at hSw); obtain ⟨t1, t2⟩ := HC.out _ hSw; go_simp; try with_reducible rfl)
          try simp only [Act.put, List.getElem_toArray, List.getElem_cons_zero, List.getElem_cons_succ, List.setIfInBounds_toArray, List.set_cons_zero, List.set_cons_succ]
          refine wpAnyH_take (i := 9) (v := ?_) rfl (by kernel_rfl) (by kernel_rfl) (by kernel_rfl) (fun _ _ _ h => h) (Or.inl ⟨by kernel_rfl, ?hy9⟩) (by assumption) ?_
          case hy9 => (intro wI hSw; (try dsimp only at hSw); obtain ⟨t1, t2⟩ := HC.out _ hSw; go_simp; try with_reducible rfl)
          try simp only [Act.put, List.getElem_toArray, List.getElem_cons_zero, List.getElem_cons_succ, List.setIfInBounds_toArray, List.set_cons_zero, List.set_cons_succ]
          refine wpAnyH_ready (rs := [4]) (by kernel_rfl) (by simp) ?_
          refine AllReadyH.cons rfl (fun K hK => ?_) AllReadyH.nil
          go_simp
          go_wp2_with fail
          refine (CZ.out W0).mono ?_
          rintro e W4 ⟨rfl, rfl⟩
          refine hK.out _ _ hHeld (fun _ => ?_)
          clear hK K
          try simp only [Act.put, List.getElem_toArray, List.getElem_cons_zero, List.getElem_cons_succ, List.setIfInBounds_toArray, List.set_cons_zero, List.set_cons_succ]
          refine wpAnyH_take (i := 11) (v := ?_) rfl (by kernel_rfl) (by kernel_rfl) (by kernel_rfl) (fun _ _ _ h => h) (Or.inl ⟨by kernel_rfl, ?hy11⟩) (by assumption) ?_
          case hy11 => (intro wI hSw; (try dsimp only at hSw); obtain ⟨t1, t2⟩ := HC.out _ hSw; go_simp; try with_reducible rfl)
          try simp only [Act.put, List.getElem_toArray, List.getElem_cons_zero, List.getElem_cons_succ, List.setIfInBounds_toArray, List.set_cons_zero, List.set_cons_succ]
          refine wpAnyH_ready (rs := [10]) (by kernel_rfl) (by simp) ?_
          refine AllReadyH.cons rfl (fun K hK => ?_) AllReadyH.nil
          go_simp
          go_wp2_with fail
          refine (CD.out W4).mono ?_
          rintro e W10 ⟨rfl, rfl⟩
          refine hK.out _ _ hHeld (fun _ => ?_)
          clear hK K
          try simp only [Act.put, List.getElem_toArray, List.getElem_cons_zero, List.getElem_cons_succ, List.setIfInBounds_toArray, List.set_cons_zero, List.set_cons_succ]
          refine wpAnyH_ready (rs := [12]) (by kernel_rfl) (by simp) ?_
          refine AllReadyH.cons rfl (fun K hK => ?_) AllReadyH.nil
          have d1 := hB.cell 1
          have f1 := hB.fz
          have l1 := hB.lt
          go_simp
          have hH2 := hHeld.setCell (p := ⟨g, 1, none⟩) (Nat.le_of_eq HG.out.symm) (.int .i64 ((plc z 100 : Nat) : Int))
          have hB2 : Bk (W10.setCell ⟨g, 1, none⟩ (.int .i64 ((plc z 100 : Nat) : Int))) g 46 #[.int .i64 (2 + (n : Int)), .int .i64 ((plc z 100 : Nat) : Int), .int .i64 0] := hB.set 1 _
          refine hK.out _ _ hH2 (fun _ => ?_)
          clear hK K hHeld hB d1 f1 l1
          generalize W10.setCell ⟨g, 1, none⟩ (.int .i64 ((plc z 100 : Nat) : Int)) = W12 at *
          have hHeld := hH2
          have hB := hB2
          clear hH2 hB2
          try simp only [Act.put, List.getElem_toArray, List.getElem_cons_zero, List.getElem_cons_succ, List.setIfInBounds_toArray, List.set_cons_zero, List.set_cons_succ]
          refine wpAnyH_take (i := 13) (v := ?_) rfl (by kernel_rfl) (by kernel_rfl) (by kernel_rfl) (fun _ _ _ h => h) (Or.inl ⟨by kernel_rfl, ?hy13⟩) (by assumption) ?_
          case hy13 => (intro wI hSw; (try dsimp only at hSw); obtain ⟨t1, t2⟩ := HC.out _ hSw; go_simp; try with_reducible rfl)
          try simp only [Act.put, List.getElem_toArray, List.getElem_cons_zero, List.getElem_cons_succ, List.setIfInBounds_toArray, List.set_cons_zero, List.set_cons_succ]
          refine wpAnyH_ready (rs := [14]) (by kernel_rfl) (by simp) ?_
          refine AllReadyH.cons rfl (fun K hK => ?_) AllReadyH.nil
          have d1 := hB.cell 2
          have f1 := hB.fz
          have l1 := hB.lt
          go_simp
          have hH2 := hHeld.setCell (p := ⟨g, 2, none⟩) (Nat.le_of_eq HG.out.symm) (.int .i64 ((plc D 100 : Nat) : Int))
          have hB2 : Bk (W12.setCell ⟨g, 2, none⟩ (.int .i64 ((plc D 100 : Nat) : Int))) g 46 #[.int .i64 (2 + (n : Int)), .int .i64 ((plc z 100 : Nat) : Int), .int .i64 ((plc D 100 : Nat) : Int)] := hB.set 2 _
          refine hK.out _ _ hH2 (fun _ => ?_)
          clear hK K hHeld hB d1 f1 l1
          generalize W12.setCell ⟨g, 2, none⟩ (.int .i64 ((plc D 100 : Nat) : Int)) = W14 at *
          have hHeld := hH2
          have hB := hB2
          clear hH2 hB2
          try simp only [Act.put, List.getElem_toArray, List.getElem_cons_zero, List.getElem_cons_succ, List.setIfInBounds_toArray, List.set_cons_zero, List.set_cons_succ]
          refine wpAnyH_done (by kernel_rfl) ?_ _
          go_wp2_with fail
          go_meet
          exact ⟨rfl, _, _, ⟨by omega, by omega⟩, ⟨by omega, by omega⟩, hHeld, hB⟩
        · have e5 : decide ((n : Int) < n1) = false := decide_eq_false (by omega)
          go_wp2_with fail
          go_meet
          exact ⟨rfl, 0, 0, ⟨by omega, by omega⟩, ⟨by omega, by omega⟩, HBW.out, hB⟩
      case rest =>
        obtain ⟨rfl, x, y, hxb, hyb, hbc, hBc⟩ := hcut
        have hG := hx.fg hbc (g := g) (Nat.le_of_eq HG.out.symm) hBc
        obtain ⟨r1, r2, r3, r4, r5, r6, r7⟩ := fn_round false cs x y (by omega)
        have hid2 : ((cs.length + 2 : Nat) : Int) = 2 + (n : Int) := by omega
        have hid3 : 10 + (cs.length : Int) = 10 + (n : Int) := by omega
        clear r5
        clear hbc hBc hB HBW HG hx
        obtain ⟨Y0, hY0⟩ : ∃ Y0, Y0 = wc := ⟨_, rfl⟩
        subst hY0
        have C : Hid (Calls Tryd.prog 9 #[.pointer (some ⟨p, 0, none⟩), .int .i64 (2 + (n : Int))] Y0 fun e w' => e = .returned .nilIface ∧ Fg es w1 p (2 + 6 * n + 1) (fn1 false cs) (.slice (some ⟨q, 0, none⟩) (n + 1) c) (n + 1) (fnS false cs) g #[.int .i64 (2 + (n : Int)), .int .i64 x, .int .i64 y] w') := by
          have h2 : Calls Tryd.prog 9 #[.pointer (some ⟨p, 0, none⟩), .int .i64 ((cs.length + 2 : Nat) : Int)] Y0 fun e w' => e = .returned .nilIface ∧ Fg es w1 p (2 + 6 * n + 1) (fn1 false cs) (.slice (some ⟨q, 0, none⟩) (n + 1) c) (n + 1) (fnS false cs) g #[.int .i64 (2 + (n : Int)), .int .i64 x, .int .i64 y] w' := by
            have := hG.call (pq_add (by omega) ((cs.length + 2 : Nat) : Int) ⟨by omega, by omega⟩)
            rw [r1] at this
            exact this
          rw [hid2] at h2
          exact h2
        clear hG
        go_wp2_with fail
        refine C.out.mono ?_
        rintro e Y1 ⟨rfl, hG⟩
        clear C
        have C : Hid (Calls Tryd.prog 10 #[.pointer (some ⟨p, 0, none⟩), .int .i64 (2 + (n : Int)), .int .i64 1] Y1 fun e w' => e = .returned .nilIface ∧ Fg es w1 p (2 + 6 * n + 2) (fn2 false cs) (.slice (some ⟨q, 0, none⟩) (n + 1) c) (n + 1) (fnS false cs) g #[.int .i64 (2 + (n : Int)), .int .i64 x, .int .i64 y] w') := by
          have h2 : Calls Tryd.prog 10 #[.pointer (some ⟨p, 0, none⟩), .int .i64 ((cs.length + 2 : Nat) : Int), .int .i64 1] Y1 fun e w' => e = .returned .nilIface ∧ Fg es w1 p (2 + 6 * n + 2) (fn2 false cs) (.slice (some ⟨q, 0, none⟩) (n + 1) c) (n + 1) (fnS false cs) g #[.int .i64 (2 + (n : Int)), .int .i64 x, .int .i64 y] w' := by
            have := hG.call (pq_sub (by omega) ((cs.length + 2 : Nat) : Int) 1 ⟨by omega, by omega⟩ ⟨by decide, by decide⟩)
            rw [r2] at this
            exact this
          rw [hid2] at h2
          exact h2
        clear hG
        go_wp2_with fail
        refine C.out.mono ?_
        rintro e Y2 ⟨rfl, hG⟩
        clear C
        have C : Hid (Calls Tryd.prog 11 #[.pointer (some ⟨p, 0, none⟩), .int .i64 (2 + (n : Int)), .int .i64 (10 + (n : Int))] Y2 fun e w' => e = .returned .nilIface ∧ Fg es w1 p (2 + 6 * n + 3) (fn3 false cs) (.slice (some ⟨q, 0, none⟩) (n + 1) c) (n + 1) (fnS false cs) g #[.int .i64 (2 + (n : Int)), .int .i64 x, .int .i64 y] w') := by
          have h2 : Calls Tryd.prog 11 #[.pointer (some ⟨p, 0, none⟩), .int .i64 ((cs.length + 2 : Nat) : Int), .int .i64 (10 + (cs.length : Int))] Y2 fun e w' => e = .returned .nilIface ∧ Fg es w1 p (2 + 6 * n + 3) (fn3 false cs) (.slice (some ⟨q, 0, none⟩) (n + 1) c) (n + 1) (fnS false cs) g #[.int .i64 (2 + (n : Int)), .int .i64 x, .int .i64 y] w' := by
            have := hG.call (pq_att (by omega) ((cs.length + 2 : Nat) : Int) (10 + (cs.length : Int)) ⟨by omega, by omega⟩ ⟨by omega, by omega⟩)
            rw [r3] at this
            exact this
          rw [hid3, hid2] at h2
          exact h2
        clear hG
        go_wp2_with fail
        refine C.out.mono ?_
        rintro e Y3 ⟨rfl, hG⟩
        clear C
        have d0 := hG.bk.cell 0
        have d1 := hG.bk.cell 1
        have d2 := hG.bk.cell 2
        have dl := hG.bk.lt
        have C : Hid (Calls Tryd.prog 20 #[.pointer (some ⟨p, 0, none⟩), .int .i64 (2 + (n : Int)), .int .i64 x, .int .i64 y] Y3 fun e w' => e = .returned .nilIface ∧ Fg es w1 p (2 + 6 * n + 4) (fn4 false cs x y) (.slice (some ⟨q, 0, none⟩) (n + 1) c) (n + 1) (fnS false cs) g #[.int .i64 (2 + (n : Int)), .int .i64 x, .int .i64 y] w') := by
          have h2 : Calls Tryd.prog 20 #[.pointer (some ⟨p, 0, none⟩), .int .i64 ((cs.length + 2 : Nat) : Int), .int .i64 x, .int .i64 y] Y3 fun e w' => e = .returned .nilIface ∧ Fg es w1 p (2 + 6 * n + 4) (fn4 false cs x y) (.slice (some ⟨q, 0, none⟩) (n + 1) c) (n + 1) (fnS false cs) g #[.int .i64 (2 + (n : Int)), .int .i64 x, .int .i64 y] w' := by
            have := hG.call (pq_pos (by omega) ((cs.length + 2 : Nat) : Int) x y ⟨by omega, by omega⟩)
            rw [r4] at this
            exact this
          rw [hid2] at h2
          exact h2
        clear hG
        go_wp2_with fail
        refine C.out.mono ?_
        rintro e Y4 ⟨rfl, hG⟩
        clear C
        clear d0 d1 d2 dl
        have d0 := hG.bk.cell 0
        have d1 := hG.bk.cell 1
        have d2 := hG.bk.cell 2
        have dl := hG.bk.lt
        have hx := hG.fw
        have hrow := hx.row
        have hlen := fnS_len false cs
        rw [hcl] at hlen
        obtain ⟨wa, wcp, hva, hrd⟩ := own_rd3 (B := w1.heap.size) (l := fnS false cs) (by rw [hlen]; exact hrow) (fnS_size false cs)
        rw [hlen] at hva hrd
        cases hva
        have hcap : n + 1 ≤ c := hrd.le
        have hcm := hrd.small.2
        have HRD := hid hrd
        have HX := hid hx
        have HROW := hid hrow
        obtain ⟨i0, hi, hz0, hz1, hz2⟩ := infoMP infoM3
        clear hrd hx hrow hG hlen
        have HOW := hid (ownsRow_below HROW.out (bel_new Y4 (.cells #[.int .i64 (2 + (n : Int)), .int .i64 x, .int .i64 y] 46)))
        have HBS : Hid (w1.heap.size ≤ (Y4.alloc (.cells #[.int .i64 (2 + (n : Int)), .int .i64 x, .int .i64 y] 46)).heap.size) := by
          have := HX.out.bel.size
          rw [Hid, size_new]
          omega
        have HSR := hid ((lit3 Y4 (2 + (n : Int)) x y).src (P := Tryd.prog) (t := 33) (e := 46) Tryd.underlying33)
        have HFIN : Hid (∀ v6 w6, World.ownsRow w6 w1.heap.size 46 3 v6 (n + 1 + 1) (mcs (fnS false cs) ++ mcs [[2 + (n : Int), x, y]]) → (Y4.alloc (.cells #[.int .i64 (2 + (n : Int)), .int .i64 x, .int .i64 y] 46)).grownBy w6 (Value.slice (some ⟨q, 0, none⟩) (n + 1) c).ownBlock → (v6.ownBlock = (Value.slice (some ⟨q, 0, none⟩) (n + 1) c).ownBlock ∨ v6.ownBlock = some (Y4.alloc (.cells #[.int .i64 (2 + (n : Int)), .int .i64 x, .int .i64 y] 46)).heap.size) → ∃ q6 c6, v6 = .slice (some ⟨q6, 0, none⟩) (n + 1 + 1) c6 ∧ Fw es w1 p (2 + 6 * n + 4) (fn4 false cs x y) v6 (n + 1 + 1) (fnS false (cs ++ [(x, y)])) w6) := fun v6 w6 h1 h2 h3 => by
          rw [← mcs_append, ← hid2, ← fnS_no] at h1
          have h4 := (HX.out.on (bel_new Y4 (.cells #[.int .i64 (2 + (n : Int)), .int .i64 x, .int .i64 y] 46))).grow h1 h2 h3
          rcases h1.2 with ⟨_, h0⟩ | ⟨g6, cap, cur, rfl, _⟩
          · omega
          · exact ⟨g6, cap, rfl, h4⟩
        clear HX HROW HRD
        go_wp2_with (at_builtin; refine wpList_append_own_at _ rfl (.tmp 108) (.tmp 110) 33 33 rfl w1.heap.size 46 i0 (.agg #[.int .i64 0, .int .i64 0, .int .i64 0]) 3 24 Tryd.underlying33 hi hz0 hz1 hz2 rfl _ _ _ rfl HOW.out _ _ _ rfl HSR.out (by simp only [maxLen]; omega) (fitsM (by omega) (by decide)) HBS.out ?_; intro v6 W6 o6 g6 p6; obtain ⟨q6, c6, rfl, hW6⟩ := HFIN.out _ _ o6 g6 p6; have HW6 := hid hW6; clear o6 g6 p6 hW6)
        have C : Hid (Calls Tryd.prog 12 #[.pointer (some ⟨p, 0, none⟩), .int .i64 (2 + (n : Int))] W6 fun e w' => (∃ a c, e = .returned (.tuple #[.slice a 0 c, .nilIface])) ∧ Fw es w1 p ((2 + 6 * n + 4) + 1) (fan false (cs ++ [(x, y)])) (.slice (some ⟨q6, 0, none⟩) (n + 1 + 1) c6) (n + 1 + 1) (fnS false (cs ++ [(x, y)])) w') := by
          have := HW6.out.callq (pq_com (by omega) ((cs.length + 2 : Nat) : Int) ⟨by omega, by omega⟩)
          rw [show (fn4 false cs x y) = fn5 false cs x y from rfl, r6, r7, hid2] at this
          exact this.mono fun _ _ ⟨⟨a, c, h1, _⟩, h2⟩ => ⟨⟨a, c, h1⟩, h2⟩
        clear HW6
        go_wp2_with fail
        refine C.out.mono ?_
        rintro e W7 ⟨⟨a7, c7, rfl⟩, hx7⟩
        have HX7 := hid (hx7.mono (show (2 + 6 * n + 4) + 1 ≤ 2 + 6 * (n + 1) by omega))
        clear hx7 C
        go_wp2
        go_roundw
        case rel => exact ⟨n + 1, cs ++ [(x, y)], q6, c6, rfl, by go_num, by omega, by rw [List.length_append, hcl]; rfl, (fun cc hc => by
          rcases List.mem_append.1 hc with hc | hc
          · exact HOK.out cc hc
          · obtain rfl := List.mem_singleton.1 hc
            exact ⟨hxb, hyb⟩), HX7.out⟩
        case measure => simp [numOf]; omega
    · have e2 : decide ((n : Int) < k) = false := decide_eq_false (by omega)
      obtain rfl : n = k := by omega
      obtain ⟨f1, f2, f3, f4⟩ := fn_end false cs (by omega) (by omega)
      rw [fn_edg HOK.out] at f3
      have e3 : IntKind.i64.wrap ((n : Int) + 1) = (n : Int) + 1 := by rw [IntKind.wrap_i64]; omega
      have hlen := fnS_len false cs
      rw [hcl] at hlen f2
      have C : Hid (Calls Tryd.prog 12 #[.pointer (some ⟨p, 0, none⟩), .int .i64 1] wr fun e w' => (∃ a c, e = .returned (.tuple #[.slice a (n + 1) c, .nilIface])) ∧ Fw es w1 p (2 + 6 * n + 1) (fnZ false cs) (.slice (some ⟨q, 0, none⟩) (n + 1) c) (n + 1) (fnS false cs) w') := by
        have := hx.callq (pq_com (by omega) 1 ⟨by decide, by decide⟩)
        rw [f1, f2] at this
        exact this.mono fun _ _ ⟨⟨a, c, h1, _⟩, h2⟩ => ⟨⟨a, c, h1⟩, h2⟩
      clear hx
      go_wp2_with fail
      refine C.out.mono ?_
      rintro e W1 ⟨⟨a7, c7, rfl⟩, hx7⟩
      have HX7 := hid hx7
      obtain ⟨X7, hp7⟩ := hx7.pq
      have CW := hid (hp7.pg.wlk 1 ⟨by decide, by decide⟩)
      rw [f3, hlen] at CW
      clear hx7 C hp7
      go_wp2_with fail
      refine CW.out.mono ?_
      rintro e W2 ⟨a8, c8, rfl, hr8, hb8⟩
      have HX8 := hid (HX7.out.on hb8)
      obtain ⟨wa, wcp, hva, hrd⟩ := own_rd3 (B := w1.heap.size) (l := fnS false cs) (by rw [hlen]; exact HX8.out.row) (fnS_size false cs)
      rw [hlen] at hva hrd
      cases hva
      have CS := hid (samechildren_any _ _ _ _ _ _ _ _ _ hr8 hrd)
      rw [leqs_same] at CS
      clear hr8 hrd hb8 CW HX7
      go_wp2_with fail
      refine CS.out.mono ?_
      rintro e W3 ⟨rfl, kk, hW3⟩
      have HX9 : Hid (Fw es w1 p (2 + 6 * n + 1) (fnZ false cs) (.slice (some ⟨q, 0, none⟩) (n + 1) c) (n + 1) (fnS false cs) W3) := by
        rw [Hid, hW3]
        exact HX8.out.on (below_drewN (Below.refl _ _) kk)
      clear hW3 CS HX8
      obtain ⟨X9, hp9⟩ := HX9.out.pq
      have CH := hid hp9.pg.hld
      clear hp9
      go_wp2_with fail
      refine CH.out.mono ?_
      rintro e W4 ⟨a9, c9, ys, rfl, hr9, hri, hme, hb9⟩
      have hys := fn_held (by omega) (by omega) hri hme
      rw [hcl] at hys
      rw [hys]
      have HX10 := hid (HX9.out.on hb9)
      obtain ⟨X10, hp10⟩ := HX10.out.pq
      have CA := hid (AW.out W4 hp10.1 hp10.2.1)
      have HBB := hid hp10.1
      clear hr9 hri hme hys hb9 CH HX9 hp10 AW HX10
      go_wp2_with fail
      refine CA.out.mono ?_
      rintro e W5 ⟨rfl, hb5⟩
      have HF := hid (Below.on HBB.out hb5)
      clear hb5 CA
      go_wp2
      go_ret
      exact ⟨rfl, HF.out⟩

set_option maxRecDepth 100000 in
set_option maxHeartbeats 4000000 in
theorem core_true (a : Int) (a1 : Option Addr) (n1 c1 : Nat) (os : List Int) (w : World) (ha : -9223372036854775808 ≤ a ∧ a ≤ 9223372036854775807) (h1 : RdI .i64 w a1 n1 c1 os) (es : List Addr) (hE : Fe w es) :
    Calls Tryd.prog 5 #[.int .i64 a, .slice a1 n1 c1, .bool true] w fun e w' => e = .returned (.bool true) ∧ Below w.heap.size w w' := by
  have hng := ng5 hE
  have H1 := hid h1
  have hs1 := h1.le
  have hs2 := h1.max
  simp only [maxLen] at hs2
  have CP := hid (place_any a 6 ha (by omega) (by omega))
  obtain ⟨k, hk⟩ : ∃ k, k = 1 + plc a 6 := ⟨_, rfl⟩
  have hk2 : 1 ≤ k ∧ k < 7 := by have := plc_lt a 6 (by omega); omega
  have hkk : 1 + (plc a 6 : Int) = (k : Int) := by omega
  have CN := hid (pq_new (es := es) w w (Below.refl _ _) hE hng)
  have AW : Hid (∀ W, Below w.heap.size w W → Fe W es → Calls Tryd.prog 17 #[] W fun e w' => e = .returned (.bool true) ∧ Below W.heap.size W w') := fun W hW hF => fawake_any W hF (Nat.le_trans hng hW.size)
  clear hE ha hk h1 hng
  go_enter Tryd.func5, Tryd.ntmps5
  go_wp2_with fail
  refine (CP.out w).mono ?_
  rintro e w1 ⟨rfl, rfl⟩
  have e1 : IntKind.i64.wrap (1 + (plc a 6 : Int)) = (k : Int) := by rw [hkk, IntKind.wrap_i64]; omega
  go_wp2_with fail
  refine CN.out.mono ?_
  rintro e w2 ⟨p, X, rfl, hp2, -, -⟩
  have C1 : Hid (Calls Tryd.prog 9 #[.pointer (some ⟨p, 0, none⟩), .int .i64 1] w2 fun e w' => e = .returned .nilIface ∧ Ex (Pq es w1 p 1 (addF [] 1)) w') := by
    have := (pq_add (es := es) (w0 := w1) (p := p) (F := []) (mm := 0) (by omega) 1 ⟨by decide, by decide⟩).ex ⟨X, hp2⟩
    rw [fn_0.1] at this
    exact this
  clear hp2 CN CP
  go_wp2_with fail
  refine C1.out.mono ?_
  rintro e w3 ⟨rfl, hp3⟩
  have C2 : Hid (Calls Tryd.prog 11 #[.pointer (some ⟨p, 0, none⟩), .int .i64 1, .int .i64 9] w3 fun e w' => e = .returned .nilIface ∧ Ex (Pq es w1 p 2 (fan true [])) w') := by
    have := (pq_att (es := es) (w0 := w1) (p := p) (F := addF [] 1) (mm := 1) (by omega) 1 9 ⟨by decide, by decide⟩ ⟨by decide, by decide⟩).ex hp3
    rw [fn_0.2, fn_00 true] at this
    exact this
  clear hp3 C1
  go_wp2_with fail
  refine C2.out.mono ?_
  rintro e w4 ⟨rfl, hp4⟩
  have hb4 := bel_new w4 (.cells #[.int .i64 1, .int .i64 0, .int .i64 0] 46)
  have HX : Hid (Fw es w1 p (2 + 6 * 0) (fan true []) (.slice (some ⟨w4.heap.size, 0, none⟩) 1 1) 1 (fnS true []) (w4.alloc (.cells #[.int .i64 1, .int .i64 0, .int .i64 0] 46))) := by
    obtain ⟨X, hX⟩ := hp4
    exact ⟨_, sbs_new (pq_ft _ _ _ _ _) hX hb4 ⟨own_one w4 w1.heap.size hX.1.size 1 0 0, rfl⟩ (fun b hb => by
      have : b = w4.heap.size := by simpa [Value.ownBlock] using hb
      omega)⟩
  clear hp4 hb4 C2
  go_wp2
  go_loopw [9, 10] (fun vw vi wr => ∃ (n : Nat) (cs : List (Int × Int)) (q c : Nat), vw = .slice (some ⟨q, 0, none⟩) (n + 1) c ∧ vi = .int .i64 (n : Int) ∧ n ≤ k ∧ cs.length = n ∧ Okc cs ∧ Fw es w1 p (2 + 6 * n) (fan true cs) (.slice (some ⟨q, 0, none⟩) (n + 1) c) (n + 1) (fnS true cs) wr) (fun _ vi _ => 10 - (numOf vi).toNat)
  case atStart => exact ⟨0, [], w4.heap.size, 1, rfl, rfl, by omega, rfl, (fun c hc => by cases hc), HX.out⟩
  case round =>
    obtain ⟨n, cs, q, c, rfl, rfl, hn, hcl, hok, hx⟩ := hrel
    have HOK := hid hok
    clear hok HX
    by_cases hgo : n < k
    · have e2 : decide ((n : Int) < k) = true := decide_eq_true (by omega)
      have e3 : IntKind.i64.wrap (2 + (n : Int)) = 2 + (n : Int) := by rw [IntKind.wrap_i64]; omega
      go_upto_if 47 with fail
      have hbW := bel_new wr (.cells #[.int .i64 (2 + (n : Int)), .int .i64 0, .int .i64 0] 46)
      have hB := bk_new wr #[.int .i64 (2 + (n : Int)), .int .i64 0, .int .i64 0] 46
      obtain ⟨g, hg⟩ : ∃ g, g = wr.heap.size := ⟨_, rfl⟩
      have HG := hid hg
      rw [← hg] at hB ⊢
      generalize wr.alloc (.cells #[.int .i64 (2 + (n : Int)), .int .i64 0, .int .i64 0] 46) = W at *
      clear hg
      have HBW := hid hbW
      clear hbW
      go_cut [12] from 47 to 60 (fun v wc => v = .pointer (some ⟨g, 0, none⟩) ∧ ∃ x y : Int, (0 ≤ x ∧ x < 100) ∧ (0 ≤ y ∧ y < 100) ∧ RowKit.Below wr.heap.size wr wc ∧ Bk wc g 46 #[.int .i64 (2 + (n : Int)), .int .i64 x, .int .i64 y])
      case first =>
        by_cases hl1 : n < n1
        · have e5 : decide ((n : Int) < n1) = true := decide_eq_true (by omega)
          have e6 : (n : Int) < n1 := by omega
          obtain ⟨bl, off, z, rfl, hbl, hz, c0⟩ := ((rz_of_rdi H1.out).on hx.bel).at_ hl1
          have hzb : -9223372036854775808 ≤ z ∧ z ≤ 9223372036854775807 := by
            have := H1.out.wf z (List.mem_of_getElem? hz)
            simpa [Lit.wf, IntKind.min, IntKind.max, IntKind.signed, IntKind.bits] using this
          obtain ⟨D, hD⟩ : ∃ D, D = z.tdiv 100 := ⟨_, rfl⟩
          have hdb : -9223372036854775808 ≤ D ∧ D ≤ 9223372036854775807 := by rw [hD]; exact tdiv_ok hzb
          have hw : IntKind.i64.wrap (z.tdiv 100) = D := by rw [← hD, IntKind.wrap_i64]; omega
          clear hD
          have CZ := hid (place_any z 100 hzb (by omega) (by omega))
          have CD := hid (place_any D 100 hdb (by omega) (by omega))
          have hx1 := plc_lt z 100 (by omega)
          have hy1 := plc_lt D 100 (by omega)
          have HC : Hid (∀ u : World, RowKit.Below wr.heap.size wr u → u.cell? ⟨bl, off + n, none⟩ = some (.int .i64 z) ∧ bl < u.heap.size) := fun u hu => ⟨by rw [hu.cell hbl]; exact c0, Nat.lt_of_lt_of_le hbl hu.size⟩
          clear hz c0
          go_upto_region 12 with fail
          replace hB := hB.on (Below.refl _ _).drew
          refine wp_region_held_drew (S := RowKit.Below wr.heap.size wr) (by kernel_rfl) ?hh (fun hHeld => ?_)
          case hh => exact (Below.on HBW.out (Below.refl _ _).drew)
          generalize W.drew = W0 at hHeld hB ⊢
          try dsimp only at hHeld
          refine wpAnyH_take (i := 0) (v := ?_) rfl (by kernel_rfl) (by kernel_rfl) (by kernel_rfl) (fun _ _ _ h => h) (Or.inl ⟨by kernel_rfl, ?hy0⟩) (by assumption) ?_
          case hy0 => (intro wI hSw; (try dsimp only at hSw); obtain ⟨t1, t2⟩ := HC.out _ hSw; go_simp; try with_reducible rfl)
          try simp only [Act.put, List.getElem_toArray, List.getElem_cons_zero, List.setIfInBounds_toArray, List.set_cons_zero, List.set_cons_succ]
          refine wpAnyH_take (i := 1) (v := ?_) rfl (by kernel_rfl) (by kernel_rfl) (by kernel_rfl) (fun _ _ _ h => h) (Or.inl ⟨by kernel_rfl, ?hy1⟩) (by assumption) ?_
          case hy1 => (intro wI hSw; (try dsimp only at hSw); obtain ⟨t1, t2⟩ := HC.out _ hSw; go_simp; try with_reducible rfl)
          try simp only [Act.put, List.getElem_toArray, List.getElem_cons_zero, List.getElem_cons_succ, List.setIfInBounds_toArray, List.set_cons_zero, List.set_cons_succ]
          refine wpAnyH_take (i := 2) (v := ?_) rfl (by kernel_rfl) (by kernel_rfl) (by kernel_rfl) (fun _ _ _ h => h) (Or.inl ⟨by kernel_rfl, ?hy2⟩) (by assumption) ?_
          case hy2 => (intro wI hSw; (try dsimp only at hSw); obtain ⟨t1, t2⟩ := HC.out _ hSw; go_simp; try with_reducible rfl)
          try simp only [Act.put, List.getElem_toArray, List.getElem_cons_zero, List.getElem_cons_succ, List.setIfInBounds_toArray, List.set_cons_zero, List.set_cons_succ]
          refine wpAnyH_take (i := 3) (v := ?_) rfl (by kernel_rfl) (by kernel_rfl) (by kernel_rfl) (fun _ _ _ h => h) (Or.inl ⟨by kernel_rfl, ?hy3⟩) (by assumption) ?_
          case hy3 => (intro wI hSw; (try dsimp only at hSw); obtain ⟨t1, t2⟩ := HC.out _ hSw; go_simp; try with_reducible rfl)
          try simp only [Act.put, List.getElem_toArray, List.getElem_cons_zero, List.getElem_cons_succ, List.setIfInBounds_toArray, List.set_cons_zero, List.set_cons_succ]
          refine wpAnyH_take (i := 5) (v := ?_) rfl (by kernel_rfl) (by kernel_rfl) (by kernel_rfl) (fun _ _ _ h => h) (Or.inl ⟨by kernel_rfl, ?hy5⟩) (by assumption) ?_
          case hy5 => (intro wI hSw; (try dsimp only at hSw); obtain ⟨t1, t2⟩ := HC.out _ hSw; go_simp; try with_reducible rfl)
          try simp only [Act.put, List.getElem_toArray, List.getElem_cons_zero, List.getElem_cons_succ, List.setIfInBounds_toArray, List.set_cons_zero, List.set_cons_succ]
          refine wpAnyH_take (i := 6) (v := ?_) rfl (by kernel_rfl) (by kernel_rfl) (by kernel_rfl) (fun _ _ _ h => h) (Or.inl ⟨by kernel_rfl, ?hy6⟩) (by assumption) ?_
          case hy6 => (intro wI hSw; (try dsimp only at hSw); obtain ⟨t1, t2⟩ := HC.out _ hSw; go_simp; try with_reducible rfl)
          try simp only [Act.put, List.getElem_toArray, List.getElem_cons_zero, List.getElem_cons_succ, List.setIfInBounds_toArray, List.set_cons_zero, List.set_cons_succ]
          refine wpAnyH_take (i := 7) (v := ?_) rfl (by kernel_rfl) (by kernel_rfl) (by kernel_rfl) (fun _ _ _ h => h) (Or.inl ⟨by kernel_rfl, ?hy7⟩) (by assumption) ?_
          case hy7 => (intro wI hSw; (try dsimp only at hSw); obtain ⟨t1, t2⟩ := HC.out _ hSw; go_simp; try with_reducible rfl)
          try simp only [Act.put, List.getElem_toArray, List.getElem_cons_zero, List.getElem_cons_succ, List.setIfInBounds_toArray, List.set_cons_zero, List.set_cons_succ]
          refine wpAnyH_take (i := 8) (v := ?_) rfl (by kernel_rfl) (by kernel_rfl) (by kernel_rfl) (fun _ _ _ h => h) (Or.inl ⟨by kernel_rfl, ?hy8⟩) (by assumption) ?_
          case hy8 => (intro wI hSw; (try dsimp only at hSw); obtain ⟨t1, t2⟩ := HC.out _ hSw; go_simp; try with_reducible rfl)
          try simp only [Act.put, List.getElem_toArray, List.getElem_cons_zero, List.getElem_cons_succ, List.setIfInBounds_toArray, List.set_cons_zero, List.set_cons_succ]
          refine wpAnyH_take (i := 9) (v := ?_) rfl (by kernel_rfl) (by kernel_rfl) (by kernel_rfl) (fun _ _ _ h => h) (Or.inl ⟨by kernel_rfl, ?hy9⟩) (by assumption) ?_
          case hy9 => (intro wI hSw; (try dsimp only at hSw); obtain ⟨t1, t2⟩ := HC.out _ hSw; go_simp; try with_reducible rfl)
          try simp only [Act.put, List.getElem_toArray, List.getElem_cons_zero, List.getElem_cons_succ, List.setIfInBounds_toArray, List.set_cons_zero, List.set_cons_succ]
          refine wpAnyH_ready (rs := [4]) (by kernel_rfl) (by simp) ?_
          refine AllReadyH.cons rfl (fun K hK => ?_) AllReadyH.nil
          go_simp
          go_wp2_with fail
          refine (CZ.out W0).mono ?_
          rintro e W4 ⟨rfl, rfl⟩
          refine hK.out _ _ hHeld (fun _ => ?_)
          clear hK K
          try simp only [Act.put, List.getElem_toArray, List.getElem_cons_zero, List.getElem_cons_succ, List.setIfInBounds_toArray, List.set_cons_zero, List.set_cons_succ]
          refine wpAnyH_take (i := 11) (v := ?_) rfl (by kernel_rfl) (by kernel_rfl) (by kernel_rfl) (fun _ _ _ h => h) (Or.inl ⟨by kernel_rfl, ?hy11⟩) (by assumption) ?_
          case hy11 => (intro wI hSw; (try dsimp only at hSw); obtain ⟨t1, t2⟩ := HC.out _ hSw; go_simp; try with_reducible rfl)
          try simp only [Act.put, List.getElem_toArray, List.getElem_cons_zero, List.getElem_cons_succ, List.setIfInBounds_toArray, List.set_cons_zero, List.set_cons_succ]
          refine wpAnyH_ready (rs := [10]) (by kernel_rfl) (by simp) ?_
          refine AllReadyH.cons rfl (fun K hK => ?_) AllReadyH.nil
          go_simp
          go_wp2_with fail
          refine (CD.out W4).mono ?_
          rintro e W10 ⟨rfl, rfl⟩
          refine hK.out _ _ hHeld (fun _ => ?_)
          clear hK K
          try simp only [Act.put, List.getElem_toArray, List.getElem_cons_zero, List.getElem_cons_succ, List.setIfInBounds_toArray, List.set_cons_zero, List.set_cons_succ]
          refine wpAnyH_ready (rs := [12]) (by kernel_rfl) (by simp) ?_
          refine AllReadyH.cons rfl (fun K hK => ?_) AllReadyH.nil
          have d1 := hB.cell 1
          have f1 := hB.fz
          have l1 := hB.lt
          go_simp
          have hH2 := hHeld.setCell (p := ⟨g, 1, none⟩) (Nat.le_of_eq HG.out.symm) (.int .i64 ((plc z 100 : Nat) : Int))
          have hB2 : Bk (W10.setCell ⟨g, 1, none⟩ (.int .i64 ((plc z 100 : Nat) : Int))) g 46 #[.int .i64 (2 + (n : Int)), .int .i64 ((plc z 100 : Nat) : Int), .int .i64 0] := hB.set 1 _
          refine hK.out _ _ hH2 (fun _ => ?_)
          clear hK K hHeld hB d1 f1 l1
          generalize W10.setCell ⟨g, 1, none⟩ (.int .i64 ((plc z 100 : Nat) : Int)) = W12 at *
          have hHeld := hH2
          have hB := hB2
          clear hH2 hB2
          try simp only [Act.put, List.getElem_toArray, List.getElem_cons_zero, List.getElem_cons_succ, List.setIfInBounds_toArray, List.set_cons_zero, List.set_cons_succ]
          refine wpAnyH_take (i := 13) (v := ?_) rfl (by kernel_rfl) (by kernel_rfl) (by kernel_rfl) (fun _ _ _ h => h) (Or.inl ⟨by kernel_rfl, ?hy13⟩) (by assumption) ?_
          case hy13 => (intro wI hSw; (try dsimp only at hSw); obtain ⟨t1, t2⟩ := HC.out _ hSw; go_simp; try with_reducible rfl)
          try simp only [Act.put, List.getElem_toArray, List.getElem_cons_zero, List.getElem_cons_succ, List.setIfInBounds_toArray, List.set_cons_zero, List.set_cons_succ]
          refine wpAnyH_ready (rs := [14]) (by kernel_rfl) (by simp) ?_
          refine AllReadyH.cons rfl (fun K hK => ?_) AllReadyH.nil
          have d1 := hB.cell 2
          have f1 := hB.fz
          have l1 := hB.lt
          go_simp
          have hH2 := hHeld.setCell (p := ⟨g, 2, none⟩) (Nat.le_of_eq HG.out.symm) (.int .i64 ((plc D 100 : Nat) : Int))
          have hB2 : Bk (W12.setCell ⟨g, 2, none⟩ (.int .i64 ((plc D 100 : Nat) : Int))) g 46 #[.int .i64 (2 + (n : Int)), .int .i64 ((plc z 100 : Nat) : Int), .int .i64 ((plc D 100 : Nat) : Int)] := hB.set 2 _
          refine hK.out _ _ hH2 (fun _ => ?_)
          clear hK K hHeld hB d1 f1 l1
          generalize W12.setCell ⟨g, 2, none⟩ (.int .i64 ((plc D 100 : Nat) : Int)) = W14 at *
          have hHeld := hH2
          have hB := hB2
          clear hH2 hB2
          try simp only [Act.put, List.getElem_toArray, List.getElem_cons_zero, List.getElem_cons_succ, List.setIfInBounds_toArray, List.set_cons_zero, List.set_cons_succ]
          refine wpAnyH_done (by kernel_rfl) ?_ _
          go_wp2_with fail
          go_meet
          exact ⟨rfl, _, _, ⟨by omega, by omega⟩, ⟨by omega, by omega⟩, hHeld, hB⟩
        · have e5 : decide ((n : Int) < n1) = false := decide_eq_false (by omega)
          go_wp2_with fail
          go_meet
          exact ⟨rfl, 0, 0, ⟨by omega, by omega⟩, ⟨by omega, by omega⟩, HBW.out, hB⟩
      case rest =>
        obtain ⟨rfl, x, y, hxb, hyb, hbc, hBc⟩ := hcut
        have hG := hx.fg hbc (g := g) (Nat.le_of_eq HG.out.symm) hBc
        obtain ⟨r1, r2, r3, r4, r5, r6, r7⟩ := fn_round true cs x y (by omega)
        have hid2 : ((cs.length + 2 : Nat) : Int) = 2 + (n : Int) := by omega
        have hid3 : 10 + (cs.length : Int) = 10 + (n : Int) := by omega
        replace r5 := r5 rfl
        clear hbc hBc hB HBW HG hx
        obtain ⟨Y0, hY0⟩ : ∃ Y0, Y0 = wc := ⟨_, rfl⟩
        subst hY0
        have C : Hid (Calls Tryd.prog 9 #[.pointer (some ⟨p, 0, none⟩), .int .i64 (2 + (n : Int))] Y0 fun e w' => e = .returned .nilIface ∧ Fg es w1 p (2 + 6 * n + 1) (fn1 true cs) (.slice (some ⟨q, 0, none⟩) (n + 1) c) (n + 1) (fnS true cs) g #[.int .i64 (2 + (n : Int)), .int .i64 x, .int .i64 y] w') := by
          have h2 : Calls Tryd.prog 9 #[.pointer (some ⟨p, 0, none⟩), .int .i64 ((cs.length + 2 : Nat) : Int)] Y0 fun e w' => e = .returned .nilIface ∧ Fg es w1 p (2 + 6 * n + 1) (fn1 true cs) (.slice (some ⟨q, 0, none⟩) (n + 1) c) (n + 1) (fnS true cs) g #[.int .i64 (2 + (n : Int)), .int .i64 x, .int .i64 y] w' := by
            have := hG.call (pq_add (by omega) ((cs.length + 2 : Nat) : Int) ⟨by omega, by omega⟩)
            rw [r1] at this
            exact this
          rw [hid2] at h2
          exact h2
        clear hG
        go_wp2_with fail
        refine C.out.mono ?_
        rintro e Y1 ⟨rfl, hG⟩
        clear C
        have C : Hid (Calls Tryd.prog 10 #[.pointer (some ⟨p, 0, none⟩), .int .i64 (2 + (n : Int)), .int .i64 1] Y1 fun e w' => e = .returned .nilIface ∧ Fg es w1 p (2 + 6 * n + 2) (fn2 true cs) (.slice (some ⟨q, 0, none⟩) (n + 1) c) (n + 1) (fnS true cs) g #[.int .i64 (2 + (n : Int)), .int .i64 x, .int .i64 y] w') := by
          have h2 : Calls Tryd.prog 10 #[.pointer (some ⟨p, 0, none⟩), .int .i64 ((cs.length + 2 : Nat) : Int), .int .i64 1] Y1 fun e w' => e = .returned .nilIface ∧ Fg es w1 p (2 + 6 * n + 2) (fn2 true cs) (.slice (some ⟨q, 0, none⟩) (n + 1) c) (n + 1) (fnS true cs) g #[.int .i64 (2 + (n : Int)), .int .i64 x, .int .i64 y] w' := by
            have := hG.call (pq_sub (by omega) ((cs.length + 2 : Nat) : Int) 1 ⟨by omega, by omega⟩ ⟨by decide, by decide⟩)
            rw [r2] at this
            exact this
          rw [hid2] at h2
          exact h2
        clear hG
        go_wp2_with fail
        refine C.out.mono ?_
        rintro e Y2 ⟨rfl, hG⟩
        clear C
        have C : Hid (Calls Tryd.prog 11 #[.pointer (some ⟨p, 0, none⟩), .int .i64 (2 + (n : Int)), .int .i64 (10 + (n : Int))] Y2 fun e w' => e = .returned .nilIface ∧ Fg es w1 p (2 + 6 * n + 3) (fn3 true cs) (.slice (some ⟨q, 0, none⟩) (n + 1) c) (n + 1) (fnS true cs) g #[.int .i64 (2 + (n : Int)), .int .i64 x, .int .i64 y] w') := by
          have h2 : Calls Tryd.prog 11 #[.pointer (some ⟨p, 0, none⟩), .int .i64 ((cs.length + 2 : Nat) : Int), .int .i64 (10 + (cs.length : Int))] Y2 fun e w' => e = .returned .nilIface ∧ Fg es w1 p (2 + 6 * n + 3) (fn3 true cs) (.slice (some ⟨q, 0, none⟩) (n + 1) c) (n + 1) (fnS true cs) g #[.int .i64 (2 + (n : Int)), .int .i64 x, .int .i64 y] w' := by
            have := hG.call (pq_att (by omega) ((cs.length + 2 : Nat) : Int) (10 + (cs.length : Int)) ⟨by omega, by omega⟩ ⟨by omega, by omega⟩)
            rw [r3] at this
            exact this
          rw [hid3, hid2] at h2
          exact h2
        clear hG
        go_wp2_with fail
        refine C.out.mono ?_
        rintro e Y3 ⟨rfl, hG⟩
        clear C
        have d0 := hG.bk.cell 0
        have d1 := hG.bk.cell 1
        have d2 := hG.bk.cell 2
        have dl := hG.bk.lt
        have C : Hid (Calls Tryd.prog 20 #[.pointer (some ⟨p, 0, none⟩), .int .i64 (2 + (n : Int)), .int .i64 x, .int .i64 y] Y3 fun e w' => e = .returned .nilIface ∧ Fg es w1 p (2 + 6 * n + 4) (fn4 true cs x y) (.slice (some ⟨q, 0, none⟩) (n + 1) c) (n + 1) (fnS true cs) g #[.int .i64 (2 + (n : Int)), .int .i64 x, .int .i64 y] w') := by
          have h2 : Calls Tryd.prog 20 #[.pointer (some ⟨p, 0, none⟩), .int .i64 ((cs.length + 2 : Nat) : Int), .int .i64 x, .int .i64 y] Y3 fun e w' => e = .returned .nilIface ∧ Fg es w1 p (2 + 6 * n + 4) (fn4 true cs x y) (.slice (some ⟨q, 0, none⟩) (n + 1) c) (n + 1) (fnS true cs) g #[.int .i64 (2 + (n : Int)), .int .i64 x, .int .i64 y] w' := by
            have := hG.call (pq_pos (by omega) ((cs.length + 2 : Nat) : Int) x y ⟨by omega, by omega⟩)
            rw [r4] at this
            exact this
          rw [hid2] at h2
          exact h2
        clear hG
        go_wp2_with fail
        refine C.out.mono ?_
        rintro e Y4 ⟨rfl, hG⟩
        clear C
        clear d0 d1 d2 dl
        have C : Hid (Calls Tryd.prog 21 #[.pointer (some ⟨p, 0, none⟩), .int .i64 (2 + (n : Int)), .int .i64 1] Y4 fun e w' => e = .returned .nilIface ∧ Fg es w1 p (2 + 6 * n + 5) (fn5 true cs x y) (.slice (some ⟨q, 0, none⟩) (n + 1) c) (n + 1) (fnS true cs) g #[.int .i64 (2 + (n : Int)), .int .i64 x, .int .i64 y] w') := by
          have h2 : Calls Tryd.prog 21 #[.pointer (some ⟨p, 0, none⟩), .int .i64 ((cs.length + 2 : Nat) : Int), .int .i64 1] Y4 fun e w' => e = .returned .nilIface ∧ Fg es w1 p (2 + 6 * n + 5) (fn5 true cs x y) (.slice (some ⟨q, 0, none⟩) (n + 1) c) (n + 1) (fnS true cs) g #[.int .i64 (2 + (n : Int)), .int .i64 x, .int .i64 y] w' := by
            have := hG.call (pq_blw (by omega) ((cs.length + 2 : Nat) : Int) 1 ⟨by omega, by omega⟩)
            rw [r5] at this
            exact this
          rw [hid2] at h2
          exact h2
        clear hG
        go_wp2_with fail
        refine C.out.mono ?_
        rintro e Y5 ⟨rfl, hG⟩
        clear C
        have d0 := hG.bk.cell 0
        have d1 := hG.bk.cell 1
        have d2 := hG.bk.cell 2
        have dl := hG.bk.lt
        have hx := hG.fw
        have hrow := hx.row
        have hlen := fnS_len true cs
        rw [hcl] at hlen
        obtain ⟨wa, wcp, hva, hrd⟩ := own_rd3 (B := w1.heap.size) (l := fnS true cs) (by rw [hlen]; exact hrow) (fnS_size true cs)
        rw [hlen] at hva hrd
        cases hva
        have hcap : n + 1 ≤ c := hrd.le
        have hcm := hrd.small.2
        have HRD := hid hrd
        have HX := hid hx
        have HROW := hid hrow
        obtain ⟨i0, hi, hz0, hz1, hz2⟩ := infoMP infoM3
        clear hrd hx hrow hG hlen
        go_upto_region 18 with fail
        have HSA := hid (rdm_take HRD.out n (by omega))
        have HSB := hid (rdm_drop HRD.out n (by omega))
        have hcn : ¬ c = n := by omega
        have hnc : n ≤ c := by omega
        have hnn : n ≤ n + 1 := by omega
        have hni : (n : Int) ≤ (n : Int) + 1 := by omega
        have e18 : n + 1 - n = 1 := by omega
        rw [Nat.zero_add, e18] at HSB
        have HC : Hid (∀ u : World, RowKit.Below Y5.heap.size Y5 u → u.cell? ⟨g, 0, none⟩ = some (.int .i64 (2 + (n : Int))) ∧ u.cell? ⟨g, 1, none⟩ = some (.int .i64 x) ∧ u.cell? ⟨g, 2, none⟩ = some (.int .i64 y) ∧ g < u.heap.size) := fun u hu => ⟨by rw [hu.cell dl]; exact d0, by rw [hu.cell dl]; exact d1, by rw [hu.cell dl]; exact d2, Nat.lt_of_lt_of_le dl hu.size⟩
        have O1 : True := trivial
        have RL : True := trivial
        clear d0 d1 d2
        refine wp_region_held_drew (S := RowKit.Below Y5.heap.size Y5) (by kernel_rfl) ?hh (fun hHeld => ?_)
        case hh => exact ((Below.refl _ _).drew)
        generalize Y5.drew = W0 at hHeld ⊢
        try dsimp only at hHeld
        refine wpAnyH_take (i := 0) (v := ?_) rfl (by kernel_rfl) (by kernel_rfl) (by kernel_rfl) (fun _ _ _ h => h) (Or.inl ⟨by kernel_rfl, ?hy0⟩) (by assumption) ?_
        case hy0 => (intro wI hSw; (try dsimp only at hSw); obtain ⟨t0, t1, t2, t3⟩ := HC.out _ hSw; go_simp; try with_reducible rfl)
        try simp only [Act.put, List.getElem_toArray, List.getElem_cons_zero, List.setIfInBounds_toArray, List.set_cons_zero, List.set_cons_succ]
        refine wpAnyH_take (i := 1) (v := ?_) rfl (by kernel_rfl) (by kernel_rfl) (by kernel_rfl) (fun _ _ _ h => h) (Or.inl ⟨by kernel_rfl, ?hy1⟩) (by assumption) ?_
        case hy1 => (intro wI hSw; (try dsimp only at hSw); obtain ⟨t0, t1, t2, t3⟩ := HC.out _ hSw; go_simp; try with_reducible rfl)
        try simp only [Act.put, List.getElem_toArray, List.getElem_cons_zero, List.getElem_cons_succ, List.setIfInBounds_toArray, List.set_cons_zero, List.set_cons_succ]
        refine wpAnyH_take (i := 2) (v := ?_) rfl (by kernel_rfl) (by kernel_rfl) (by kernel_rfl) (fun _ _ _ h => h) (Or.inl ⟨by kernel_rfl, ?hy2⟩) (by assumption) ?_
        case hy2 => (intro wI hSw; (try dsimp only at hSw); obtain ⟨t0, t1, t2, t3⟩ := HC.out _ hSw; go_simp; try with_reducible rfl)
        try simp only [Act.put, List.getElem_toArray, List.getElem_cons_zero, List.getElem_cons_succ, List.setIfInBounds_toArray, List.set_cons_zero, List.set_cons_succ]
        refine wpAnyH_take (i := 4) (v := ?_) rfl (by kernel_rfl) (by kernel_rfl) (by kernel_rfl) (fun _ _ _ h => h) (Or.inl ⟨by kernel_rfl, ?hy4⟩) (by assumption) ?_
        case hy4 => (intro wI hSw; (try dsimp only at hSw); obtain ⟨t0, t1, t2, t3⟩ := HC.out _ hSw; go_simp; try with_reducible rfl)
        try simp only [Act.put, List.getElem_toArray, List.getElem_cons_zero, List.getElem_cons_succ, List.setIfInBounds_toArray, List.set_cons_zero, List.set_cons_succ]
        refine wpAnyH_take (i := 7) (v := ?_) rfl (by kernel_rfl) (by kernel_rfl) (by kernel_rfl) (fun _ _ _ h => h) (Or.inl ⟨by kernel_rfl, ?hy7⟩) (by assumption) ?_
        case hy7 => (intro wI hSw; (try dsimp only at hSw); obtain ⟨t0, t1, t2, t3⟩ := HC.out _ hSw; go_simp; try with_reducible rfl)
        try simp only [Act.put, List.getElem_toArray, List.getElem_cons_zero, List.getElem_cons_succ, List.setIfInBounds_toArray, List.set_cons_zero, List.set_cons_succ]
        refine wpAnyH_take (i := 8) (v := ?_) rfl (by kernel_rfl) (by kernel_rfl) (by kernel_rfl) (fun _ _ _ h => h) (Or.inl ⟨by kernel_rfl, ?hy8⟩) (by assumption) ?_
        case hy8 => (intro wI hSw; (try dsimp only at hSw); obtain ⟨t0, t1, t2, t3⟩ := HC.out _ hSw; go_simp; try with_reducible rfl)
        try simp only [Act.put, List.getElem_toArray, List.getElem_cons_zero, List.getElem_cons_succ, List.setIfInBounds_toArray, List.set_cons_zero, List.set_cons_succ]
        refine wpAnyH_take (i := 9) (v := ?_) rfl (by kernel_rfl) (by kernel_rfl) (by kernel_rfl) (fun _ _ _ h => h) (Or.inl ⟨by kernel_rfl, ?hy9⟩) (by assumption) ?_
        case hy9 => (intro wI hSw; (try dsimp only at hSw); obtain ⟨t0, t1, t2, t3⟩ := HC.out _ hSw; go_simp; try with_reducible rfl)
        try simp only [Act.put, List.getElem_toArray, List.getElem_cons_zero, List.getElem_cons_succ, List.setIfInBounds_toArray, List.set_cons_zero, List.set_cons_succ]
        refine wpAnyH_ready (rs := [3, 5]) (by kernel_rfl) (by simp) ?_
        refine AllReadyH.cons rfl (fun K hK => ?_) ?_
        · refine step_appG (by kernel_rfl) (.const (.slice none 0 0)) (.tmp 99) 33 33 rfl Y5.heap.size 46 i0 (.agg #[.int .i64 0, .int .i64 0, .int .i64 0]) 3 24 Tryd.underlying33 hi hz0 hz1 hz2 rfl _ _ _ (by simp [Act.eval]) (World.ownsRow_nil _ _ _ _) _ _ _ (by simp [Act.eval]) ((HSA.out.on hHeld).src (P := Tryd.prog) (t := 33) (e := 46) Tryd.underlying33) (by simp only [maxLen]; omega) (fitsM (by omega) (by decide)) hHeld.size ?_
          intro v1 W3 o1 g1
          have hb1 : Below W0.heap.size W0 W3 := (Below.refl _ _).grown g1 (Nat.le_refl _) (fun k hk => by cases hk)
          have hH2 := Below.on hHeld hb1
          try replace RL := RL.on hb1
          have o1' : World.ownsRow W3 Y5.heap.size 46 3 v1 n (mcs ((fnS true cs).take n)) := by rw [Nat.zero_add, List.nil_append] at o1; exact o1
          refine hK.out _ _ hH2 (fun _ => ?_)
          clear hK K hHeld g1 o1 hb1 O1
          have hHeld := hH2
          have O1 := o1'
          clear hH2 o1'
          try simp only [Act.put, List.getElem_toArray, List.getElem_cons_zero, List.getElem_cons_succ, List.setIfInBounds_toArray, List.set_cons_zero, List.set_cons_succ]
          refine wpAnyH_ready (rs := [5]) (by kernel_rfl) (by simp) ?_
          refine AllReadyH.cons rfl (fun K hK => ?_) AllReadyH.nil
          have hb1 := bel_new W3 (.cells #[.int .i64 (2 + (n : Int)), .int .i64 x, .int .i64 y] 46)
          have hH2 := Below.on hHeld hb1
          have rl := lit3 W3 (2 + (n : Int)) x y
          try replace O1 := ownsRow_below O1 hb1
          go_simp
          refine hK.out _ _ hH2 (fun _ => ?_)
          clear hK K hHeld hb1 RL
          generalize W3.alloc (.cells #[.int .i64 (2 + (n : Int)), .int .i64 x, .int .i64 y] 46) = W5 at *
          generalize W3.heap.size = gl at *
          have hHeld := hH2
          have RL := rl
          clear hH2 rl
          try simp only [Act.put, List.getElem_toArray, List.getElem_cons_zero, List.getElem_cons_succ, List.setIfInBounds_toArray, List.set_cons_zero, List.set_cons_succ]
          refine wpAnyH_ready (rs := [6]) (by kernel_rfl) (by simp) ?_
          refine AllReadyH.cons rfl (fun K hK => ?_) AllReadyH.nil
          refine step_appG (by kernel_rfl) (.tmp 100) (.tmp 102) 33 33 rfl Y5.heap.size 46 i0 (.agg #[.int .i64 0, .int .i64 0, .int .i64 0]) 3 24 Tryd.underlying33 hi hz0 hz1 hz2 rfl _ _ _ (by simp [Act.eval]) O1 _ _ _ (by simp [Act.eval]) (RL.src (P := Tryd.prog) (t := 33) (e := 46) Tryd.underlying33) (by simp only [maxLen]; omega) (fitsM (by omega) (by decide)) hHeld.size ?_
          intro v2 W6 o2 g2
          have hH2 := hHeld.grown g2 hHeld.size (fun k hk => (O1.lt k hk).1)
          have o2' : World.ownsRow W6 Y5.heap.size 46 3 v2 (n + 1) (mcs ((fnS true cs).take n ++ [[2 + (n : Int), x, y]])) := by rw [mcs_append]; exact o2
          refine hK.out _ _ hH2 (fun _ => ?_)
          clear hK K hHeld g2 o2 O1 RL
          have hHeld := hH2
          have O1 := o2'
          clear hH2 o2'
          try simp only [Act.put, List.getElem_toArray, List.getElem_cons_zero, List.getElem_cons_succ, List.setIfInBounds_toArray, List.set_cons_zero, List.set_cons_succ]
          refine wpAnyH_ready (rs := [10]) (by kernel_rfl) (by simp) ?_
          refine AllReadyH.cons rfl (fun K hK => ?_) AllReadyH.nil
          refine step_appG (by kernel_rfl) (.tmp 103) (.tmp 106) 33 33 rfl Y5.heap.size 46 i0 (.agg #[.int .i64 0, .int .i64 0, .int .i64 0]) 3 24 Tryd.underlying33 hi hz0 hz1 hz2 rfl _ _ _ (by simp [Act.eval]) O1 _ _ _ (by simp [Act.eval]) ((HSB.out.on hHeld).src (P := Tryd.prog) (t := 33) (e := 46) Tryd.underlying33) (by simp only [maxLen]; omega) (fitsM (by omega) (by decide)) hHeld.size ?_
          intro v3 W10 o3 g3
          have hH2 := hHeld.grown g3 hHeld.size (fun k hk => (O1.lt k hk).1)
          have o3' : World.ownsRow W10 Y5.heap.size 46 3 v3 (n + 1 + 1) (mcs (((fnS true cs).take n ++ [[2 + (n : Int), x, y]]) ++ (fnS true cs).drop n)) := by rw [mcs_append]; exact o3
          refine hK.out _ _ hH2 (fun _ => ?_)
          clear hK K hHeld g3 o3 O1
          have hHeld := hH2
          have O1 := o3'
          clear hH2 o3'
          try simp only [Act.put, List.getElem_toArray, List.getElem_cons_zero, List.getElem_cons_succ, List.setIfInBounds_toArray, List.set_cons_zero, List.set_cons_succ]
          refine wpAnyH_take (i := 11) (v := ?_) rfl (by kernel_rfl) (by kernel_rfl) (by kernel_rfl) (fun _ _ _ h => h) (Or.inl ⟨by kernel_rfl, ?hy11⟩) (by assumption) ?_
          case hy11 => (intro wI hSw; (try dsimp only at hSw); obtain ⟨t0, t1, t2, t3⟩ := HC.out _ hSw; go_simp; try with_reducible rfl)
          try simp only [Act.put, List.getElem_toArray, List.getElem_cons_zero, List.getElem_cons_succ, List.setIfInBounds_toArray, List.set_cons_zero, List.set_cons_succ]
          refine wpAnyH_done (by kernel_rfl) ?_ _
          rw [← hid2, ← hcl, ← fnS_yes, hcl] at O1
          have hW6 := HX.out.swap hHeld O1
          obtain ⟨q6, c6, rfl⟩ : ∃ q6 c6, v3 = .slice (some ⟨q6, 0, none⟩) (n + 1 + 1) c6 := by
            rcases O1.2 with ⟨_, h0⟩ | ⟨g6, cap, cur, rfl, _⟩
            · omega
            · exact ⟨g6, cap, rfl⟩
          have HW6 := hid hW6
          clear hW6 O1 hHeld HX HROW HRD HSA HSB HC
          have C : Hid (Calls Tryd.prog 12 #[.pointer (some ⟨p, 0, none⟩), .int .i64 (2 + (n : Int))] W10 fun e w' => (∃ a c, e = .returned (.tuple #[.slice a 0 c, .nilIface])) ∧ Fw es w1 p ((2 + 6 * n + 5) + 1) (fan true (cs ++ [(x, y)])) (.slice (some ⟨q6, 0, none⟩) (n + 1 + 1) c6) (n + 1 + 1) (fnS true (cs ++ [(x, y)])) w') := by
            have := HW6.out.callq (pq_com (by omega) ((cs.length + 2 : Nat) : Int) ⟨by omega, by omega⟩)
            rw [show (fn5 true cs x y) = fn5 true cs x y from rfl, r6, r7, hid2] at this
            exact this.mono fun _ _ ⟨⟨a, c, h1, _⟩, h2⟩ => ⟨⟨a, c, h1⟩, h2⟩
          clear HW6
          go_wp2_with fail
          refine C.out.mono ?_
          rintro e W7 ⟨⟨a7, c7, rfl⟩, hx7⟩
          have HX7 := hid (hx7.mono (show (2 + 6 * n + 5) + 1 ≤ 2 + 6 * (n + 1) by omega))
          clear hx7 C
          go_wp2
          go_roundw
          case rel => exact ⟨n + 1, cs ++ [(x, y)], q6, c6, rfl, by go_num, by omega, by rw [List.length_append, hcl]; rfl, (fun cc hc => by
            rcases List.mem_append.1 hc with hc | hc
            · exact HOK.out cc hc
            · obtain rfl := List.mem_singleton.1 hc
              exact ⟨hxb, hyb⟩), HX7.out⟩
          case measure => simp [numOf]; omega
        refine AllReadyH.cons rfl (fun K hK => ?_) ?_
        · have hb1 := bel_new W0 (.cells #[.int .i64 (2 + (n : Int)), .int .i64 x, .int .i64 y] 46)
          have hH2 := Below.on hHeld hb1
          have rl := lit3 W0 (2 + (n : Int)) x y
          try replace O1 := ownsRow_below O1 hb1
          go_simp
          refine hK.out _ _ hH2 (fun _ => ?_)
          clear hK K hHeld hb1 RL
          generalize W0.alloc (.cells #[.int .i64 (2 + (n : Int)), .int .i64 x, .int .i64 y] 46) = W5 at *
          generalize W0.heap.size = gl at *
          have hHeld := hH2
          have RL := rl
          clear hH2 rl
          try simp only [Act.put, List.getElem_toArray, List.getElem_cons_zero, List.getElem_cons_succ, List.setIfInBounds_toArray, List.set_cons_zero, List.set_cons_succ]
          refine wpAnyH_ready (rs := [3]) (by kernel_rfl) (by simp) ?_
          refine AllReadyH.cons rfl (fun K hK => ?_) AllReadyH.nil
          refine step_appG (by kernel_rfl) (.const (.slice none 0 0)) (.tmp 99) 33 33 rfl Y5.heap.size 46 i0 (.agg #[.int .i64 0, .int .i64 0, .int .i64 0]) 3 24 Tryd.underlying33 hi hz0 hz1 hz2 rfl _ _ _ (by simp [Act.eval]) (World.ownsRow_nil _ _ _ _) _ _ _ (by simp [Act.eval]) ((HSA.out.on hHeld).src (P := Tryd.prog) (t := 33) (e := 46) Tryd.underlying33) (by simp only [maxLen]; omega) (fitsM (by omega) (by decide)) hHeld.size ?_
          intro v1 W3 o1 g1
          have hb1 : Below W5.heap.size W5 W3 := (Below.refl _ _).grown g1 (Nat.le_refl _) (fun k hk => by cases hk)
          have hH2 := Below.on hHeld hb1
          try replace RL := RL.on hb1
          have o1' : World.ownsRow W3 Y5.heap.size 46 3 v1 n (mcs ((fnS true cs).take n)) := by rw [Nat.zero_add, List.nil_append] at o1; exact o1
          refine hK.out _ _ hH2 (fun _ => ?_)
          clear hK K hHeld g1 o1 hb1 O1
          have hHeld := hH2
          have O1 := o1'
          clear hH2 o1'
          try simp only [Act.put, List.getElem_toArray, List.getElem_cons_zero, List.getElem_cons_succ, List.setIfInBounds_toArray, List.set_cons_zero, List.set_cons_succ]
          refine wpAnyH_ready (rs := [6]) (by kernel_rfl) (by simp) ?_
          refine AllReadyH.cons rfl (fun K hK => ?_) AllReadyH.nil
          refine step_appG (by kernel_rfl) (.tmp 100) (.tmp 102) 33 33 rfl Y5.heap.size 46 i0 (.agg #[.int .i64 0, .int .i64 0, .int .i64 0]) 3 24 Tryd.underlying33 hi hz0 hz1 hz2 rfl _ _ _ (by simp [Act.eval]) O1 _ _ _ (by simp [Act.eval]) (RL.src (P := Tryd.prog) (t := 33) (e := 46) Tryd.underlying33) (by simp only [maxLen]; omega) (fitsM (by omega) (by decide)) hHeld.size ?_
          intro v2 W6 o2 g2
          have hH2 := hHeld.grown g2 hHeld.size (fun k hk => (O1.lt k hk).1)
          have o2' : World.ownsRow W6 Y5.heap.size 46 3 v2 (n + 1) (mcs ((fnS true cs).take n ++ [[2 + (n : Int), x, y]])) := by rw [mcs_append]; exact o2
          refine hK.out _ _ hH2 (fun _ => ?_)
          clear hK K hHeld g2 o2 O1 RL
          have hHeld := hH2
          have O1 := o2'
          clear hH2 o2'
          try simp only [Act.put, List.getElem_toArray, List.getElem_cons_zero, List.getElem_cons_succ, List.setIfInBounds_toArray, List.set_cons_zero, List.set_cons_succ]
          refine wpAnyH_ready (rs := [10]) (by kernel_rfl) (by simp) ?_
          refine AllReadyH.cons rfl (fun K hK => ?_) AllReadyH.nil
          refine step_appG (by kernel_rfl) (.tmp 103) (.tmp 106) 33 33 rfl Y5.heap.size 46 i0 (.agg #[.int .i64 0, .int .i64 0, .int .i64 0]) 3 24 Tryd.underlying33 hi hz0 hz1 hz2 rfl _ _ _ (by simp [Act.eval]) O1 _ _ _ (by simp [Act.eval]) ((HSB.out.on hHeld).src (P := Tryd.prog) (t := 33) (e := 46) Tryd.underlying33) (by simp only [maxLen]; omega) (fitsM (by omega) (by decide)) hHeld.size ?_
          intro v3 W10 o3 g3
          have hH2 := hHeld.grown g3 hHeld.size (fun k hk => (O1.lt k hk).1)
          have o3' : World.ownsRow W10 Y5.heap.size 46 3 v3 (n + 1 + 1) (mcs (((fnS true cs).take n ++ [[2 + (n : Int), x, y]]) ++ (fnS true cs).drop n)) := by rw [mcs_append]; exact o3
          refine hK.out _ _ hH2 (fun _ => ?_)
          clear hK K hHeld g3 o3 O1
          have hHeld := hH2
          have O1 := o3'
          clear hH2 o3'
          try simp only [Act.put, List.getElem_toArray, List.getElem_cons_zero, List.getElem_cons_succ, List.setIfInBounds_toArray, List.set_cons_zero, List.set_cons_succ]
          refine wpAnyH_take (i := 11) (v := ?_) rfl (by kernel_rfl) (by kernel_rfl) (by kernel_rfl) (fun _ _ _ h => h) (Or.inl ⟨by kernel_rfl, ?hy11⟩) (by assumption) ?_
          case hy11 => (intro wI hSw; (try dsimp only at hSw); obtain ⟨t0, t1, t2, t3⟩ := HC.out _ hSw; go_simp; try with_reducible rfl)
          try simp only [Act.put, List.getElem_toArray, List.getElem_cons_zero, List.getElem_cons_succ, List.setIfInBounds_toArray, List.set_cons_zero, List.set_cons_succ]
          refine wpAnyH_done (by kernel_rfl) ?_ _
          rw [← hid2, ← hcl, ← fnS_yes, hcl] at O1
          have hW6 := HX.out.swap hHeld O1
          obtain ⟨q6, c6, rfl⟩ : ∃ q6 c6, v3 = .slice (some ⟨q6, 0, none⟩) (n + 1 + 1) c6 := by
            rcases O1.2 with ⟨_, h0⟩ | ⟨g6, cap, cur, rfl, _⟩
            · omega
            · exact ⟨g6, cap, rfl⟩
          have HW6 := hid hW6
          clear hW6 O1 hHeld HX HROW HRD HSA HSB HC
          have C : Hid (Calls Tryd.prog 12 #[.pointer (some ⟨p, 0, none⟩), .int .i64 (2 + (n : Int))] W10 fun e w' => (∃ a c, e = .returned (.tuple #[.slice a 0 c, .nilIface])) ∧ Fw es w1 p ((2 + 6 * n + 5) + 1) (fan true (cs ++ [(x, y)])) (.slice (some ⟨q6, 0, none⟩) (n + 1 + 1) c6) (n + 1 + 1) (fnS true (cs ++ [(x, y)])) w') := by
            have := HW6.out.callq (pq_com (by omega) ((cs.length + 2 : Nat) : Int) ⟨by omega, by omega⟩)
            rw [show (fn5 true cs x y) = fn5 true cs x y from rfl, r6, r7, hid2] at this
            exact this.mono fun _ _ ⟨⟨a, c, h1, _⟩, h2⟩ => ⟨⟨a, c, h1⟩, h2⟩
          clear HW6
          go_wp2_with fail
          refine C.out.mono ?_
          rintro e W7 ⟨⟨a7, c7, rfl⟩, hx7⟩
          have HX7 := hid (hx7.mono (show (2 + 6 * n + 5) + 1 ≤ 2 + 6 * (n + 1) by omega))
          clear hx7 C
          go_wp2
          go_roundw
          case rel => exact ⟨n + 1, cs ++ [(x, y)], q6, c6, rfl, by go_num, by omega, by rw [List.length_append, hcl]; rfl, (fun cc hc => by
            rcases List.mem_append.1 hc with hc | hc
            · exact HOK.out cc hc
            · obtain rfl := List.mem_singleton.1 hc
              exact ⟨hxb, hyb⟩), HX7.out⟩
          case measure => simp [numOf]; omega
        exact AllReadyH.nil
    · have e2 : decide ((n : Int) < k) = false := decide_eq_false (by omega)
      obtain rfl : n = k := by omega
      obtain ⟨f1, f2, f3, f4⟩ := fn_end true cs (by omega) (by omega)
      rw [fn_edg HOK.out] at f3
      have e3 : IntKind.i64.wrap ((n : Int) + 1) = (n : Int) + 1 := by rw [IntKind.wrap_i64]; omega
      have hlen := fnS_len true cs
      rw [hcl] at hlen f2
      have C : Hid (Calls Tryd.prog 12 #[.pointer (some ⟨p, 0, none⟩), .int .i64 1] wr fun e w' => (∃ a c, e = .returned (.tuple #[.slice a (n + 1) c, .nilIface])) ∧ Fw es w1 p (2 + 6 * n + 1) (fnZ true cs) (.slice (some ⟨q, 0, none⟩) (n + 1) c) (n + 1) (fnS true cs) w') := by
        have := hx.callq (pq_com (by omega) 1 ⟨by decide, by decide⟩)
        rw [f1, f2] at this
        exact this.mono fun _ _ ⟨⟨a, c, h1, _⟩, h2⟩ => ⟨⟨a, c, h1⟩, h2⟩
      clear hx
      go_wp2_with fail
      refine C.out.mono ?_
      rintro e W1 ⟨⟨a7, c7, rfl⟩, hx7⟩
      have HX7 := hid hx7
      obtain ⟨X7, hp7⟩ := hx7.pq
      have CW := hid (hp7.pg.wlk 1 ⟨by decide, by decide⟩)
      rw [f3, hlen] at CW
      clear hx7 C hp7
      go_wp2_with fail
      refine CW.out.mono ?_
      rintro e W2 ⟨a8, c8, rfl, hr8, hb8⟩
      have HX8 := hid (HX7.out.on hb8)
      obtain ⟨wa, wcp, hva, hrd⟩ := own_rd3 (B := w1.heap.size) (l := fnS true cs) (by rw [hlen]; exact HX8.out.row) (fnS_size true cs)
      rw [hlen] at hva hrd
      cases hva
      have CS := hid (samechildren_any _ _ _ _ _ _ _ _ _ hr8 hrd)
      rw [leqs_same] at CS
      clear hr8 hrd hb8 CW HX7
      go_wp2_with fail
      refine CS.out.mono ?_
      rintro e W3 ⟨rfl, kk, hW3⟩
      have HX9 : Hid (Fw es w1 p (2 + 6 * n + 1) (fnZ true cs) (.slice (some ⟨q, 0, none⟩) (n + 1) c) (n + 1) (fnS true cs) W3) := by
        rw [Hid, hW3]
        exact HX8.out.on (below_drewN (Below.refl _ _) kk)
      clear hW3 CS HX8
      obtain ⟨X9, hp9⟩ := HX9.out.pq
      have CH := hid hp9.pg.hld
      clear hp9
      go_wp2_with fail
      refine CH.out.mono ?_
      rintro e W4 ⟨a9, c9, ys, rfl, hr9, hri, hme, hb9⟩
      have hys := fn_held (by omega) (by omega) hri hme
      rw [hcl] at hys
      rw [hys]
      have HX10 := hid (HX9.out.on hb9)
      obtain ⟨X10, hp10⟩ := HX10.out.pq
      have CA := hid (AW.out W4 hp10.1 hp10.2.1)
      have HBB := hid hp10.1
      clear hr9 hri hme hys hb9 CH HX9 hp10 AW HX10
      go_wp2_with fail
      refine CA.out.mono ?_
      rintro e W5 ⟨rfl, hb5⟩
      have HF := hid (Below.on HBB.out hb5)
      clear hb5 CA
      go_wp2
      go_ret
      exact ⟨rfl, HF.out⟩

theorem walk (a0 : Int) (a1 : Option Addr) (n1 c1 : Nat) (z1 : List Int) (a2 : Bool) (w : World) (w0 : (Lit.int .i64 a0).wf = true) (w1 : RdI .i64 w a1 n1 c1 z1) (_ : c1 * 8 ≤ 140737488351232) (hL : laidMetH Tryd.prog Rows.forestPlacesRow.laid w) :
    Calls Tryd.prog 5 #[.int .i64 a0, .slice a1 n1 c1, .bool a2] w fun e w' => e = .returned (.bool true) ∧ Below w.heap.size w w' := by
  obtain ⟨es, hE⟩ := fe5 hL
  cases a2
  · exact core_false a0 a1 n1 c1 z1 w (wfB w0) w1 es hE
  · exact core_true a0 a1 n1 c1 z1 w (wfB w0) w1 es hE
end Go.Proofs.YtdgknofpkafppaaDoor.forestPlaces
