/- A frame with exceptions; the contracts of the program's reader.take (of nil too), of cut, New and Left. -/
import Derived.Test.YtfbebifbfpkdaaaDoorRdrE
namespace Go.Proofs.YtfbebifbfpkdaaaDoor
open Go Go.RowKit

/-- Of the blocks that were there only those of X may have turned. -/
structure Kp (X : List Nat) (w w' : World) : Prop where
  os : w'.os = w.os
  tape : w'.tape = w.tape
  output : w'.output = w.output
  size : w.heap.size ≤ w'.heap.size
  block : ∀ k, k < w.heap.size → k ∉ X → w'.heap[k]? = w.heap[k]?

theorem Kp.below {X : List Nat} {w w' : World} {B : Nat} (h : Kp X w w') (hB : B ≤ w.heap.size) (hX : ∀ k ∈ X, B ≤ k) : Below B w w' :=
  ⟨h.os, h.tape, h.output, h.size, fun k hk => h.block k (by omega) (fun hm => by have := hX k hm; omega)⟩
theorem kp_of_below {w w' : World} (h : Below w.heap.size w w') (X : List Nat) : Kp X w w' := ⟨h.os, h.tape, h.output, h.size, fun k hk _ => h.block k hk⟩
theorem kp_of_grown {w w' : World} {row : Option Nat} (h : w.grownBy w' row) : Kp row.toList w w' :=
  ⟨h.os, h.tape, h.output, h.size, fun k hk hn => h.block k hk (fun e => hn (by rw [← e]; simp))⟩
theorem Kp.trans {X Y : List Nat} {w w1 w2 : World} (h : Kp X w w1) (h1 : Kp Y w1 w2) (hY : ∀ k ∈ Y, k < w.heap.size → k ∈ X) : Kp X w w2 :=
  ⟨h1.os.trans h.os, h1.tape.trans h.tape, h1.output.trans h.output, Nat.le_trans h.size h1.size, fun k hk hn => by
    rw [h1.block k (Nat.lt_of_lt_of_le hk h.size) (fun hm => hn (hY k hm hk))]
    exact h.block k hk hn⟩
theorem Kp.mono {X Y : List Nat} {w w1 : World} (h : Kp X w w1) (hY : ∀ k ∈ X, k < w.heap.size → k ∈ Y) : Kp Y w w1 :=
  ⟨h.os, h.tape, h.output, h.size, fun k hk hn => h.block k hk (fun hm => hn (hY k hm hk))⟩
theorem Kp.set {X : List Nat} {w w1 : World} (h : Kp X w w1) (p : Addr) (hp : p.block ∈ X) (u : Value) : Kp X w (w1.setCell p u) :=
  h.trans (Y := [p.block]) ⟨rfl, rfl, rfl, by simp [World.setCell], fun k _ hn => Below.heap_setCell _ _ _ _ (fun e => hn (by simp [e]))⟩ (fun k hk _ => by
    simp only [List.mem_cons, List.not_mem_nil, or_false] at hk
    rw [hk]
    exact hp)
theorem Kp.var {X : List Nat} {w w' : World} (h : Kp X w w') {k : Nat} {o : Obj} (ho : w.heap[k]? = some o) (hn : k ∉ X) : w'.heap[k]? = some o := by
  rw [h.block k (Array.getElem?_eq_some_iff.1 ho).1 hn]
  exact ho
theorem Kp.row {X : List Nat} {w w' : World} (h : Kp X w w') {base e size n : Nat} {v : Value} {xs : List Value} (ho : w.ownsRow base e size v n xs) (hn : ∀ k, v.ownBlock = some k → k ∉ X) : w'.ownsRow base e size v n xs := by
  refine ⟨ho.1, ?_⟩
  rcases ho.2 with q | ⟨g, cap, cur, rfl, e2, e3, e4⟩
  · exact .inl q
  · exact .inr ⟨g, cap, cur, rfl, e2, h.var e3 (hn g rfl), e4⟩
theorem Kp.rd {X : List Nat} {w w' : World} (h : Kp X w w') {a : Option Addr} {n c : Nat} {l : List UInt8} (hr : Rd w a n c l) (hn : ∀ x, a = some x → 0 < l.length → x.block ∉ X) : Rd w' a n c l :=
  hr.kept fun x hx hl => h.block _ (rd_low hr x hx hl) (hn x hx hl)
theorem Kp.rdr {X : List Nat} {w w' : World} (h : Kp X w w') {a : Option Addr} {n c : Nat} {l : List RV} (hr : RdR w a n c l) (hn : ∀ x, a = some x → 0 < l.length → x.block ∉ X) : RdR w' a n c l :=
  hr.kept fun x hx hl => h.block _ (hr.low x hx hl) (hn x hx hl)

/-- A write into a block where the row does not lie. -/
theorem ownsRow_set {w : World} {base e size n : Nat} {v : Value} {xs : List Value} (h : w.ownsRow base e size v n xs) (p : Addr) (hp : v.ownBlock ≠ some p.block) (u : Value) : (w.setCell p u).ownsRow base e size v n xs :=
  ((kp_of_below (Below.refl _ _) [p.block]).set p (by simp) u).row h (fun k hk hm => by
    simp only [List.mem_cons, List.not_mem_nil, or_false] at hm
    exact hp (by rw [hk, hm]))

set_option maxRecDepth 100000 in
set_option maxHeartbeats 1000000 in
theorem take_none (w : World) (es : List Addr) (hE : Errs w gerrs es) :
    Calls Tryd.prog 19 #[.slice none 0 0] w fun e w' => e = .returned (.tuple #[.slice none 0 0, .int .i64 0, .nilIface]) ∧ Below w.heap.size w w' := by
  obtain ⟨x2, _, ex2, _⟩ := erv_at hE 1 (by omega)
  have EX := hid ex2
  have hsh : w.cell? ⟨1, 0, none⟩ = some (.iface 85 (.pointer (some x2))) := by
    rw [← ex2]
    exact (E4.of hE rfl).short
  have hlt : 1 < w.heap.size := World.block_lt_of_cell? w _ hsh
  have HF : Hid (Calls Tryd.prog 24 #[.slice none 0 0] w fun e w' => e = .returned (.tuple #[.agg #[.int .i64 0, .int .i64 0, .string ⟨#[]⟩], .int .i64 0, erv es 2]) ∧ Below w.heap.size w w') := first_any w none 0 0 [] (Rd.nil w) (by omega) es (E4.of hE rfl)
  clear hE ex2
  go_enter Tryd.func19, Tryd.ntmps19
  go_wp2
  refine wp_loop_rounds 1 ?_
  rw [rounds_succ]
  go_wp2_with fail
  refine HF.out.mono ?_
  rintro e w1 ⟨rfl, hb1⟩
  rw [EX.out]
  have hsh1 : w1.cell? ⟨1, 0, none⟩ = some (.iface 85 (.pointer (some x2))) := by rw [hb1.cell hlt]; exact hsh
  have hlt1 : 1 < w1.heap.size := by have := hb1.size; omega
  have HB1 := hid (hb1.alloc hb1.size (.cells #[.int .i64 0, .int .i64 0, .string ⟨#[]⟩] 46))
  clear hb1 HF
  go_wp2_with fail
  refine (is_same x2 _).mono ?_
  rintro e w2 ⟨rfl, rfl⟩
  go_wp2
  go_ret3
  exact ⟨rfl, HB1.out⟩

theorem take_any (w : World) (base e : Nat) (v : Value) (l : List UInt8) (hr : w.ownsRow base e 1 v l.length (bc l)) (hn : l.length ≤ 1000000) (es : List Addr) (hE : Errs w gerrs es) :
    Calls Tryd.prog 19 #[v] w fun e w' => ∃ r k, e = .returned (.tuple #[r, .int .i64 (k : Nat), erv es (tk l).2.2]) ∧ w'.ownsRow w.heap.size 46 3 r (tk l).1.length (rcs (tk l).1) ∧ k ≤ l.length ∧ ((tk l).2.2 = 0 → l.drop k = (tk l).2.1) ∧ Below w.heap.size w w' := by
  rcases hr.2 with ⟨rfl, h0⟩ | ⟨g, cap, cur, rfl, _⟩
  · obtain rfl : l = [] := List.eq_nil_of_length_eq_zero h0
    refine (take_none w es hE).mono ?_
    rintro e w' ⟨rfl, hb⟩
    rw [tk_nil]
    exact ⟨_, 0, rfl, World.ownsRow_nil _ _ _ _, Nat.le_refl _, fun _ => rfl, hb⟩
  · obtain ⟨a, c, hv, h1, _⟩ := rd_of_owns hr
    obtain ⟨rfl, rfl⟩ : some ⟨g, 0, none⟩ = a ∧ cap = c := by simpa using hv
    exact take_some w g 0 l.length cap l h1 hn es hE

/-- A row of zeros. -/
theorem made_eq (n : Nat) : (madeCells (Value.int .u8 0).cells (n * 1)).size = n := by rw [size_madeCells, Nat.mul_one]

set_option maxRecDepth 100000 in
set_option maxHeartbeats 1000000 in
theorem cut_some (w : World) (base p g cap : Nat) (l : List UInt8) (x : Value) (hp : w.heap[p]? = some (.cells #[.slice (some ⟨g, 0, none⟩) l.length cap, x] 58 (0, 0))) (hr : w.ownsRow base 5 1 (.slice (some ⟨g, 0, none⟩) l.length cap) l.length (bc l)) (hb : base ≤ w.heap.size) (k : Nat) (hk0 : 0 < k) (hk : k ≤ l.length) (hn : l.length ≤ 1000000) :
    Calls Tryd.prog 20 #[.pointer (some ⟨p, 0, none⟩), .int .i64 k] w fun e w' => e = .returned (.tuple #[]) ∧ ∃ v', w'.heap[p]? = some (.cells #[v', x] 58 (0, 0)) ∧ w'.ownsRow base 5 1 v' (l.drop k).length (bc (l.drop k)) ∧ Kp [p] w w' ∧ v'.ownBlock = some w.heap.size := by
  obtain ⟨i0, hi, hz0, hz1, hz2⟩ := info_parts infoU8
  obtain ⟨w1, hmk, ho1, hg1⟩ := run_make_full (P := Tryd.prog) w w.heap.size 26 5 i0 (.int .u8 0) 1 Tryd.underlying26 hi hz0 hz1 .i64 .i64 (l.length - k) (by rw [hz2]; omega) (by simp only [maxLen]; omega) (Nat.le_refl _)
  rw [show ((l.length - k : Nat) : Int) = (l.length : Int) - k by omega] at hmk
  have c0 : w.cell? ⟨p, 0, none⟩ = some (.slice (some ⟨g, 0, none⟩) l.length cap) := by rw [Lib.cell_of_heap hp]; rfl
  have hp1 := (kp_of_grown hg1).var hp (by simp)
  have d0 : w1.cell? ⟨p, 0, none⟩ = some (.slice (some ⟨g, 0, none⟩) l.length cap) := by rw [Lib.cell_of_heap hp1]; rfl
  obtain ⟨a, c, hv, hrd, _⟩ := rd_of_owns hr
  cases hv
  have hcap := hrd.le
  have HG : Hid (∃ cur : List Value, cur.length = l.length - k ∧ w1.heap[w.heap.size]? = some (.cells cur.toArray 5 (0, 0))) := by
    rcases ho1.2 with ⟨h, _⟩ | ⟨g', cap', cur, hv, _, hg, _, _, hs, _⟩
    · cases h
    · cases hv
      exact ⟨cur.toList, by rw [Array.length_toList, hs, Nat.mul_one], by rw [Array.toArray_toList]; exact hg⟩
  have hbw1 : Below w.heap.size w w1 := (Below.refl _ _).grown hg1 (Nat.le_refl _) (fun k hk => by cases hk)
  have hsz : (Tryd.prog.info? 5).map (·.size) = some 1 := by rw [hi]; exact congrArg some hz1
  have HS : Hid (0 < (bc (l.drop k)).length → some (⟨w.heap.size, 0, none⟩ : Addr) = some ⟨w.heap.size, 0, none⟩ ∧ ∃ ad, some (⟨g, k, none⟩ : Addr) = some ad ∧ ∀ j v, (bc (l.drop k))[j]? = some v → w1.cell? (ad.add j) = some v) := fun _ => by
    have h := rd_drop (hrd.below hbw1 (rd_low hrd)) k hk
    rw [Nat.zero_add] at h
    exact ⟨rfl, _, rfl, h.cells _ rfl⟩
  have HL : Hid ((bc (l.drop k)).length = l.length - k) := by rw [Hid, bc_length, List.length_drop]
  have HO := hid (bc_one (l.drop k))
  have HK : Hid (∀ u, Below w.heap.size w u → u.heap[p]? = some (.cells #[.slice (some ⟨g, 0, none⟩) l.length cap, x] 58 (0, 0))) := fun u hu => by
    rw [hu.block _ (Array.getElem?_eq_some_iff.1 hp).1]
    exact hp
  have hpl : p < w.heap.size := (Array.getElem?_eq_some_iff.1 hp).1
  have HE : Hid (∀ u cur, cur.length = l.length - k → u.heap[w.heap.size]? = some (.cells (splice cur 0 (bc (l.drop k))).toArray 5 (0, 0)) → Below w.heap.size w u → ∃ v', (u.setCell ⟨p, 0, none⟩ (.slice (some ⟨w.heap.size, 0, none⟩) (l.length - k) (l.length - k))).heap[p]? = some (.cells #[v', x] 58 (0, 0)) ∧ (u.setCell ⟨p, 0, none⟩ (.slice (some ⟨w.heap.size, 0, none⟩) (l.length - k) (l.length - k))).ownsRow base 5 1 v' (l.drop k).length (bc (l.drop k)) ∧ Kp [p] w (u.setCell ⟨p, 0, none⟩ (.slice (some ⟨w.heap.size, 0, none⟩) (l.length - k) (l.length - k))) ∧ v'.ownBlock = some w.heap.size) := fun u cur hc hg hu => by
    have e : splice cur 0 (bc (l.drop k)) = bc (l.drop k) := by
      have h0 : cur.drop (bc (l.drop k)).length = [] := List.drop_eq_nil_of_le (by rw [HL.out, hc]; omega)
      rw [splice, List.take_zero, List.nil_append, Nat.zero_add, h0, List.append_nil]
    rw [e] at hg
    refine ⟨.slice (some ⟨w.heap.size, 0, none⟩) (l.length - k) (l.length - k), ?_, ?_, (kp_of_below hu [p]).set ⟨p, 0, none⟩ (by simp) _, rfl⟩
    · rw [heap_setCell_same _ _ _ _ _ _ (HK.out u hu)]
      rfl
    · refine ownsRow_set ?_ _ (fun h => by simp only [Value.ownBlock, Option.some.injEq] at h; omega) _
      rw [List.length_drop]
      exact ⟨by rw [HL.out, Nat.mul_one], .inr ⟨w.heap.size, l.length - k, _, rfl, hb, hg, Nat.le_refl _, by simp only [maxLen]; omega, by rw [List.size_toArray, HL.out, Nat.mul_one], by rw [Nat.mul_one, ← HL.out]; exact List.take_length⟩⟩
  generalize bc (l.drop k) = cs at *
  generalize l.length = m at *
  obtain ⟨cur, hc1, hc2⟩ := HG.out
  have HC1 := hid hc1
  have HC2 := hid hc2
  have HB1 := hid hbw1
  have HSZ := hid hsz
  clear hrd hc1 hc2 hbw1 hg1 ho1 hp1 hp hr HG hsz
  have hnz : ((k : Int) == 0) = false := beq_false_of_ne (by omega)
  have HRUN : ∀ (ad : Addr) (sc : Nat), (∀ j v, cs[j]? = some v → w1.cell? (ad.add j) = some v) → (Builtin.copy_ #[26, 26] 3 #[.slice (some ⟨w.heap.size, 0, none⟩) (m - k) (m - k), .slice (some ad) (m - k) sc]).run Tryd.prog w1 = .ok (goInt cs.length) (w1.setRow w.heap.size (splice cur 0 cs).toArray) := fun ad sc h => by
    have := run_copy_row (P := Tryd.prog) w1 26 26 3 5 w.heap.size 0 (m - k) (m - k) ad (m - k) sc cur.toArray 5 cs Tryd.underlying26 HSZ.out HC2.out (HL.out.trans (Nat.min_self _).symm) h (by rw [List.size_toArray, HC1.out, HL.out]; omega) HO.out
    rw [this, splice, List.append_assoc]
  have hr1 : ∃ U, Below w.heap.size w U ∧ U.heap[w.heap.size]? = some (.cells (splice cur 0 cs).toArray 5 (0, 0)) ∧ (Builtin.copy_ #[26, 26] 3 #[.slice (some ⟨w.heap.size, 0, none⟩) (m - k) (m - k), .slice (some ⟨g, k, none⟩) (m - k) (cap - k)]).run Tryd.prog w1 = .ok (goInt cs.length) U ∧ (cap = k → (Builtin.copy_ #[26, 26] 3 #[.slice (some ⟨w.heap.size, 0, none⟩) (m - k) (m - k), .slice (some ⟨g, 0, none⟩) (m - k) 0]).run Tryd.prog w1 = .ok (goInt cs.length) U) := by
    refine ⟨_, below_setRow HB1.out (Nat.le_refl _) _, setRow_heap w1 w.heap.size _ _ 5 _ HC2.out, HRUN _ _ (fun j v hj => ?_), fun hck => HRUN _ _ (fun j v hj => ?_)⟩
    · have hp : 0 < cs.length := by
        rcases Nat.eq_zero_or_pos cs.length with h0 | h0
        · rw [List.eq_nil_of_length_eq_zero h0] at hj; simp at hj
        · exact h0
      obtain ⟨_, ad, had, h⟩ := HS.out hp
      cases had
      exact h j v hj
    · have h0 : cs.length = 0 := by rw [HL.out]; omega
      rw [List.eq_nil_of_length_eq_zero h0] at hj
      simp at hj
  obtain ⟨U, hu, hg, hc1, hc2⟩ := hr1
  have HU := hid (HE.out U cur HC1.out hg hu)
  have y0 : U.cell? ⟨p, 0, none⟩ = some (.slice (some ⟨g, 0, none⟩) m cap) := by rw [Lib.cell_of_heap (HK.out U hu)]; rfl
  have yf : ∀ j, U.frozen? ⟨p, j, none⟩ = false := Lib.frozen_of_heap (HK.out U hu)
  clear HRUN hu hg
  go_enter Tryd.func20, Tryd.ntmps20
  go_wp2
  all_goals
    go_end0
    exact ⟨rfl, HU.out⟩
end Go.Proofs.YtfbebifbfpkdaaaDoor
