/- The contract of the program's (*reader.Reader).Feed. -/
import Derived.Test.YtfbebifbfpkdaaaDoorRdrF
namespace Go.Proofs.YtfbebifbfpkdaaaDoor
open Go Go.RowKit

section
variable {P : Program} (w : World)
/-- As 'run_append_own_src', and where the new row lies. -/
theorem run_append_own_at (base : Nat) (t tx ty e : TypeId) (i : TypeInfo) (z : Value) (size bytes : Nat) (ht : P.underlying t = some (.slice e)) (hi : P.info? e = some i) (hz : i.zero = some z)
    (hsize : i.size = size) (hby : i.bytes = bytes) (hzs : z.cells.size = size)
    (v : Value) (n : Nat) (xs : List Value) (hown : w.ownsRow base e size v n xs)
    (x : Value) (m : Nat) (news : List Value) (hs : Src P size tx x m news w)
    (h63 : n + m ≤ maxLen) (hbytes : ∀ old, old < n + m → Builtin.nextslicecap (n + m) old * bytes ≤ 281474976710656) (hbase : base ≤ w.heap.size) :
    ∃ v' w', (Builtin.append_ #[t, tx] ty #[v, x]).run P w = .ok v' w' ∧ w'.ownsRow base e size v' (n + m) (xs ++ news) ∧ w.grownBy w' v.ownBlock ∧ (v'.ownBlock = v.ownBlock ∨ v'.ownBlock = some w.heap.size) := by
  obtain ⟨v', w', hr, h1, h2⟩ := run_append_own_src (P := P) w base t tx ty e i z size bytes ht hi hz hsize hby hzs v n xs hown x m news hs h63 hbytes hbase
  refine ⟨v', w', hr, h1, h2, ?_⟩
  subst hsize
  subst hby
  have hl := hs.newsLen
  have hsmall : n + m ≤ 9223372036854775807 := by simp only [maxLen] at h63; omega
  rcases hown.2 with ⟨rfl, rfl⟩ | ⟨g, cap, cur, rfl, hbg, hg, hnc, hcm, hcs, htake⟩
  · by_cases hm : m = 0
    · subst hm
      have hn : news = [] := List.eq_nil_of_length_eq_zero (by simpa using hl)
      subst hn
      have hr' : (Builtin.append_ #[t, tx] ty #[.slice none 0 0, x]).run P w = .ok (.slice none 0 0) w := by
        rcases hs.kind with ⟨e', hk⟩ | hk <;> simp [Builtin.append_, run_underlying ht, run_underlying hk, sizeOf, typeInfo, hi, hs.len, hs.cells]
      have := hr.symm.trans hr'
      simp only [Result.ok.injEq] at this
      exact .inl (by rw [this.1])
    · have hr' := run_append_grow_src (P := P) w t tx ty e i z ht hi hz none 0 0 [] (run_firstCells_none w.drew i.size 0 0 0) x m news hs (by omega) (by omega) (hbytes _ (by omega))
      have := hr.symm.trans hr'
      simp only [Result.ok.injEq] at this
      exact .inr (by rw [this.1]; rfl)
  · by_cases hroom : n + m ≤ cap
    · have hfit : n * i.size + news.length ≤ cur.size := by rw [hl, hcs, ← Nat.add_mul]; exact Nat.mul_le_mul_right _ hroom
      have hr' := run_append_room_own (P := P) (ty := ty) w t tx e i ht hi g n cap cur hg x m news hs hroom hfit
      have := hr.symm.trans hr'
      simp only [Result.ok.injEq] at this
      exact .inl (by rw [this.1]; rfl)
    · have holds : ∀ j u, xs[j]? = some u → w.cell? ((⟨g, 0, none⟩ : Addr).add j) = some u := hown.cells (g := g) rfl
      have hold := run_firstCells_some (P := P) w.drew i.size n ⟨g, 0, none⟩ n cap xs hown.1 (by simpa using holds)
      have hr' := run_append_grow_src (P := P) w t tx ty e i z ht hi hz (some ⟨g, 0, none⟩) n cap xs hold x m news hs (by omega) (by omega) (hbytes _ (by omega))
      have := hr.symm.trans hr'
      simp only [Result.ok.injEq] at this
      exact .inr (by rw [this.1]; rfl)

theorem wpList_append_own_at {ops : Array Oper} {rest : List Oper} {o : Oper} {a : Act} {Q : Exit → Act → World → Prop} (hgd : o.guard = none) (s x : Operand) (t tx : TypeId)
    (ho : o.op = .call { callee := .builtin .append, args := #[s, x], argTypes := #[t, tx] })
    (base : Nat) (e : TypeId) (i : TypeInfo) (z : Value) (size bytes : Nat) (ht : P.underlying t = some (.slice e)) (hi : P.info? e = some i) (hz : i.zero = some z)
    (hsize : i.size = size) (hby : i.bytes = bytes) (hzs : z.cells.size = size)
    (v : Value) (n : Nat) (xs : List Value) (hs : a.eval s = v) (hown : w.ownsRow base e size v n xs)
    (xv : Value) (m : Nat) (news : List Value) (hx : a.eval x = xv) (hsrc : Src P size tx xv m news w)
    (h63 : n + m ≤ maxLen) (hbytes : ∀ old, old < n + m → Builtin.nextslicecap (n + m) old * bytes ≤ 281474976710656) (hbase : base ≤ w.heap.size)
    (h : ∀ v' w', w'.ownsRow base e size v' (n + m) (xs ++ news) → w.grownBy w' v.ownBlock → (v'.ownBlock = v.ownBlock ∨ v'.ownBlock = some w.heap.size) → wpList P ops Q rest (a.put o.dst v') w') : wpList P ops Q (o :: rest) a w :=
  wpList_plain hgd fun K hK => by
    obtain ⟨v', w', hr, h2, h3, h4⟩ := run_append_own_at (P := P) w base t tx o.type e i z size bytes ht hi hz hsize hby hzs v n xs hown xv m news hsrc h63 hbytes hbase
    unfold Oper.wp execOp
    simp only [ho, resolve, invoke, builtin, Sem.run_bind, Sem.run_pure, Result.andThen_ok, List.map_toArray, List.map_cons, List.map_nil, hs, hx, hr]
    exact hK _ _ (h v' w' h2 h3 h4)
end

set_option maxRecDepth 100000 in
theorem cut_zero (w : World) (p : Nat) : Calls Tryd.prog 20 #[.pointer (some ⟨p, 0, none⟩), .int .i64 0] w fun e w' => e = .returned (.tuple #[]) ∧ w' = w := by
  go_enter Tryd.func20, Tryd.ntmps20
  go_wp2
  refine bodyPost_ret (v := .tuple #[]) ?_ rfl ⟨rfl, rfl⟩
  simp [results, Tryd.results20, go_sem]

theorem cut_any (w : World) (base p : Nat) (v : Value) (l : List UInt8) (x : Value) (hp : w.heap[p]? = some (.cells #[v, x] 58 (0, 0))) (hr : w.ownsRow base 5 1 v l.length (bc l)) (hb : base ≤ w.heap.size) (k : Nat) (hk : k ≤ l.length) (hn : l.length ≤ 1000000) :
    Calls Tryd.prog 20 #[.pointer (some ⟨p, 0, none⟩), .int .i64 k] w fun e w' => e = .returned (.tuple #[]) ∧ ∃ v', w'.heap[p]? = some (.cells #[v', x] 58 (0, 0)) ∧ w'.ownsRow base 5 1 v' (l.drop k).length (bc (l.drop k)) ∧ Kp [p] w w' ∧ (v' = v ∨ v'.ownBlock = some w.heap.size) := by
  rcases Nat.eq_zero_or_pos k with rfl | h0
  · refine (cut_zero w p).mono ?_
    rintro e w' ⟨rfl, rfl⟩
    exact ⟨rfl, v, hp, hr, kp_of_below (Below.refl _ _) _, .inl rfl⟩
  · rcases hr.2 with ⟨_, h⟩ | ⟨g, cap, cur, rfl, _⟩
    · omega
    · refine (cut_some w base p g cap l x hp hr hb k h0 hk hn).mono ?_
      rintro e w' ⟨rfl, v', h1, h2, h3, h4⟩
      exact ⟨rfl, v', h1, h2, h3, .inr h4⟩

/-- A reader at block p: what is left lies in a row of its own. -/
structure Rdr (base : Nat) (w : World) (p : Nat) (v : Value) (s : St) (es : List Addr) : Prop where
  lo : base ≤ p
  var : w.heap[p]? = some (.cells #[v, erv es s.k] 58 (0, 0))
  row : w.ownsRow base 5 1 v s.l.length (bc s.l)
  ne : v.ownBlock ≠ some p

theorem Rdr.lt {base : Nat} {w : World} {p : Nat} {v : Value} {s : St} {es : List Addr} (h : Rdr base w p v s es) : p < w.heap.size := (Array.getElem?_eq_some_iff.1 h.var).1

/-- The blocks that Feed may turn. -/
def own (p : Nat) (v : Value) : List Nat := p :: v.ownBlock.toList

theorem own_mem {p : Nat} {v : Value} {k : Nat} : k ∈ own p v ↔ k = p ∨ v.ownBlock = some k := by
  rw [own, List.mem_cons]
  cases h : v.ownBlock with
  | none => simp
  | some g => simp [eq_comm]

theorem Rdr.kept {base : Nat} {w w' : World} {p : Nat} {v : Value} {s : St} {es : List Addr} {X : List Nat} (h : Rdr base w p v s es) (hk : Kp X w w') (hX : ∀ k ∈ own p v, k ∉ X) : Rdr base w' p v s es :=
  ⟨h.lo, hk.var h.var (hX p (own_mem.2 (.inl rfl))), hk.row h.row (fun k hk => hX k (own_mem.2 (.inr hk))), h.ne⟩

theorem Rdr.own_lo {base : Nat} {w : World} {p : Nat} {v : Value} {s : St} {es : List Addr} (h : Rdr base w p v s es) : ∀ k ∈ own p v, base ≤ k := fun k hk => by
  rcases own_mem.1 hk with rfl | hk
  · exact h.lo
  · exact (h.row.lt k hk).1

/-- Feed's answer: the messages' row is new; what is left lies where it lay, or in a new row. -/
def Fed (w0 w : World) (p : Nat) (v : Value) (s : St) (b : List UInt8) (es : List Addr) (w' : World) (r v' : Value) : Prop :=
  w'.ownsRow w.heap.size 46 3 r (fdM s b).length (rcs (fdM s b)) ∧ Rdr w0.heap.size w' p v' (fdS s b) es ∧ Kp (own p v) w w' ∧ (∀ k, v'.ownBlock = some k → v.ownBlock = some k ∨ w.heap.size ≤ k) ∧ (∀ k, r.ownBlock = some k → v'.ownBlock ≠ some k)

set_option maxRecDepth 100000 in
theorem feed_wrong (w : World) (p : Nat) (v : Value) (x : Addr) (a : Option Addr) (n c : Nat) (hp : w.heap[p]? = some (.cells #[v, .iface 85 (.pointer (some x))] 58 (0, 0))) :
    Calls Tryd.prog 9 #[.pointer (some ⟨p, 0, none⟩), .slice a n c] w fun e w' => e = .returned (.tuple #[.slice none 0 0, .iface 85 (.pointer (some x))]) ∧ ∃ q, w' = w.drewN q := by
  have c1 : w.cell? ⟨p, 1, none⟩ = some (.iface 85 (.pointer (some x))) := by rw [Lib.cell_of_heap hp]; rfl
  clear hp
  go_enter Tryd.func9, Tryd.ntmps9
  go_wp2
  go_quiet (fail)
  go_wp2
  go_ret2
  exact ⟨rfl, _, rfl⟩

/-- Behind the append. -/
structure Ap (w0 w : World) (p : Nat) (v : Value) (L : List UInt8) (es : List Addr) (W : World) (v1 : Value) : Prop where
  rdr : Rdr w0.heap.size W p v1 ⟨L, 0⟩ es
  kp : Kp (own p v) w W
  pos : ∀ k, v1.ownBlock = some k → v.ownBlock = some k ∨ w.heap.size ≤ k

theorem ap_of {w0 w : World} {es : List Addr} {p : Nat} {v : Value} {l b : List UInt8} (hR : Rdr w0.heap.size w p v ⟨l, 0⟩ es) {n : Nat} (hn : b.length = n) {v1 : Value} {w1 : World} (o1 : w1.ownsRow w0.heap.size 5 1 v1 (l.length + n) (bc l ++ bc b)) (g1 : w.grownBy w1 v.ownBlock) (hv1 : v1.ownBlock = v.ownBlock ∨ v1.ownBlock = some w.heap.size) :
    (∃ a1 c1, v1 = .slice a1 (l.length + n) c1) ∧ w1.heap[p]? = some (.cells #[v, .nilIface] 58 (0, 0)) ∧ Ap w0 w p v (l ++ b) es (w1.setCell ⟨p, 0, none⟩ v1) v1 := by
  rw [← bc_append] at o1
  have hpl := hR.lt
  have hkp : Kp (own p v) w w1 := (kp_of_grown g1).mono (fun k hk _ => own_mem.2 (.inr (by simpa using hk)))
  have hp1 : w1.heap[p]? = some (.cells #[v, .nilIface] 58 (0, 0)) := by
    rw [g1.block p hpl (fun e => hR.ne e.symm)]
    exact hR.var
  have hne : v1.ownBlock ≠ some p := by
    rcases hv1 with h | h
    · rw [h]; exact hR.ne
    · rw [h]; intro e; simp only [Option.some.injEq] at e; omega
  obtain ⟨a1, c1, hs, _⟩ := rd_of_owns o1
  refine ⟨⟨a1, c1, hs⟩, hp1, ⟨hR.lo, ?_, ?_, hne⟩, hkp.set ⟨p, 0, none⟩ (own_mem.2 (.inl rfl)) _, fun k hk => ?_⟩
  · rw [heap_setCell_same _ _ _ _ _ _ hp1]
    rfl
  · rw [List.length_append, hn]
    exact ownsRow_set o1 _ hne _
  · rcases hv1 with h | h
    · exact .inl (by rw [← h]; exact hk)
    · rw [h] at hk
      simp only [Option.some.injEq] at hk
      exact .inr (by omega)

theorem fed_bad {w0 w W w3 : World} {es : List Addr} {p : Nat} {v v1 r : Value} {l b : List UInt8} (h : Ap w0 w p v (l ++ b) es W v1) (hk : (tk (l ++ b)).2.2 ≠ 0) (hr : w3.ownsRow W.heap.size 46 3 r (tk (l ++ b)).1.length (rcs (tk (l ++ b)).1)) (hb : Below W.heap.size W w3) :
    Fed w0 w p v ⟨l, 0⟩ b es ((w3.setCell ⟨p, 0, none⟩ (.slice none 0 0)).setCell ⟨p, 1, none⟩ (erv es (tk (l ++ b)).2.2)) r (.slice none 0 0) := by
  have hp3 := (kp_of_below hb []).var h.rdr.var (by simp)
  have hpl := h.rdr.lt
  have e1 : fdM ⟨l, 0⟩ b = (tk (l ++ b)).1 := rfl
  have e2 : fdS ⟨l, 0⟩ b = ⟨[], (tk (l ++ b)).2.2⟩ := by
    show (⟨(tk (l ++ b)).2.1, (tk (l ++ b)).2.2⟩ : St) = _
    rw [(tk_err (l ++ b)).2.1 hk]
  have hne : r.ownBlock ≠ some p := fun e => by have := row_lt hr p e; omega
  have hle := h.kp.size
  rw [Fed, e1, e2]
  refine ⟨ownsRow_low (ownsRow_set (ownsRow_set hr _ hne _) _ hne _) hle, ⟨h.rdr.lo, ?_, World.ownsRow_nil _ _ _ _, (by simp [Value.ownBlock])⟩, ?_, (fun k hk => by simp [Value.ownBlock] at hk), fun k _ hh => by simp [Value.ownBlock] at hh⟩
  · rw [heap_setCell_same _ _ _ _ _ _ (heap_setCell_same _ _ _ _ _ _ hp3)]
    rfl
  · exact ((h.kp.trans (kp_of_below hb []) (by simp)).set ⟨p, 0, none⟩ (own_mem.2 (.inl rfl)) _).set ⟨p, 1, none⟩ (own_mem.2 (.inl rfl)) _

theorem fed_good {w0 w W w3 w4 : World} {es : List Addr} {p : Nat} {v v1 r v' : Value} {l b : List UInt8} (h : Ap w0 w p v (l ++ b) es W v1) (hk : (tk (l ++ b)).2.2 = 0) (hr : w3.ownsRow W.heap.size 46 3 r (tk (l ++ b)).1.length (rcs (tk (l ++ b)).1)) (hb : Below W.heap.size W w3)
    (hv : w4.heap[p]? = some (.cells #[v', .nilIface] 58 (0, 0))) (ho : w4.ownsRow w0.heap.size 5 1 v' (tk (l ++ b)).2.1.length (bc (tk (l ++ b)).2.1)) (hk4 : Kp [p] w3 w4) (hv' : v' = v1 ∨ v'.ownBlock = some w3.heap.size) :
    Fed w0 w p v ⟨l, 0⟩ b es w4 r v' := by
  have hpl := h.rdr.lt
  have e1 : fdM ⟨l, 0⟩ b = (tk (l ++ b)).1 := rfl
  have e2 : fdS ⟨l, 0⟩ b = ⟨(tk (l ++ b)).2.1, 0⟩ := by
    show (⟨(tk (l ++ b)).2.1, (tk (l ++ b)).2.2⟩ : St) = _
    rw [hk]
  have hle := h.kp.size
  have hle2 := hb.size
  have hrlt := hr.lt
  rw [Fed, e1, e2]
  refine ⟨ownsRow_low (hk4.row hr (fun k hk hm => ?_)) hle, ⟨h.rdr.lo, hv, ho, ?_⟩, (h.kp.trans (kp_of_below hb []) (by simp)).trans hk4 (fun k hk _ => ?_), fun k hk => ?_, fun k hk => ?_⟩
  · simp only [List.mem_cons, List.not_mem_nil, or_false] at hm
    have := (hrlt k hk).1
    omega
  · rcases hv' with e | e
    · rw [e]; exact h.rdr.ne
    · rw [e]; intro e; simp only [Option.some.injEq] at e; omega
  · simp only [List.mem_cons, List.not_mem_nil, or_false] at hk
    exact own_mem.2 (.inl hk)
  · rcases hv' with e | e
    · exact h.pos k (by rw [← e]; exact hk)
    · rw [e] at hk
      simp only [Option.some.injEq] at hk
      exact .inr (by omega)
  · have h1 := hrlt k hk
    rcases hv' with e | e
    · rw [e]
      intro e3
      have := (h.rdr.row.lt k e3).2
      omega
    · rw [e]
      intro e3
      simp only [Option.some.injEq] at e3
      omega

set_option maxRecDepth 100000 in
set_option maxHeartbeats 1000000 in
theorem feed_ok (w0 w : World) (hb : Below w0.heap.size w0 w) (es : List Addr) (hE : Errs w0 gerrs es) (p : Nat) (v : Value) (l : List UInt8) (hR : Rdr w0.heap.size w p v ⟨l, 0⟩ es) (a : Option Addr) (n c : Nat) (b : List UInt8) (hr : Rd w a n c b) (hn : l.length + n ≤ 1000000) :
    Calls Tryd.prog 9 #[.pointer (some ⟨p, 0, none⟩), .slice a n c] w fun e w' => ∃ r v', e = .returned (.tuple #[r, erv es (fdE ⟨l, 0⟩ b)]) ∧ Fed w0 w p v ⟨l, 0⟩ b es w' r v' := by
  obtain ⟨i0, hi, hz0, hz1, hz2⟩ := info_parts infoU8
  have hpl := hR.lt
  have c0 : w.cell? ⟨p, 0, none⟩ = some v := by rw [Lib.cell_of_heap hR.var]; rfl
  have c1 : w.cell? ⟨p, 1, none⟩ = some .nilIface := by rw [Lib.cell_of_heap hR.var]; rfl
  have HS := hid (hr.src (P := Tryd.prog) Tryd.underlying26)
  have HO : Hid (w.ownsRow w0.heap.size 5 1 v l.length (bc l)) := hR.row
  have hsz := hb.size
  have HA := hid (fun v1 w1 o1 g1 hv1 => ap_of (v1 := v1) (w1 := w1) hR hr.len o1 g1 hv1)
  have hlo := hR.own_lo
  have HT : Hid (∀ W v1, Ap w0 w p v (l ++ b) es W v1 → Calls Tryd.prog 19 #[v1] W fun e w' => ∃ r k, e = .returned (.tuple #[r, .int .i64 (k : Nat), erv es (tk (l ++ b)).2.2]) ∧ w'.ownsRow W.heap.size 46 3 r (tk (l ++ b)).1.length (rcs (tk (l ++ b)).1) ∧ k ≤ (l ++ b).length ∧ ((tk (l ++ b)).2.2 = 0 → (l ++ b).drop k = (tk (l ++ b)).2.1) ∧ Below W.heap.size W w') := fun W v1 h =>
    take_any W w0.heap.size 5 v1 (l ++ b) h.rdr.row (by rw [List.length_append, hr.len]; exact hn) es (hE.below (hb.trans (h.kp.below hsz hlo)))
  have HL : Hid ((l ++ b).length ≤ 1000000) := by rw [Hid, List.length_append, hr.len]; exact hn
  clear hR hr hb hE hlo
  go_enter Tryd.func9, Tryd.ntmps9
  go_wp2_with (at_builtin; refine wpList_append_own_at _ rfl (.tmp 22) (.tmp 23) 26 26 rfl w0.heap.size 5 i0 (.int .u8 0) 1 1 Tryd.underlying26 hi hz0 hz1 hz2 rfl _ _ _ rfl HO.out _ _ _ rfl HS.out (by simp only [maxLen]; omega) (fits1 (by omega)) hsz ?_; intro v1 w1 o1 g1 hv1; obtain ⟨⟨a1, k1, rfl⟩, hp1, hA⟩ := HA.out _ _ o1 g1 hv1; have AP := hid hA; have d0 : w1.cell? ⟨p, 0, none⟩ = some v := (by rw [Lib.cell_of_heap hp1]; rfl); have d1 : w1.cell? ⟨p, 1, none⟩ = some .nilIface := (by rw [Lib.cell_of_heap hp1]; rfl); have df : ∀ j, w1.frozen? ⟨p, j, none⟩ = false := Lib.frozen_of_heap hp1; have dl : p < w1.heap.size := (Array.getElem?_eq_some_iff.1 hp1).1; clear o1 g1 hv1 hp1 hA HA c0 c1 HO HS)
  refine (HT.out _ _ AP.out).mono ?_
  rintro e w3 ⟨r, k, rfl, hr3, hk3, hd3, hb3⟩
  have hp3 := (kp_of_below hb3 []).var AP.out.rdr.var (by simp)
  have e0 : w3.cell? ⟨p, 0, none⟩ = some (.slice a1 (l.length + n) k1) := by rw [Lib.cell_of_heap hp3]; rfl
  have e1 : w3.cell? ⟨p, 1, none⟩ = some .nilIface := by rw [Lib.cell_of_heap hp3]; rfl
  have ef : ∀ j, w3.frozen? ⟨p, j, none⟩ = false := Lib.frozen_of_heap hp3
  have el : p < w3.heap.size := (Array.getElem?_eq_some_iff.1 hp3).1
  clear HT d0 d1 df dl
  by_cases h0 : (tk (l ++ b)).2.2 = 0
  · have HC := hid (cut_any w3 w0.heap.size p _ (l ++ b) .nilIface hp3 ((kp_of_below hb3 []).row AP.out.rdr.row (by simp)) (by have := AP.out.kp.size; have := hb3.size; omega) k hk3 HL.out)
    have HG := hid (fun w4 v' hv ho hk4 hv' => fed_good (w4 := w4) (v' := v') AP.out h0 hr3 hb3 hv ho hk4 hv')
    have HD := hid (hd3 h0)
    have HX : Hid (erv es (fdE ⟨l, 0⟩ b) = .nilIface) := by
      show erv es (tk (l ++ b)).2.2 = _
      rw [h0]
      rfl
    rw [h0, show erv es 0 = Value.nilIface from rfl]
    clear hr3 hk3 hd3 hb3 hp3 AP HL h0
    go_wp2_with fail
    refine HC.out.mono ?_
    rintro e w4 ⟨rfl, v', h1, h2, h3, h4⟩
    rw [HD.out] at h2
    have HF := hid (HG.out w4 v' h1 h2 h3 h4)
    clear HG HC h1 h2 h3 h4 HD
    go_wp2
    go_ret2
    rw [HX.out]
    exact ⟨r, _, rfl, HF.out⟩
  · obtain ⟨K, hK⟩ : ∃ K, (tk (l ++ b)).2.2 = K + 1 := ⟨(tk (l ++ b)).2.2 - 1, by omega⟩
    obtain ⟨x, hx⟩ : ∃ x, erv es (tk (l ++ b)).2.2 = .iface 85 (.pointer (some x)) := by rw [hK]; exact ⟨_, rfl⟩
    have HF := hid (fed_bad AP.out h0 hr3 hb3)
    rw [hx] at HF ⊢
    have HX : Hid (erv es (fdE ⟨l, 0⟩ b) = .iface 85 (.pointer (some x))) := hx
    clear hx hK h0 hr3 hk3 hd3 hb3 hp3 AP HL
    go_wp2
    go_ret2
    rw [HX.out]
    exact ⟨r, _, rfl, HF.out⟩

/-- Feed, whatever the reader. -/
theorem feed_any (w0 w : World) (hb : Below w0.heap.size w0 w) (es : List Addr) (hE : Errs w0 gerrs es) (p : Nat) (v : Value) (s : St) (hk : s.k ≤ 16) (hR : Rdr w0.heap.size w p v s es) (a : Option Addr) (n c : Nat) (b : List UInt8) (hr : Rd w a n c b) (hn : s.l.length + n ≤ 1000000) :
    Calls Tryd.prog 9 #[.pointer (some ⟨p, 0, none⟩), .slice a n c] w fun e w' => ∃ r v', e = .returned (.tuple #[r, erv es (fdE s b)]) ∧ Fed w0 w p v s b es w' r v' := by
  obtain ⟨l, k⟩ := s
  cases k with
  | zero => exact feed_ok w0 w hb es hE p v l hR a n c b hr hn
  | succ k =>
    obtain ⟨x, _, hx, _⟩ := erv_at hE k (by have h : k + 1 ≤ 16 := hk; omega)
    have hv := hR.var
    rw [hx] at hv
    refine (feed_wrong w p v x a n c hv).mono ?_
    rintro e w' ⟨rfl, q, rfl⟩
    have hb' : Below w.heap.size w (w.drewN q) := below_drewN (Below.refl _ _) q
    refine ⟨.slice none 0 0, v, ?_, World.ownsRow_nil _ _ _ _, hR.kept (kp_of_below hb' []) (fun _ _ h => by cases h), kp_of_below hb' _, fun k hk => .inl hk, fun k hk => by simp [Value.ownBlock] at hk⟩
    show Ending.returned (.tuple #[_, _]) = .returned (.tuple #[_, erv es (k + 1)])
    rw [hx]

set_option maxRecDepth 100000 in
theorem new_any (w : World) (es : List Addr) : Calls Tryd.prog 7 #[] w fun e w' => e = .returned (.pointer (some ⟨w.heap.size, 0, none⟩)) ∧ Below w.heap.size w w' ∧ w'.heap.size = w.heap.size + 1 ∧ ∀ base, base ≤ w.heap.size → Rdr base w' w.heap.size (.slice none 0 0) ⟨[], 0⟩ es := by
  go_enter Tryd.func7, Tryd.ntmps7
  go_wp2
  go_ret
  exact ⟨rfl, (Below.refl _ _).alloc (Nat.le_refl _) _, by simp, fun base hb => ⟨hb, heap_alloc_new w _, World.ownsRow_nil _ _ _ _, by simp [Value.ownBlock]⟩⟩

set_option maxRecDepth 100000 in
theorem left_any (w : World) (base p : Nat) (v : Value) (s : St) (es : List Addr) (hR : Rdr base w p v s es) : Calls Tryd.prog 13 #[.pointer (some ⟨p, 0, none⟩)] w fun e w' => e = .returned (.int .i64 (s.l.length : Nat)) ∧ w' = w := by
  obtain ⟨a, c, rfl, _, _⟩ := rd_of_owns hR.row
  have c0 : w.cell? ⟨p, 0, none⟩ = some (.slice a s.l.length c) := by rw [Lib.cell_of_heap hR.var]; rfl
  generalize s.l.length = m at *
  clear hR
  go_enter Tryd.func13, Tryd.ntmps13
  go_wp2
  go_ret
  exact ⟨rfl, rfl⟩

theorem bytes_any (w : World) (a : Option Addr) (n c : Nat) (b : List UInt8) (hr : Rd w a n c b) (hn : n ≤ 1000000) : Calls Tryd.prog 10 #[.slice a n c] w fun e w' => ∃ a' c', e = .returned (.slice a' n c') ∧ Rd w' a' n c' b ∧ Below w.heap.size w w' ∧ ∀ x, a' = some x → w.heap.size ≤ x.block := by
  obtain ⟨i0, hi, hz0, hz1, hz2⟩ := info_parts infoU8
  have HS := hid (hr.src (P := Tryd.prog) Tryd.underlying26)
  clear hr
  go_enter Tryd.func10, Tryd.ntmps10
  go_wp2_with (at_builtin; refine wpList_append_own_at _ rfl (.const (.slice none 0 0)) (.tmp 3) 26 26 rfl w.heap.size 5 i0 (.int .u8 0) 1 1 Tryd.underlying26 hi hz0 hz1 hz2 rfl _ 0 [] rfl (World.ownsRow_nil _ _ _ _) _ _ _ rfl HS.out (by simp only [maxLen]; omega) (fits1 (by omega)) (Nat.le_refl _) ?_; intro v1 w1 o1 g1 hv1)
  rw [Nat.zero_add, List.nil_append] at o1
  obtain ⟨a1, k1, rfl, h1, h2⟩ := rd_of_owns o1
  go_wp2
  go_ret
  exact ⟨a1, k1, rfl, h1, (Below.refl _ _).grown g1 (Nat.le_refl _) (fun k hk => by cases hk), fun x hx => (h2 x hx).1⟩
end Go.Proofs.YtfbebifbfpkdaaaDoor
