/- The program's windows in memory: a map of blocks, each with its step and a row of serials of its own. -/
import Derived.Test.YtnlaegleekghmaaDoorShA
import Derived.Test.YtnlaegleekghmaaDoorLibO
import Derived.Test.YtnlaegleekghmaaDoorLibE
namespace Go.Proofs.YtnlaegleekghmaaDoor
open Go Go.RowKit

/-- The errors of the shell: ErrObject, ErrRole, ErrState, ErrSerial. -/
structure We (w : World) (es : List Addr) : Prop where
  obj : w.cell? ⟨4, 0, none⟩ = some (erv es 5)
  rol : w.cell? ⟨9, 0, none⟩ = some (erv es 10)
  sta : w.cell? ⟨11, 0, none⟩ = some (erv es 12)
  ser : w.cell? ⟨12, 0, none⟩ = some (erv es 13)
theorem We.kb {w w' : World} {es : List Addr} {B : Nat} (h : We w es) (hb : Below B w w') (hn : 16 ≤ B) : We w' es :=
  ⟨by rw [hb.cell (p := ⟨4, 0, none⟩) (Nat.lt_of_lt_of_le (by decide) hn)]; exact h.obj, by rw [hb.cell (p := ⟨9, 0, none⟩) (Nat.lt_of_lt_of_le (by decide) hn)]; exact h.rol,
   by rw [hb.cell (p := ⟨11, 0, none⟩) (Nat.lt_of_lt_of_le (by decide) hn)]; exact h.sta, by rw [hb.cell (p := ⟨12, 0, none⟩) (Nat.lt_of_lt_of_le (by decide) hn)]; exact h.ser⟩
theorem We.on {w w' : World} {es : List Addr} (h : We w es) (hb : Below w.heap.size w w') : We w' es :=
  ⟨by rw [hb.cell (World.block_lt_of_cell? w _ h.obj)]; exact h.obj, by rw [hb.cell (World.block_lt_of_cell? w _ h.rol)]; exact h.rol,
   by rw [hb.cell (World.block_lt_of_cell? w _ h.sta)]; exact h.sta, by rw [hb.cell (World.block_lt_of_cell? w _ h.ser)]; exact h.ser⟩
theorem We.drewN {w : World} {es : List Addr} (h : We w es) (q : Nat) : We (w.drewN q) es := h.on (below_drewN (Below.refl _ _) q)
theorem we_of {w : World} {es : List Addr} (h : Errs w gerrs es) : We w es := by
  have hl : es.length = 16 := h.len
  have each : ∀ i g, gerrs[i]? = some g → i < 16 → w.cell? ⟨g, 0, none⟩ = some (erv es (i + 1)) := fun i g hg hi => by
    have := (h.each i g _ hg (List.getElem?_eq_getElem (by omega))).1
    rw [this, erv, List.getD, List.getElem?_eq_getElem (by omega)]
    rfl
  exact ⟨each 4 _ rfl (by decide), each 9 _ rfl (by decide), each 11 _ rfl (by decide), each 12 _ rfl (by decide)⟩

/-- A window of the program: its block, its serials' slice, what it is. -/
structure Pw where
  g : Nat
  a : Option Addr
  n : Nat
  c : Nat
  s : Wn
abbrev Pwl := List (Int × Pw)
def wab (L : Pwl) : Wo := L.map fun e => (e.1, e.2.s)
theorem wab_keys (L : Pwl) : keys (wab L) = keys L := by simp [wab, keys]
theorem wab_length (L : Pwl) : (wab L).length = L.length := by simp [wab]
theorem gt_wab (L : Pwl) (x : Int) : gt (wab L) x = (gt L x).map fun e => e.s := by
  induction L with
  | nil => rfl
  | cons e L ih =>
    rw [wab, List.map_cons, gt, gt]
    split
    · rfl
    · exact ih
theorem wab_st (L : Pwl) (id : Int) (e : Pw) : wab (st L id e) = st (wab L) id e.s := by
  rw [wab, st, st, wab, List.map_map, List.map_map]
  refine List.map_congr_left fun e _ => ?_
  simp only [Function.comp]
  split <;> rfl
theorem wab_rm (L : Pwl) (id : Int) : wab (rm L id) = rm (wab L) id := by
  rw [wab, wab, rm, rm, List.filter_map]
  rfl
def wmp (L : Pwl) : List (Int × Option Nat) := L.map fun e => (e.1, some e.2.g)
theorem wmp_keys (L : Pwl) : keys (wmp L) = keys L := by simp [wmp, keys]
theorem wmp_length (L : Pwl) : (wmp L).length = L.length := by simp [wmp]
theorem gt_wmp (L : Pwl) (x : Int) : gt (wmp L) x = (gt L x).map fun e => some e.g := by
  induction L with
  | nil => rfl
  | cons e L ih =>
    rw [wmp, List.map_cons, gt, gt]
    split
    · rfl
    · exact ih
theorem gt_of_memw {α : Type} {l : List (Int × α)} (hn : (keys l).Nodup) {x : Int × α} (hx : x ∈ l) : gt l x.1 = some x.2 := by
  induction l with
  | nil => cases hx
  | cons e l ih =>
    rw [keys, List.map_cons, List.nodup_cons] at hn
    rw [gt]
    rcases List.mem_cons.1 hx with rfl | hx
    · rw [if_pos rfl]
    · rw [if_neg (fun he => hn.1 (by rw [he]; exact List.mem_map_of_mem (f := fun e : Int × α => e.1) hx))]
      exact ih hn.2 hx
theorem wmp_st {L : Pwl} {id : Int} {e e' : Pw} (hn : (keys L).Nodup) (hs : gt L id = some e) (hg : e'.g = e.g) : wmp (st L id e') = wmp L := by
  rw [wmp, wmp, st, List.map_map]
  refine List.map_congr_left fun x hx => ?_
  simp only [Function.comp]
  split
  · rename_i h
    have : gt L x.1 = some x.2 := gt_of_memw hn hx
    rw [h, hs] at this
    cases this
    rw [← h, hg]
  · rfl
theorem wmp_rm (L : Pwl) (id : Int) : wmp (rm L id) = rm (wmp L) id := by
  rw [wmp, wmp, rm, rm, List.filter_map]
  rfl

/-- A pointer to a block, as the map's value. -/
def pwv : Option Nat → Value
  | none => .pointer none
  | some g => .pointer (some ⟨g, 0, none⟩)
def pwd : Option Nat → DataW Unit
  | none => .nil
  | some g => .agg [.lit (.int .i64 g)]
def pwR : Value → Option (DataW Unit × List MemPlace)
  | .pointer none => some (.nil, [])
  | .pointer (some ⟨g, 0, none⟩) => some (.agg [.lit (.int .i64 g)], [])
  | _ => none
theorem pwR_mk (q : Option Nat) : pwR (pwv q) = some (pwd q, []) := by
  cases q with
  | none => rfl
  | some q => simp [pwR, pwv, pwd]
theorem pwR_inv {x : Value} {q : Option Nat} {ps : List MemPlace} (h : pwR x = some (pwd q, ps)) : x = pwv q := by
  unfold pwR at h
  split at h
  · cases q with
    | none => rfl
    | some q => simp [pwd] at h
  · rename_i g
    cases q with
    | none => simp [pwd] at h
    | some q =>
      simp only [pwd, Option.some.injEq, Prod.mk.injEq, DataW.agg.injEq, List.cons.injEq, DataW.lit.injEq, Lit.int.injEq, true_and, and_true] at h
      have e1 : g = q := by omega
      rw [e1]
      rfl
  · cases h

/-- The blocks of a window. -/
def wbk (e : Pw) : List Nat := e.g :: obk e.a
/-- The shell: its struct in the block p, its map m, its windows L. -/
structure Sh (base : Nat) (w : World) (p m : Nat) (L : Pwl) : Prop where
  lop : base ≤ p
  lom : base ≤ m
  ne : p ≠ m
  obj : w.heap[p]? = some (.cells #[.map (some m)] 59 (0, 0))
  own : ∃ D, w.ownsMap Tryd.prog 3 pwR m L.length D ∧ Rp pwd none D (wmp L)
  nd : (keys L).Nodup
  win : ∀ x e, gt L x = some e → w.heap[e.g]? = some (.cells #[.int .i64 e.s.step, .slice e.a e.n e.c] 64 (0, 0))
  row : ∀ x e, gt L x = some e → Oz base w e.a e.n e.c e.s.ser
  sep : ∀ x e, gt L x = some e → base ≤ e.g ∧ e.g ∉ obk e.a ∧ ∀ b ∈ wbk e, b ≠ p ∧ b ≠ m
  sep2 : ∀ x y e e', gt L x = some e → gt L y = some e' → x ≠ y → ∀ b ∈ wbk e, b ∉ wbk e'
/-- All its blocks. -/
def wbl (p m : Nat) (L : Pwl) : List Nat := p :: m :: L.flatMap fun e => wbk e.2
variable {base : Nat} {w w' : World} {p m : Nat} {L L' : Pwl} {F : Wo} {id : Int} {e : Pw}
theorem mem_wbl (hn : (keys L).Nodup) {b : Nat} : b ∈ wbl p m L ↔ b = p ∨ b = m ∨ ∃ x e, gt L x = some e ∧ b ∈ wbk e := by
  rw [wbl, List.mem_cons, List.mem_cons, List.mem_flatMap]
  refine or_congr_right (or_congr_right ⟨?_, ?_⟩)
  · rintro ⟨e, he, hb⟩
    exact ⟨e.1, e.2, gt_of_memw hn he, hb⟩
  · rintro ⟨x, e, he, hb⟩
    exact ⟨(x, e), gt_mem he, hb⟩
theorem mem_wbk {b : Nat} : b ∈ wbk e ↔ b = e.g ∨ b ∈ obk e.a := by rw [wbk, List.mem_cons]
theorem Sh.lt (h : Sh base w p m L) : p < w.heap.size ∧ m < w.heap.size := by
  obtain ⟨D, h1, _⟩ := h.own
  exact ⟨(Array.getElem?_eq_some_iff.1 h.obj).1, h1.lt⟩
theorem Sh.wlt (h : Sh base w p m L) {x : Int} {e : Pw} (he : gt L x = some e) {b : Nat} (hb : b ∈ wbk e) : base ≤ b ∧ b < w.heap.size := by
  rcases mem_wbk.1 hb with rfl | hb
  · exact ⟨(h.sep x e he).1, (Array.getElem?_eq_some_iff.1 (h.win x e he)).1⟩
  · exact (h.row x e he).lt hb
theorem Sh.blt (h : Sh base w p m L) {b : Nat} (hb : b ∈ wbl p m L) : base ≤ b ∧ b < w.heap.size := by
  rcases (mem_wbl h.nd).1 hb with rfl | rfl | ⟨x, e, he, hb⟩
  · exact ⟨h.lop, h.lt.1⟩
  · exact ⟨h.lom, h.lt.2⟩
  · exact h.wlt he hb
theorem wown_kp {X : List Nat} {b n : Nat} {D : DataW Unit} (h : w.ownsMap Tryd.prog 3 pwR b n D) (hk : Kp X w w') (hX : b ∉ X) : w'.ownsMap Tryd.prog 3 pwR b n D := by
  obtain ⟨es, clock, hb, F, hs, hD⟩ := h
  exact ⟨es, clock, hk.var hb hX, F, hs, hD⟩
/-- It stays where none of its blocks is written. -/
theorem Sh.kept (h : Sh base w p m L) {X : List Nat} (hk : Kp X w w') (hX : ∀ b ∈ wbl p m L, b ∉ X) : Sh base w' p m L := by
  obtain ⟨D, h1, h2⟩ := h.own
  have hw : ∀ x e, gt L x = some e → ∀ b ∈ wbk e, b ∉ X := fun x e he b hb => hX b ((mem_wbl h.nd).2 (.inr (.inr ⟨x, e, he, hb⟩)))
  exact ⟨h.lop, h.lom, h.ne, hk.var h.obj (hX p (by simp [wbl])), ⟨D, wown_kp h1 hk (hX m (by simp [wbl])), h2⟩, h.nd, fun x e he => hk.var (h.win x e he) (hw x e he e.g (mem_wbk.2 (.inl rfl))), fun x e he => (h.row x e he).kp hk (fun b hb => hw x e he b (mem_wbk.2 (.inr hb))), h.sep, h.sep2⟩
theorem Sh.on (h : Sh base w p m L) (hb : Below w.heap.size w w') : Sh base w' p m L := h.kept (kp_of_below hb []) (by simp)
theorem Sh.drewN (h : Sh base w p m L) (q : Nat) : Sh base (w.drewN q) p m L := h.on (below_drewN (Below.refl _ _) q)
theorem Sh.c0 (h : Sh base w p m L) : w.cell? ⟨p, 0, none⟩ = some (.map (some m)) := by rw [Lib.cell_of_heap h.obj]; rfl
theorem Sh.cs (h : Sh base w p m L) {x : Int} (he : gt L x = some e) : w.cell? ⟨e.g, 0, none⟩ = some (.int .i64 e.s.step) ∧ w.cell? ⟨e.g, 1, none⟩ = some (.slice e.a e.n e.c) := by
  rw [Lib.cell_of_heap (h.win x e he), Lib.cell_of_heap (h.win x e he)]
  exact ⟨rfl, rfl⟩
theorem Sh.fz (h : Sh base w p m L) {x : Int} (he : gt L x = some e) (j : Nat) : w.frozen? ⟨e.g, j, none⟩ = false := Lib.frozen_of_heap (h.win x e he) j

/-- What a call leaves. -/
structure ShR (base : Nat) (w : World) (p m : Nat) (L : Pwl) (F : Wo) (w' : World) (L' : Pwl) : Prop where
  sh : Sh base w' p m L'
  ab : wab L' = F
  kp : Kp (wbl p m L) w w'
  new : ∀ b ∈ wbl p m L', b ∈ wbl p m L ∨ w.heap.size ≤ b
theorem ShR.refl (h : Sh base w p m L) (hb : Below w.heap.size w w') : ShR base w p m L (wab L) w' L := ⟨h.on hb, rfl, kp_of_below hb _, fun _ hb => .inl hb⟩
theorem ShR.as {F' : Wo} (h : ShR base w p m L F w' L') (e : F = F') : ShR base w p m L F' w' L' := e ▸ h
/-- A window turned. -/
theorem Sh.turn (h : Sh base w p m L) (he : gt L id = some e) {X : List Nat} (hk : Kp X w w') (hX : ∀ b ∈ X, b ∈ wbk e) (e' : Pw) (hg : e'.g = e.g)
    (hwin : w'.heap[e.g]? = some (.cells #[.int .i64 e'.s.step, .slice e'.a e'.n e'.c] 64 (0, 0))) (hrow : Oz base w' e'.a e'.n e'.c e'.s.ser)
    (hw : ∀ b ∈ obk e'.a, b ∈ obk e.a ∨ w.heap.size ≤ b) : ShR base w p m L (st (wab L) id e'.s) w' (st L id e') := by
  obtain ⟨hlp, hlm⟩ := h.lt
  have hgt : ∀ x e1, gt (st L id e') x = some e1 → (x = id ∧ e1 = e') ∨ (x ≠ id ∧ gt L x = some e1) := fun x e1 hx => by
    rw [gt_st] at hx
    split at hx
    · rename_i hxi
      rw [he] at hx
      exact .inl ⟨hxi, by cases hx; rfl⟩
    · rename_i hxi
      exact .inr ⟨hxi, hx⟩
  have hold : ∀ x e1, x ≠ id → gt L x = some e1 → ∀ b ∈ wbk e1, b ∉ X := fun x e1 hx he1 b hb hm => h.sep2 x id e1 e he1 he hx b hb (hX b hm)
  have hnew : ∀ b ∈ wbk e', b ∈ wbk e ∨ w.heap.size ≤ b := fun b hb => by
    rcases mem_wbk.1 hb with rfl | hb
    · exact .inl (mem_wbk.2 (.inl hg))
    · exact (hw b hb).imp (fun h => mem_wbk.2 (.inr h)) (fun h => h)
  have hpm : ∀ b ∈ wbk e', b ≠ p ∧ b ≠ m := fun b hb => by
    rcases hnew b hb with h1 | h1
    · exact (h.sep id e he).2.2 b h1
    · exact ⟨by omega, by omega⟩
  have hXpm : ∀ b ∈ X, b ≠ p ∧ b ≠ m := fun b hb => (h.sep id e he).2.2 b (hX b hb)
  obtain ⟨D, h1, h2⟩ := h.own
  have hnd : (keys (st L id e')).Nodup := by rw [keys_st]; exact h.nd
  refine ⟨⟨h.lop, h.lom, h.ne, hk.var h.obj (fun hm => (hXpm p hm).1 rfl), ⟨D, ?_, ?_⟩, hnd, fun x e1 hx => ?_, fun x e1 hx => ?_, fun x e1 hx => ?_, fun x y e1 e2 h1 h2 hne b hb1 => ?_⟩, wab_st _ _ _, hk.mono (fun b hb _ => (mem_wbl h.nd).2 (.inr (.inr ⟨id, e, he, hX b hb⟩))), fun b hb => ?_⟩
  · rw [show (st L id e').length = L.length by simp [st]]
    exact wown_kp h1 hk (fun hm => (hXpm m hm).2 rfl)
  · rw [wmp_st (e' := e') h.nd he hg]
    exact h2
  · rcases hgt x e1 hx with ⟨rfl, rfl⟩ | ⟨hne, hx⟩
    · rw [hg]
      exact hwin
    · exact hk.var (h.win x e1 hx) (hold x e1 hne hx e1.g (mem_wbk.2 (.inl rfl)))
  · rcases hgt x e1 hx with ⟨rfl, rfl⟩ | ⟨hne, hx⟩
    · exact hrow
    · exact (h.row x e1 hx).kp hk (fun b hb => hold x e1 hne hx b (mem_wbk.2 (.inr hb)))
  · rcases hgt x e1 hx with ⟨rfl, rfl⟩ | ⟨hne, hx⟩
    · refine ⟨by rw [hg]; exact (h.sep x e he).1, fun hm => ?_, hpm⟩
      rw [hg] at hm
      rcases hw _ hm with h3 | h3
      · exact (h.sep x e he).2.1 h3
      · have := (h.wlt he (mem_wbk.2 (.inl rfl))).2
        omega
    · exact h.sep x e1 hx
  · rcases hgt x e1 h1 with ⟨rfl, rfl⟩ | ⟨hne1, g1⟩
    · rcases hgt y e2 h2 with ⟨rfl, _⟩ | ⟨hne2, g2⟩
      · exact absurd rfl hne
      · rcases hnew b hb1 with hb' | hb'
        · exact h.sep2 x y e e2 he g2 hne b hb'
        · exact fun hm => by
            have := (h.wlt g2 hm).2
            omega
    · rcases hgt y e2 h2 with ⟨rfl, rfl⟩ | ⟨hne2, g2⟩
      · exact fun hm => by
          rcases hnew b hm with hb' | hb'
          · exact h.sep2 x y e1 e g1 he hne b hb1 hb'
          · have := (h.wlt g1 hb1).2
            omega
      · exact h.sep2 x y e1 e2 g1 g2 hne b hb1
  · rcases (mem_wbl hnd).1 hb with rfl | rfl | ⟨x, e1, h3, h4⟩
    · exact .inl (by simp [wbl])
    · exact .inl (by simp [wbl])
    · rcases hgt x e1 h3 with ⟨rfl, rfl⟩ | ⟨_, g1⟩
      · exact (hnew b h4).imp (fun h5 => (mem_wbl h.nd).2 (.inr (.inr ⟨x, e, he, h5⟩))) (fun h => h)
      · exact .inl ((mem_wbl h.nd).2 (.inr (.inr ⟨x, e1, g1, h4⟩)))
/-- A window's cells written, one after the other; w0: where the call began. -/
theorem Sh.putStep {w0 : World} (h : Sh base w0 p m L) (he : gt L id = some e) (hb : Below w0.heap.size w0 w) (k : Nat) : ShR base w0 p m L (st (wab L) id ⟨k, e.s.ser⟩) (w.setCell ⟨e.g, 0, none⟩ (.int .i64 k)) (st L id { e with s := ⟨k, e.s.ser⟩ }) := by
  have hw := h.on hb
  have hk : Kp [e.g] w0 (w.setCell ⟨e.g, 0, none⟩ (.int .i64 k)) := (kp_of_below hb [e.g]).set ⟨e.g, 0, none⟩ (by simp) _
  refine h.turn he hk (fun b hb => by simp only [List.mem_singleton] at hb; rw [hb]; exact mem_wbk.2 (.inl rfl)) { e with s := ⟨k, e.s.ser⟩ } rfl ?_ ((h.row id e he).kp hk (fun b hb hm => ?_)) (fun b hb => .inl hb)
  · exact heap_setCell_same _ e.g 0 _ _ _ (hw.win id e he)
  · simp only [List.mem_singleton] at hm
    rw [hm] at hb
    exact (h.sep id e he).2.1 hb
theorem Sh.putBoth {w0 : World} (h : Sh base w0 p m L) (he : gt L id = some e) (hb : Below w0.heap.size w0 w) (k : Nat) : ShR base w0 p m L (st (wab L) id ⟨k, []⟩) ((w.setCell ⟨e.g, 0, none⟩ (.int .i64 k)).setCell ⟨e.g, 1, none⟩ (.slice none 0 0)) (st L id { e with a := none, n := 0, c := 0, s := ⟨k, []⟩ }) := by
  have hw := h.on hb
  have hk : Kp [e.g] w0 ((w.setCell ⟨e.g, 0, none⟩ (.int .i64 k)).setCell ⟨e.g, 1, none⟩ (.slice none 0 0)) := ((kp_of_below hb [e.g]).set ⟨e.g, 0, none⟩ (by simp) _).set ⟨e.g, 1, none⟩ (by simp) _
  refine h.turn he hk (fun b hb => by simp only [List.mem_singleton] at hb; rw [hb]; exact mem_wbk.2 (.inl rfl)) { e with a := none, n := 0, c := 0, s := ⟨k, []⟩ } rfl ?_ (Oz.nil _ _) (fun b hb => by simp [obk] at hb)
  exact heap_setCell_same _ e.g 1 _ _ _ (heap_setCell_same _ e.g 0 _ _ _ (hw.win id e he))
/-- Serials that grew, stored. -/
theorem Sh.putSer {w0 w1 : World} (h : Sh base w0 p m L) (he : gt L id = some e) (hb : Below w0.heap.size w0 w) {a' : Option Addr} {n' c' : Nat} {l' : List Int} (ho : Oz base w1 a' n' c' l') (hk1 : Kp (obk e.a) w w1) (hn : ∀ b ∈ obk a', b ∈ obk e.a ∨ w0.heap.size ≤ b) :
    ShR base w0 p m L (st (wab L) id ⟨e.s.step, l'⟩) (w1.setCell ⟨e.g, 1, none⟩ (.slice a' n' c')) (st L id { e with a := a', n := n', c := c', s := ⟨e.s.step, l'⟩ }) := by
  have hw := h.on hb
  have hge := (h.sep id e he).2.1
  have hk2 : Kp (wbk e) w0 w1 := (kp_of_below hb (wbk e)).trans hk1 (fun b hb _ => mem_wbk.2 (.inr hb))
  have hk : Kp (wbk e) w0 (w1.setCell ⟨e.g, 1, none⟩ (.slice a' n' c')) := hk2.set ⟨e.g, 1, none⟩ (mem_wbk.2 (.inl rfl)) _
  have hglt := (h.wlt he (mem_wbk.2 (.inl rfl))).2
  have hga : e.g ∉ obk a' := fun hm => by
    rcases hn _ hm with h1 | h1
    · exact hge h1
    · omega
  refine h.turn he hk (fun b hb => hb) { e with a := a', n := n', c := c', s := ⟨e.s.step, l'⟩ } rfl ?_ (ho.kp ((Kp.refl [e.g] w1).set ⟨e.g, 1, none⟩ (by simp) _) (fun b hb hm => ?_)) hn
  · exact heap_setCell_same _ e.g 1 _ _ _ (hk1.var (hw.win id e he) hge)
  · simp only [List.mem_singleton] at hm
    rw [hm] at hb
    exact hga hb
/-- Serials and the step. -/
theorem Sh.putCut {w0 : World} (h : Sh base w0 p m L) (he : gt L id = some e) (hb : Below w0.heap.size w0 w) (k : Nat) (hk : k ≤ e.n) (s : Nat) (W : World) (hW : W = ((w.setCell ⟨e.g, 1, none⟩ (.slice (cutO e.a e.c k) (e.n - k) (e.c - k))).setCell ⟨e.g, 0, none⟩ (.int .i64 s)) ∨ W = w.setCell ⟨e.g, 1, none⟩ (.slice (cutO e.a e.c k) (e.n - k) (e.c - k)) ∧ s = e.s.step) :
    ShR base w0 p m L (st (wab L) id ⟨s, e.s.ser.drop k⟩) W (st L id { e with a := cutO e.a e.c k, n := e.n - k, c := e.c - k, s := ⟨s, e.s.ser.drop k⟩ }) := by
  have hw := h.on hb
  have hge := (h.sep id e he).2.1
  have hk : Kp [e.g] w W := by
    rcases hW with rfl | ⟨rfl, _⟩
    · exact ((Kp.refl [e.g] w).set ⟨e.g, 1, none⟩ (by simp) _).set ⟨e.g, 0, none⟩ (by simp) _
    · exact (Kp.refl [e.g] w).set ⟨e.g, 1, none⟩ (by simp) _
  have hk0 : Kp [e.g] w0 W := (kp_of_below hb [e.g]).trans hk (fun b hb _ => hb)
  refine h.turn he hk0 (fun b hb => by simp only [List.mem_singleton] at hb; rw [hb]; exact mem_wbk.2 (.inl rfl)) { e with a := cutO e.a e.c k, n := e.n - k, c := e.c - k, s := ⟨s, e.s.ser.drop k⟩ } rfl ?_ (((hw.row id e he).cut k (by omega)).kp hk (fun b hb hm => ?_)) (fun b hb => .inl (by rw [obk_cutO] at hb; exact hb))
  · rcases hW with rfl | ⟨rfl, rfl⟩
    · exact heap_setCell_same _ e.g 0 _ _ _ (heap_setCell_same _ e.g 1 _ _ _ (hw.win id e he))
    · exact heap_setCell_same _ e.g 1 _ _ _ (hw.win id e he)
  · simp only [List.mem_singleton] at hm
    rw [obk_cutO, hm] at hb
    exact hge hb
/-- A new window. -/
theorem Sh.add {w0 : World} (h : Sh base w0 p m L) (hn : gt L id = none) (hb : Below w0.heap.size w0 w) {g : Nat} (hg : w0.heap.size ≤ g) (hB : w.heap[g]? = some (.cells #[.int .i64 0, .slice none 0 0] 64 (0, 0)))
    {D : DataW Unit} (hD : Rp pwd none D (wmp L)) {n : Nat} (hm : w'.ownsMap Tryd.prog 3 pwR m n (D.put (.int .i64 id) (pwd (some g)))) (hDm : Maps.IsMap D) (ht : w.mapTurned w' m) :
    ShR base w0 p m L (wab L ++ [(id, ⟨0, []⟩)]) w' (L ++ [(id, ⟨g, none, 0, 0, ⟨0, []⟩⟩)]) := by
  have hk := kp_turned ht
  obtain ⟨hlp, hlm⟩ := h.lt
  have hlo := h.lop
  have hW := h.on hb
  have hk0 : Kp [m] w0 w' := (kp_of_below hb [m]).trans hk (fun b hb _ => hb)
  obtain ⟨E, hE⟩ : ∃ E : Pw, E = ⟨g, none, 0, 0, ⟨0, []⟩⟩ := ⟨_, rfl⟩
  rw [← hE]
  have hgt : ∀ x e', gt (L ++ [(id, E)]) x = some e' → (x = id ∧ e' = E) ∨ (x ≠ id ∧ gt L x = some e') := fun x e' hx => by
    rw [gt_app] at hx
    by_cases hxi : x = id
    · subst hxi
      rw [hn] at hx
      simp only [Option.isSome_none, Bool.false_eq_true, if_false, if_true, Option.some.injEq] at hx
      exact .inl ⟨rfl, hx.symm⟩
    · refine .inr ⟨hxi, ?_⟩
      split at hx
      · exact hx
      · rw [if_neg (fun e => hxi e.symm)] at hx
        cases hx
  have hwr : wr L id E = L ++ [(id, E)] := by rw [wr, hn]; rfl
  have hnd : (keys (L ++ [(id, E)])).Nodup := by rw [← hwr]; exact keys_wr h.nd id E
  have hwb : ∀ b ∈ wbk E, b = g := fun b hb' => by
    subst hE
    simpa [wbk, obk] using hb'
  have hEg : E.g = g := by rw [hE]
  have hmp : wmp (L ++ [(id, E)]) = wr (wmp L) id (some g) := by
    rw [wr, gt_wmp, hn, wmp, wmp, List.map_append, ← hEg]
    rfl
  have hRp : Rp pwd none (D.put (.int .i64 id) (pwd (some g))) (wmp (L ++ [(id, E)])) := by
    rw [hmp]
    exact hD.put hDm id (some g)
  refine ⟨⟨h.lop, h.lom, h.ne, hk0.var h.obj (fun hm => h.ne (by simpa using hm)), ⟨_, ?_, hRp⟩, hnd, fun x e' hx => ?_, fun x e' hx => ?_, fun x e' hx => ?_, fun x y e1 e2 h1 h2 hne b hb1 => ?_⟩, ?_, hk0.mono (fun b hb _ => by simp only [List.mem_singleton] at hb; rw [hb]; simp [wbl]), fun b hb' => ?_⟩
  · have := ptight hm Tryd.underlying3 hRp (by rw [wmp_keys]; exact hnd)
    rw [wmp_length] at this
    exact this
  · rcases hgt x e' hx with ⟨rfl, rfl⟩ | ⟨hne, hx⟩
    · subst hE
      exact hk.var hB (fun hm => by simp only [List.mem_singleton] at hm; omega)
    · exact hk.var (hW.win x e' hx) (fun hm => ((h.sep x e' hx).2.2 e'.g (mem_wbk.2 (.inl rfl))).2 (by simpa using hm))
  · rcases hgt x e' hx with ⟨rfl, rfl⟩ | ⟨hne, hx⟩
    · subst hE
      exact Oz.nil _ _
    · exact (hW.row x e' hx).kp hk (fun b hb' hm => ((h.sep x e' hx).2.2 b (mem_wbk.2 (.inr hb'))).2 (by simpa using hm))
  · rcases hgt x e' hx with ⟨rfl, rfl⟩ | ⟨hne, hx⟩
    · refine ⟨by rw [hEg]; omega, by subst hE; simp [obk], fun b hb' => ?_⟩
      rw [hwb b hb']
      exact ⟨by omega, by omega⟩
    · exact h.sep x e' hx
  · rcases hgt x e1 h1 with ⟨rfl, rfl⟩ | ⟨hne1, g1⟩
    · rcases hgt y e2 h2 with ⟨rfl, _⟩ | ⟨hne2, g2⟩
      · exact absurd rfl hne
      · rw [hwb b hb1]
        exact fun hm => by
          have := (h.wlt g2 hm).2
          omega
    · rcases hgt y e2 h2 with ⟨rfl, rfl⟩ | ⟨hne2, g2⟩
      · exact fun hm => by
          have := (h.wlt g1 hb1).2
          have := hwb b hm
          omega
      · exact h.sep2 x y e1 e2 g1 g2 hne b hb1
  · rw [wab, List.map_append, ← wab]
    subst hE
    rfl
  · rcases (mem_wbl hnd).1 hb' with rfl | rfl | ⟨x, e1, h3, h4⟩
    · exact .inl (by simp [wbl])
    · exact .inl (by simp [wbl])
    · rcases hgt x e1 h3 with ⟨rfl, rfl⟩ | ⟨_, g1⟩
      · exact .inr (by rw [hwb b h4]; exact hg)
      · exact .inl ((mem_wbl h.nd).2 (.inr (.inr ⟨x, e1, g1, h4⟩)))
/-- A window gone. -/
theorem Sh.drop {w0 : World} (h : Sh base w0 p m L) (hb : Below w0.heap.size w0 w) {D : DataW Unit} (hD : Rp pwd none D (wmp L)) {n : Nat} (hm : w'.ownsMap Tryd.prog 3 pwR m n (D.del (.int .i64 id))) (ht : w.mapTurned w' m) :
    ShR base w0 p m L (rm (wab L) id) w' (rm L id) := by
  have hk := kp_turned ht
  have hW := h.on hb
  have hk0 : Kp [m] w0 w' := (kp_of_below hb [m]).trans hk (fun b hb _ => hb)
  have hgt : ∀ x e', gt (rm L id) x = some e' → gt L x = some e' := fun x e' hx => by
    rw [gt_rm] at hx
    split at hx
    · cases hx
    · exact hx
  have hnd := keys_rm h.nd id
  have hRp : Rp pwd none (D.del (.int .i64 id)) (wmp (rm L id)) := by
    rw [wmp_rm]
    exact hD.del id
  refine ⟨⟨h.lop, h.lom, h.ne, hk0.var h.obj (fun hm => h.ne (by simpa using hm)), ⟨_, ?_, hRp⟩, hnd, fun x e' hx => ?_, fun x e' hx => ?_, fun x e' hx => h.sep x e' (hgt x e' hx), fun x y e1 e2 h1 h2 => h.sep2 x y e1 e2 (hgt x e1 h1) (hgt y e2 h2)⟩, wab_rm _ _, hk0.mono (fun b hb _ => by simp only [List.mem_singleton] at hb; rw [hb]; simp [wbl]), fun b hb' => ?_⟩
  · have := ptight hm Tryd.underlying3 hRp (by rw [wmp_keys]; exact hnd)
    rw [wmp_length] at this
    exact this
  · exact hk.var (hW.win x e' (hgt x e' hx)) (fun hm => ((h.sep x e' (hgt x e' hx)).2.2 e'.g (mem_wbk.2 (.inl rfl))).2 (by simpa using hm))
  · exact (hW.row x e' (hgt x e' hx)).kp hk (fun b hb' hm => ((h.sep x e' (hgt x e' hx)).2.2 b (mem_wbk.2 (.inr hb'))).2 (by simpa using hm))
  · rcases (mem_wbl hnd).1 hb' with rfl | rfl | ⟨x, e1, h3, h4⟩
    · exact .inl (by simp [wbl])
    · exact .inl (by simp [wbl])
    · exact .inl ((mem_wbl h.nd).2 (.inr (.inr ⟨x, e1, hgt x e1 h3, h4⟩)))
end Go.Proofs.YtnlaegleekghmaaDoor
