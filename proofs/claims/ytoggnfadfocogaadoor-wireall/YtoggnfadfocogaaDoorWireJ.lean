/- The contract of the program's wire.Get: what it gets, for every message of at most 1000000 bytes and every signature of as many letters. -/
import Derived.Test.YtoggnfadfocogaaDoorWireI
import Derived.Laws.Rows
namespace Go.Proofs.YtoggnfadfocogaaDoor
open Go Go.RowKit

theorem infoArg : (Tryd.prog.info? 60).map (fun i => (i.zero, i.size, i.bytes)) = some (some (.agg #[.int .u8 0, .int .i64 0, .string ⟨#[]⟩]), 3, 32) := by kernel_rfl

theorem fits32 {need : Nat} (h : need ≤ 4000000) : ∀ old, old < need → Builtin.nextslicecap need old * 32 ≤ 281474976710656 := fun old ho => by
  have := nextslicecap_near ho
  omega

/-- Get's memory behind some rounds: the message's variable, and its row. -/
structure GI (w w4 wr : World) (o q : Int) (va : Option Addr) (n c : Nat) (L : List AV) : Prop where
  os : wr.os = w4.os
  tape : wr.tape = w4.tape
  output : wr.output = w4.output
  size : w4.heap.size ≤ wr.heap.size
  block : ∀ i, i < w4.heap.size → i ≠ w.heap.size + 1 + 1 → wr.heap[i]? = w4.heap[i]?
  var : wr.heap[w.heap.size + 1 + 1]? = some (.cells #[.int .i64 o, .int .i64 q, .slice va n c] 24 (0, 0))
  row : wr.ownsRow w4.heap.size 60 3 (.slice va n c) n (acs L)

theorem GI.bel {w w4 wr : World} {o q : Int} {va : Option Addr} {n c : Nat} {L : List AV} (h : GI w w4 wr o q va n c L) (b4 : Below w.heap.size w w4) : Below w.heap.size w wr :=
  ⟨h.os.trans b4.os, h.tape.trans b4.tape, h.output.trans b4.output, Nat.le_trans b4.size h.size, fun i hi => by
    rw [h.block i (Nat.lt_of_lt_of_le hi b4.size) (by omega)]
    exact b4.block i hi⟩

theorem GI.next {w w4 wr w1 : World} {o q : Int} {va : Option Addr} {n c : Nat} {L : List AV} (h : GI w w4 wr o q va n c L) (b : Below wr.heap.size wr w1) : GI w w4 w1 o q va n c L :=
  ⟨b.os.trans h.os, b.tape.trans h.tape, b.output.trans h.output, Nat.le_trans h.size b.size, fun i hi hne => by
    rw [b.block i (Nat.lt_of_lt_of_le hi h.size)]
    exact h.block i hi hne, by
    rw [b.block _ (Array.getElem?_eq_some_iff.1 h.var).1]
    exact h.var, ownsRow_below h.row b⟩

theorem GI.step {w w4 w1 w5 : World} {o q : Int} {va : Option Addr} {n c : Nat} {L : List AV} (h : GI w w4 w1 o q va n c L) (hk : w.heap.size + 1 + 1 < w4.heap.size) (x : AV) (a5 : Option Addr) (c5 : Nat)
    (o5 : w5.ownsRow w4.heap.size 60 3 (.slice a5 (n + 1) c5) (n + 1) (acs L ++ ac x)) (g5 : w1.grownBy w5 (Value.slice va n c).ownBlock) :
    GI w w4 (w5.setCell ⟨w.heap.size + 1 + 1, 2, none⟩ (.slice a5 (n + 1) c5)) o q a5 (n + 1) c5 (L ++ [x]) := by
  have hrow : ∀ k, (Value.slice va n c).ownBlock = some k → w4.heap.size ≤ k := row_lt h.row
  obtain ⟨g1, g2, g3, g4, g6⟩ := g5
  have hv : w5.heap[w.heap.size + 1 + 1]? = some (.cells #[.int .i64 o, .int .i64 q, .slice va n c] 24 (0, 0)) := by
    rw [g6 _ (Nat.lt_of_lt_of_le hk h.size) (fun hb => by have := hrow _ hb.symm; omega)]
    exact h.var
  refine ⟨g1.trans h.os, g2.trans h.tape, g3.trans h.output, by rw [World.size_setCell]; exact Nat.le_trans h.size g4, fun i hi hne => ?_, ?_, ?_⟩
  · rw [heap_setCell_other _ _ _ _ hne, g6 _ (Nat.lt_of_lt_of_le hi h.size) (fun hb => by have := hrow _ hb.symm; omega)]
    exact h.block i hi hne
  · rw [heap_setCell_same _ _ _ _ _ _ hv]
    rfl
  · rw [acs_append, show acs [x] = ac x from List.append_nil _]
    exact ownsRow_setCell_below o5 hk _

/-- The body lies where it lay. -/
theorem GI.body {w w4 wr : World} {o q : Int} {va : Option Addr} {n c : Nat} {L : List AV} (h : GI w w4 wr o q va n c L) {m d : Nat} {b : List UInt8} (hr : Rd w4 (some ⟨w.heap.size + 1 + 1 + 1, 0, none⟩) m d b) (hk : w.heap.size + 1 + 1 + 1 < w4.heap.size) :
    Rd wr (some ⟨w.heap.size + 1 + 1 + 1, 0, none⟩) m d b :=
  ⟨hr.len, hr.le, hr.max, hr.hnil, fun x hx j u hu => by
    cases hx
    have := hr.cells _ rfl j u hu
    rw [Go.WideShapes.add_plain] at this ⊢
    rw [World.cell?, h.block _ hk (by omega)]
    exact this⟩

theorem gets_step (b : List UInt8) (p : Nat) (s : List UInt8) (j : Nat) (z : UInt8) (hz : s[j]? = some z) (h : gaE b p z.toNat = 0) :
    gets b p (s.drop j) = ((gets b (gaX b p z.toNat) (s.drop (j + 1))).1, gaA b p z.toNat :: (gets b (gaX b p z.toNat) (s.drop (j + 1))).2.1, (gets b (gaX b p z.toNat) (s.drop (j + 1))).2.2) := by
  have hj : j < s.length := by
    rcases Nat.lt_or_ge j s.length with h' | h'
    · exact h'
    · rw [List.getElem?_eq_none h'] at hz; cases hz
  have e : s.drop j = z :: s.drop (j + 1) := by
    rw [List.drop_eq_getElem_cons hj]
    congr 1
    rw [List.getElem?_eq_getElem hj] at hz
    exact Option.some.inj hz
  rw [e, gets, if_pos h]

theorem gets_stop (b : List UInt8) (p : Nat) (s : List UInt8) (j : Nat) (z : UInt8) (hz : s[j]? = some z) (h : gaE b p z.toNat ≠ 0) : gets b p (s.drop j) = (gaE b p z.toNat, [], 0) := by
  have hj : j < s.length := by
    rcases Nat.lt_or_ge j s.length with h' | h'
    · exact h'
    · rw [List.getElem?_eq_none h'] at hz; cases hz
  have e : s.drop j = z :: s.drop (j + 1) := by
    rw [List.drop_eq_getElem_cons hj]
    congr 1
    rw [List.getElem?_eq_getElem hj] at hz
    exact Option.some.inj hz
  rw [e, gets, if_neg h]

/-- Where the loop stands: what is got in all. -/
def Mid (b s : List UInt8) (j p : Nat) (L : List AV) : Prop :=
  gets b 0 s = ((gets b p (s.drop j)).1, L ++ (gets b p (s.drop j)).2.1, (gets b p (s.drop j)).2.2) ∧ p ≤ b.length ∧ L.length = j ∧ ∀ x ∈ L, x.Ok ∧ x.s.size ≤ 1000000

theorem Mid.start (b s : List UInt8) : Mid b s 0 0 [] := ⟨rfl, Nat.zero_le _, rfl, fun _ h => by cases h⟩

theorem Mid.step {b s : List UInt8} {j p : Nat} {L : List AV} (h : Mid b s j p L) (hb : b.length ≤ 1000000) (z : UInt8) (hz : s[j]? = some z) (h0 : gaE b p z.toNat = 0) : Mid b s (j + 1) (gaX b p z.toNat) (L ++ [gaA b p z.toNat]) := by
  obtain ⟨h1, h2, h3, h4⟩ := h
  refine ⟨?_, gaX_le h0, by rw [List.length_append, h3]; rfl, fun x hx => ?_⟩
  · rw [h1, gets_step b p s j z hz h0]
    simp
  · rcases List.mem_append.1 hx with hx | hx
    · exact h4 x hx
    · simp only [List.mem_cons, List.not_mem_nil, or_false] at hx
      subst hx
      exact gaA_ok b p _ z.toNat_lt hb

/-- Get's answer. -/
def GotIs (base : Nat) (w' : World) (o q : Int) (b s : List UInt8) (v : Value) : Prop :=
  ∃ a n c, v = .agg #[.int .i64 (gotO o q b s), .int .i64 (gotQ o q b s), .slice a n c] ∧ RdA w' a n c (gotL o q b s) ∧ Small (gotL o q b s) ∧ ∀ x, a = some x → base ≤ x.block

theorem gotIs_not {base : Nat} {w' : World} {o q : Int} {b s : List UInt8} (h : gotE o q b s ≠ 0) : GotIs base w' o q b s (.agg #[.int .i64 0, .int .i64 0, .slice none 0 0]) := by
  refine ⟨none, 0, 0, ?_, ?_, ?_, fun x hx => by cases hx⟩
  · rw [gotO, gotQ, if_neg h, if_neg h]
  · rw [gotL, if_neg h]; exact RdA.nil w'
  · rw [gotL, if_neg h]; exact fun _ hx => by cases hx

theorem cells3 (w : World) (x : AV) (e : TypeId) : ∀ j u, (ac x)[j]? = some u → (w.alloc (.cells #[.int .u8 x.k, .int .i64 x.n, .string x.s] e)).cell? ((⟨w.heap.size, 0, none⟩ : Addr).add j) = some u := by
  intro j u hu
  match j, hu with
  | 0, hu => cases hu; simp [Addr.add]
  | 1, hu => cases hu; simp [Addr.add]
  | 2, hu => cases hu; simp [Addr.add]
  | j + 3, hu => simp [ac] at hu

theorem RdA.set {w : World} {a : Option Addr} {n c : Nat} {l : List AV} (h : RdA w a n c l) (b i : Nat) (u : Value) (hb : ∀ x, a = some x → x.block ≠ b) : RdA (w.setCell ⟨b, i, none⟩ u) a n c l :=
  ⟨h.len, h.le, h.max, h.hnil, fun x hx j v hv => by
    rw [World.cell?_setCell_other _ _ _ _ (fun e => hb x hx (by have := congrArg Addr.block e; simp only [Addr.add] at this; split at this <;> exact this.symm))]
    exact h.cells x hx j v hv, h.wf⟩

theorem ac_one (x : AV) : ∀ u ∈ ac x, u.oneCell' = true := by
  have := acs_one [x]
  rwa [show acs [x] = ac x from List.append_nil _] at this

set_option maxRecDepth 100000 in
set_option maxHeartbeats 800000 in
theorem Get_any (o q : Int) (t s : ByteArray) (ht : t.size ≤ 1000000) (hs : s.size ≤ 1000000) (w : World) (es : List Addr) (hE : E4 w es) :
    Calls Tryd.prog 14 #[.agg #[.int .i64 o, .int .i64 q, .string t], .string s] w fun e w' => ∃ v r, e = .returned (.tuple #[v, r]) ∧ Er es r (gotE o q t.data.toList s.data.toList) ∧ GotIs w.heap.size w' o q t.data.toList s.data.toList v ∧ Below w.heap.size w w' := by
  obtain ⟨iA, hiA, hzA0, hzA1, hzA2⟩ := info_parts infoArg
  obtain ⟨c4, w4, hcv, q4, b4, s4⟩ := bytes_of t ht (((w.alloc (.cells #[.int .i64 o, .int .i64 q, .string t] 26)).alloc (.cells #[.int .i64 0, .int .i64 0, .slice none 0 0] 24)).alloc (.cells #[.int .i64 o, .int .i64 q, .slice none 0 0] 24))
  simp only [World.size_alloc] at hcv q4 s4
  have hbw : Below w.heap.size w w4 := by
    have h1 : Below w.heap.size w (((w.alloc (.cells #[.int .i64 o, .int .i64 q, .string t] 26)).alloc (.cells #[.int .i64 0, .int .i64 0, .slice none 0 0] 24)).alloc (.cells #[.int .i64 o, .int .i64 q, .slice none 0 0] 24)) := (((Below.refl _ _).alloc (Nat.le_refl _) _).alloc (by simp) _).alloc (by simp; omega) _
    exact h1.trans (b4.mono h1.size)
  have hv4 : w4.heap[w.heap.size + 1 + 1]? = some (.cells #[.int .i64 o, .int .i64 q, .slice none 0 0] 24 (0, 0)) := by
    rw [b4.block _ (by simp)]
    have h := heap_alloc_new ((w.alloc (.cells #[.int .i64 o, .int .i64 q, .string t] 26)).alloc (.cells #[.int .i64 0, .int .i64 0, .slice none 0 0] 24)) (.cells #[.int .i64 o, .int .i64 q, .slice none 0 0] 24)
    simpa only [World.size_alloc] using h
  have hr4 : w4.heap[w.heap.size + 1]? = some (.cells #[.int .i64 0, .int .i64 0, .slice none 0 0] 24 (0, 0)) := by
    rw [b4.block _ (by simp), Below.heap_alloc _ _ _ (by simp)]
    have h := heap_alloc_new (w.alloc (.cells #[.int .i64 o, .int .i64 q, .string t] 26)) (.cells #[.int .i64 0, .int .i64 0, .slice none 0 0] 24)
    simpa only [World.size_alloc] using h
  have G0 : Hid (GI w w4 w4 o q none 0 0 []) := ⟨rfl, rfl, rfl, Nat.le_refl _, fun _ _ _ => rfl, hv4, World.ownsRow_nil _ _ _ _⟩
  have HQ4 : Hid (Rd w4 (some ⟨w.heap.size + 1 + 1 + 1, 0, none⟩) t.size c4 t.data.toList) := q4
  have HBW : Hid (Below w.heap.size w w4) := hbw
  have HR4 : Hid (w4.heap[w.heap.size + 1]? = some (.cells #[.int .i64 0, .int .i64 0, .slice none 0 0] 24 (0, 0))) := hr4
  have HS4 : Hid (w4.heap.size = w.heap.size + 1 + 1 + 1 + 1) := s4
  have HE : Hid (E4 w es) := hE
  have HT : Hid (t.data.toList.length = t.size ∧ s.data.toList.length = s.size) := ⟨size_toList t, size_toList s⟩
  clear q4 b4 s4 hbw hv4 hr4 hE
  go_enter Tryd.func14, Tryd.ntmps14
  go_wp2
  clear hcv
  go_loopw [8, 24] (fun at_ i wr => ∃ (j p : Nat) (va : Option Addr) (c : Nat) (L : List AV), j ≤ s.size ∧ i = .int .i64 j ∧ at_ = .int .i64 p ∧ Mid t.data.toList s.data.toList j p L ∧ GI w w4 wr o q va j c L) (fun _ i _ => s.size - (intOf i).toNat)
  case atStart => exact ⟨0, 0, none, 0, [], Nat.zero_le _, rfl, rfl, Mid.start _ _, G0.out⟩
  case round =>
    obtain ⟨j, p, va, c, L, hj, rfl, rfl, hM, hG⟩ := hrel
    have HM : Hid (Mid t.data.toList s.data.toList j p L) := hM
    have HG : Hid (GI w w4 wr o q va j c L) := hG
    have hp : p ≤ 1000000 := by have := hM.2.1; have := HT.out.1; omega
    clear hM hG G0
    by_cases hlt : j < s.size
    · have hz := str_at s j hlt
      have HC : Hid (Calls Tryd.prog 30 #[.slice (some ⟨w.heap.size + 1 + 1 + 1, 0, none⟩) t.size c4, .int .i64 p, .int .u8 (s[j].toNat : Nat)] wr fun e w' => e = .returned (.tuple #[.agg #[.int .u8 (gaA t.data.toList p s[j].toNat).k, .int .i64 (gaA t.data.toList p s[j].toNat).n, .string (gaA t.data.toList p s[j].toNat).s], .int .i64 (gaX t.data.toList p s[j].toNat : Nat), erv es (gaE t.data.toList p s[j].toNat)]) ∧ Below wr.heap.size wr w') :=
        getArg_any wr _ t.size c4 _ (HG.out.body HQ4.out (by rw [HS4.out]; omega)) (by omega) es (HE.out.below (HG.out.bel HBW.out)) p hp _
      by_cases h0 : gaE t.data.toList p s[j].toNat = 0
      · have HN : Hid (Mid t.data.toList s.data.toList (j + 1) (gaX t.data.toList p s[j].toNat) (L ++ [gaA t.data.toList p s[j].toNat])) := HM.out.step (by rw [HT.out.1]; omega) _ hz h0
        rw [h0] at HC
        clear h0 hz HM hp
        generalize gaX t.data.toList p s[j].toNat = X at *
        generalize gaA t.data.toList p s[j].toNat = A at *
        have ez : erv es 0 = Value.nilIface := rfl
        go_wp2_with fail
        refine HC.out.mono ?_
        rintro e w1 ⟨rfl, b1⟩
        have hG1 := HG.out.next b1
        have hl1 : w.heap.size + 1 + 1 < w1.heap.size := (Array.getElem?_eq_some_iff.1 hG1.var).1
        have k2 : w1.cell? ⟨w.heap.size + 1 + 1, 2, none⟩ = some (.slice va j c) := by rw [World.cell?, hG1.var]; rfl
        have HF : Hid (∀ o1 v5 w5, w5.ownsRow w4.heap.size 60 3 v5 (j + 1) (acs L ++ ac A) → ((w1.alloc o1).alloc (.cells #[.int .u8 A.k, .int .i64 A.n, .string A.s] 60)).grownBy w5 (Value.slice va j c).ownBlock → ∃ a5 c5, v5 = .slice a5 (j + 1) c5 ∧ w5.cell? ⟨w.heap.size + 1 + 1, 2, none⟩ = some (.slice va j c) ∧ (∀ i, w5.frozen? ⟨w.heap.size + 1 + 1, i, none⟩ = false) ∧ GI w w4 (w5.setCell ⟨w.heap.size + 1 + 1, 2, none⟩ (.slice a5 (j + 1) c5)) o q a5 (j + 1) c5 (L ++ [A])) := fun o1 v5 w5 o5 g5 => by
          have hb2 : Below w1.heap.size w1 ((w1.alloc o1).alloc (.cells #[.int .u8 A.k, .int .i64 A.n, .string A.s] 60)) := ((Below.refl _ _).alloc (Nat.le_refl _) _).alloc (by simp) _
          have hG2 := hG1.next hb2
          obtain ⟨a5, c5, rfl⟩ : ∃ a5 c5, v5 = .slice a5 (j + 1) c5 := by
            rcases o5.2 with ⟨_, h⟩ | ⟨g, cap, cur, rfl, _⟩
            · omega
            · exact ⟨_, _, rfl⟩
          have hk4 : w.heap.size + 1 + 1 < w4.heap.size := by rw [HS4.out]; omega
          have hrow := row_lt hG2.row
          have g5' := g5
          obtain ⟨_, _, _, _, g6⟩ := g5'
          have hv : w5.heap[w.heap.size + 1 + 1]? = some (.cells #[.int .i64 o, .int .i64 q, .slice va j c] 24 (0, 0)) := by
            rw [g6 _ (Nat.lt_of_lt_of_le hk4 hG2.size) (fun hb => by have := hrow _ hb.symm; omega)]
            exact hG2.var
          exact ⟨a5, c5, rfl, by rw [World.cell?, hv]; rfl, Lib.frozen_of_heap hv, hG2.step hk4 A a5 c5 o5 g5⟩
        have HOW : Hid (∀ o1, ((w1.alloc o1).alloc (.cells #[.int .u8 A.k, .int .i64 A.n, .string A.s] 60)).ownsRow w4.heap.size 60 3 (.slice va j c) j (acs L)) := fun o1 => (hG1.row.alloc _).alloc _
        have HSR : Hid (∀ o1, Src Tryd.prog 3 22 (.slice (some ⟨w1.heap.size + 1, 0, none⟩) 1 1) 1 (ac A) ((w1.alloc o1).alloc (.cells #[.int .u8 A.k, .int .i64 A.n, .string A.s] 60))) := fun o1 => by
          have h := cells3 (w1.alloc o1) A 60
          simp only [World.size_alloc] at h
          exact Src.ofSlice _ Tryd.underlying22 ⟨w1.heap.size + 1, 0, none⟩ 1 1 (ac A) rfl h (ac_one A)
        have HZ : Hid (∀ o1, w4.heap.size ≤ ((w1.alloc o1).alloc (.cells #[.int .u8 A.k, .int .i64 A.n, .string A.s] 60)).heap.size) := fun o1 => by have := hG1.size; simp; omega
        clear hG1 b1 HC HG
        go_wp2_with (at_builtin; refine wpList_append_own_src _ rfl (.tmp 45) (.tmp 47) 22 22 rfl w4.heap.size 60 iA (.agg #[.int .u8 0, .int .i64 0, .string ⟨#[]⟩]) 3 32 Tryd.underlying22 hiA hzA0 hzA1 hzA2 rfl _ _ _ rfl (HOW.out _) _ _ _ rfl (HSR.out _) (by simp only [maxLen]; omega) (fits32 (by omega)) (HZ.out _) ?_; intro v5 w5 o5 g5; obtain ⟨a5, c5, rfl, y2, yf, G5⟩ := HF.out _ _ _ o5 g5; have HG5 : Hid _ := G5; clear o5 g5 G5 HF HOW HSR HZ k2)
        go_roundw
        case rel => exact ⟨j + 1, X, a5, c5, _, by omega, by go_num, rfl, HN.out, HG5.out⟩
        case measure => simp [intOf]; omega
      · have HX : Hid (gotE o q t.data.toList s.data.toList = gaE t.data.toList p s[j].toNat) := by
          have h1 := HM.out.1
          rw [gets_stop _ _ _ _ _ hz h0] at h1
          simp only [Hid]
          rw [gotE, h1, if_pos h0]
        obtain ⟨m, hm⟩ : ∃ m, gaE t.data.toList p s[j].toNat = m + 1 := ⟨gaE t.data.toList p s[j].toNat - 1, by omega⟩
        have e2 : gaA t.data.toList p s[j].toNat = ⟨0, 0, ⟨#[]⟩⟩ := by rw [gaA, if_neg h0]
        have e3 : gaX t.data.toList p s[j].toNat = 0 := by rw [gaX, if_neg h0]
        rw [hm] at HC HX
        rw [e2, e3] at HC
        clear h0 hz HM hp e2 e3 hm
        obtain ⟨y, hy⟩ : ∃ y, erv es (m + 1) = .iface 106 (.pointer (some y)) := ⟨_, rfl⟩
        have HY : Hid (erv es (m + 1) = .iface 106 (.pointer (some y))) := hy
        rw [hy] at HC
        clear hy
        go_wp2_with fail
        refine HC.out.mono ?_
        rintro e w1 ⟨rfl, b1⟩
        have hG1 := HG.out.next b1
        have hz1 : w1.heap[w.heap.size + 1]? = some (.cells #[.int .i64 0, .int .i64 0, .slice none 0 0] 24 (0, 0)) := by
          rw [hG1.block _ (by rw [HS4.out]; omega) (by omega)]
          exact HR4.out
        have zl : w.heap.size + 1 < w1.heap.size := (Array.getElem?_eq_some_iff.1 hz1).1
        have z0 : w1.cell? ⟨w.heap.size + 1, 0, none⟩ = some (.int .i64 0) := by rw [World.cell?, hz1]; rfl
        have z1 : w1.cell? ⟨w.heap.size + 1, 1, none⟩ = some (.int .i64 0) := by rw [World.cell?, hz1]; rfl
        have z2 : w1.cell? ⟨w.heap.size + 1, 2, none⟩ = some (.slice none 0 0) := by rw [World.cell?, hz1]; rfl
        have zf : ∀ k, w1.frozen? ⟨w.heap.size + 1, k, none⟩ = false := Lib.frozen_of_heap hz1
        have HB : Hid (Below w.heap.size w w1) := hG1.bel HBW.out
        clear hz1 hG1 b1 HC HG
        go_wp2
        refine bodyPost_ret (v := .tuple #[.agg #[.int .i64 0, .int .i64 0, .slice none 0 0], fnd (.iface 106 (.pointer (some y))) j]) ?_ rfl ⟨_, _, rfl, ?_, gotIs_not (by rw [HX.out]; omega), ?_⟩
        · simp [results, Tryd.results14, go_sem, fnd, z0, z1, z2, zl]
        · rw [HX.out]
          exact .inr ⟨by omega, j, by rw [HY.out]⟩
        · have hb3 : Below w.heap.size w (((w1.setCell ⟨w.heap.size + 1, 0, none⟩ (.int .i64 0)).setCell ⟨w.heap.size + 1, 1, none⟩ (.int .i64 0)).setCell ⟨w.heap.size + 1, 2, none⟩ (.slice none 0 0)) := ((HB.out.setCell (p := ⟨w.heap.size + 1, 0, none⟩) (Nat.le_succ _) _).setCell (p := ⟨w.heap.size + 1, 1, none⟩) (Nat.le_succ _) _).setCell (p := ⟨w.heap.size + 1, 2, none⟩) (Nat.le_succ _) _
          exact hb3.alloc hb3.size _
    · have hjn : j = s.size := by omega
      have hgets : gets t.data.toList 0 s.data.toList = (0, L, p) := by
        have h1 := HM.out.1
        rw [List.drop_of_length_le (by rw [HT.out.2]; omega)] at h1
        rw [h1]
        simp [gets]
      have HGT : Hid (gets t.data.toList 0 s.data.toList = (0, L, p)) := hgets
      have hpl : p ≤ t.size := by rw [← HT.out.1]; exact HM.out.2.1
      have hz1 : wr.heap[w.heap.size + 1]? = some (.cells #[.int .i64 0, .int .i64 0, .slice none 0 0] 24 (0, 0)) := by
        rw [HG.out.block _ (by rw [HS4.out]; omega) (by omega)]
        exact HR4.out
      have hlow := World.block_lt_of_cell? w _ HE.out.bytes
      have hB3 : wr.cell? ⟨1, 0, none⟩ = some (erv es 3) := (HE.out.below (HG.out.bel HBW.out)).bytes
      by_cases hpt : p < t.size
      · have e1 : decide ((p : Int) < t.size) = true := decide_eq_true (by omega)
        have HX : Hid (gotE o q t.data.toList s.data.toList = 3) := by
          simp only [Hid]
          rw [gotE, HGT.out, if_neg (by simp), if_pos (by rw [HT.out.1]; exact hpt)]
        have zl : w.heap.size + 1 < wr.heap.size := (Array.getElem?_eq_some_iff.1 hz1).1
        have z0 : wr.cell? ⟨w.heap.size + 1, 0, none⟩ = some (.int .i64 0) := by rw [World.cell?, hz1]; rfl
        have z1 : wr.cell? ⟨w.heap.size + 1, 1, none⟩ = some (.int .i64 0) := by rw [World.cell?, hz1]; rfl
        have z2 : wr.cell? ⟨w.heap.size + 1, 2, none⟩ = some (.slice none 0 0) := by rw [World.cell?, hz1]; rfl
        have zf : ∀ k, wr.frozen? ⟨w.heap.size + 1, k, none⟩ = false := Lib.frozen_of_heap hz1
        have hcs : ∀ v, (wr.setCell ⟨w.heap.size + 1, 0, none⟩ v).cell? ⟨1, 0, none⟩ = some (erv es 3) := fun v => by
          rw [World.cell?_setCell_other _ _ _ _ (fun h => by have := congrArg Addr.block h; simp only at this hlow; omega)]
          exact hB3
        have HB : Hid (Below w.heap.size w wr) := HG.out.bel HBW.out
        clear hz1 HG HGT hgets HM hpl hjn hlow
        go_wp2
        go_region
        all_goals
          go_wp2
          refine bodyPost_ret (v := .tuple #[.agg #[.int .i64 0, .int .i64 0, .slice none 0 0], erv es 3]) ?_ rfl ⟨_, _, rfl, ?_, gotIs_not (by rw [HX.out]; decide), ?_⟩
          · simp [results, Tryd.results14, go_sem, z0, z1, z2]
          · rw [HX.out]
            exact .inl rfl
          · exact (((HB.out.setCell (p := ⟨w.heap.size + 1, 0, none⟩) (Nat.le_succ _) _).setCell (p := ⟨w.heap.size + 1, 1, none⟩) (Nat.le_succ _) _).setCell (p := ⟨w.heap.size + 1, 2, none⟩) (Nat.le_succ _) _).drew
      · have e1 : decide ((p : Int) < t.size) = false := decide_eq_false (by omega)
        have HX : Hid (gotE o q t.data.toList s.data.toList = noB (chk o q L s.data.toList)) := by
          simp only [Hid]
          rw [gotE, HGT.out, if_neg (by simp), if_neg (by rw [HT.out.1]; exact hpt)]
        have hL := HM.out.2.2.2
        obtain ⟨va', c', hv', hrd, hblk⟩ := rda_of_owns HG.out.row (fun x hx => (hL x hx).1)
        obtain ⟨rfl, rfl⟩ : va = va' ∧ c = c' := by cases hv'; exact ⟨rfl, rfl⟩
        have hsm : Small L := fun x hx => by have := (hL x hx).2; omega
        have HC : Hid (Calls Tryd.prog 20 #[.agg #[.int .i64 o, .int .i64 q, .slice va j c], .string s] wr fun e w' => ∃ r, e = .returned r ∧ Er es r (noB (chk o q L s.data.toList)) ∧ Below wr.heap.size wr w') :=
          check_any o q va j c L s wr hrd hsm (by omega) es (HE.out.below (HG.out.bel HBW.out)).arg
        have y0 : wr.cell? ⟨w.heap.size + 1 + 1, 0, none⟩ = some (.int .i64 o) := by rw [World.cell?, HG.out.var]; rfl
        have y1 : wr.cell? ⟨w.heap.size + 1 + 1, 1, none⟩ = some (.int .i64 q) := by rw [World.cell?, HG.out.var]; rfl
        have y2 : wr.cell? ⟨w.heap.size + 1 + 1, 2, none⟩ = some (.slice va j c) := by rw [World.cell?, HG.out.var]; rfl
        have HRD : Hid (RdA wr va j c L ∧ Small L ∧ ∀ x, va = some x → w4.heap.size ≤ x.block) := ⟨hrd, hsm, fun x hx => (hblk x hx).1⟩
        have HV : Hid (∀ u, Below wr.heap.size wr u → u.heap[w.heap.size + 1]? = some (.cells #[.int .i64 0, .int .i64 0, .slice none 0 0] 24 (0, 0)) ∧ u.heap[w.heap.size + 1 + 1]? = some (.cells #[.int .i64 o, .int .i64 q, .slice va j c] 24 (0, 0)) ∧ Below w.heap.size w u ∧ RdA u va j c L) := fun u hu =>
          ⟨by rw [hu.block _ (Array.getElem?_eq_some_iff.1 hz1).1]; exact hz1, by rw [hu.block _ (Array.getElem?_eq_some_iff.1 HG.out.var).1]; exact HG.out.var, Below.on (HG.out.bel HBW.out) hu, hrd.below hu hrd.low⟩
        clear hz1 HG hgets HM hpl hlow hrd hsm hblk hL hB3 hv' hjn
        generalize hq : chk o q L s.data.toList = Q at *
        cases Q with
        | false =>
          go_wp2_with fail
          refine HC.out.mono ?_
          rintro e w1 ⟨r, rfl, he, b1⟩
          obtain ⟨hz1, hy1, hb1, _⟩ := HV.out w1 b1
          have zl : w.heap.size + 1 < w1.heap.size := (Array.getElem?_eq_some_iff.1 hz1).1
          have z0 : w1.cell? ⟨w.heap.size + 1, 0, none⟩ = some (.int .i64 0) := by rw [World.cell?, hz1]; rfl
          have z1 : w1.cell? ⟨w.heap.size + 1, 1, none⟩ = some (.int .i64 0) := by rw [World.cell?, hz1]; rfl
          have z2 : w1.cell? ⟨w.heap.size + 1, 2, none⟩ = some (.slice none 0 0) := by rw [World.cell?, hz1]; rfl
          have zf : ∀ k, w1.frozen? ⟨w.heap.size + 1, k, none⟩ = false := Lib.frozen_of_heap hz1
          have HEr : Hid (Er es r 1) := he
          obtain ⟨tt, tv, rfl⟩ := he.some
          have HB : Hid (Below w.heap.size w w1) := hb1
          clear hz1 hy1 hb1 b1 he HC HV HRD
          go_wp2
          refine bodyPost_ret (v := .tuple #[.agg #[.int .i64 0, .int .i64 0, .slice none 0 0], .iface tt tv]) ?_ rfl ⟨_, _, rfl, ?_, gotIs_not (by rw [HX.out]; decide), ?_⟩
          · simp [results, Tryd.results14, go_sem, z0, z1, z2]
          · rw [HX.out]
            exact HEr.out
          · exact ((HB.out.setCell (p := ⟨w.heap.size + 1, 0, none⟩) (Nat.le_succ _) _).setCell (p := ⟨w.heap.size + 1, 1, none⟩) (Nat.le_succ _) _).setCell (p := ⟨w.heap.size + 1, 2, none⟩) (Nat.le_succ _) _
        | true =>
          go_wp2_with fail
          refine HC.out.mono ?_
          rintro e w1 ⟨r, rfl, he, b1⟩
          obtain rfl := he.nil
          obtain ⟨hz1, hy1, hb1, hrd1⟩ := HV.out w1 b1
          have zl : w.heap.size + 1 < w1.heap.size := (Array.getElem?_eq_some_iff.1 hz1).1
          have z0 : w1.cell? ⟨w.heap.size + 1, 0, none⟩ = some (.int .i64 0) := by rw [World.cell?, hz1]; rfl
          have z1 : w1.cell? ⟨w.heap.size + 1, 1, none⟩ = some (.int .i64 0) := by rw [World.cell?, hz1]; rfl
          have z2 : w1.cell? ⟨w.heap.size + 1, 2, none⟩ = some (.slice none 0 0) := by rw [World.cell?, hz1]; rfl
          have zf : ∀ k, w1.frozen? ⟨w.heap.size + 1, k, none⟩ = false := Lib.frozen_of_heap hz1
          have x0 : w1.cell? ⟨w.heap.size + 1 + 1, 0, none⟩ = some (.int .i64 o) := by rw [World.cell?, hy1]; rfl
          have x1 : w1.cell? ⟨w.heap.size + 1 + 1, 1, none⟩ = some (.int .i64 q) := by rw [World.cell?, hy1]; rfl
          have x2 : w1.cell? ⟨w.heap.size + 1 + 1, 2, none⟩ = some (.slice va j c) := by rw [World.cell?, hy1]; rfl
          have HB : Hid (Below w.heap.size w w1) := hb1
          have HR1 : Hid (RdA w1 va j c L) := hrd1
          clear hz1 hy1 hb1 b1 he HC HV hrd1
          go_wp2
          refine bodyPost_ret (v := .tuple #[.agg #[.int .i64 o, .int .i64 q, .slice va j c], .nilIface]) ?_ rfl ⟨_, _, rfl, ?_, ?_, ?_⟩
          · simp [results, Tryd.results14, go_sem, z0, z1, z2]
          · rw [HX.out]
            exact .inl rfl
          · have hX0 : gotE o q t.data.toList s.data.toList = 0 := HX.out
            have hne : ∀ x, va = some x → x.block ≠ w.heap.size + 1 := fun x hx => by have := HRD.out.2.2 x hx; have := HS4.out; omega
            have eL : gotL o q t.data.toList s.data.toList = L := by rw [gotL, if_pos hX0, HGT.out]
            refine ⟨va, j, c, by rw [gotO, gotQ, if_pos hX0, if_pos hX0], ?_, ?_, fun x hx => by have := HRD.out.2.2 x hx; have := HS4.out; omega⟩
            · rw [eL]
              exact ((HR1.out.set _ 0 _ hne).set _ 1 _ hne).set _ 2 _ hne
            · rw [eL]
              exact HRD.out.2.1
          · exact ((HB.out.setCell (p := ⟨w.heap.size + 1, 0, none⟩) (Nat.le_succ _) _).setCell (p := ⟨w.heap.size + 1, 1, none⟩) (Nat.le_succ _) _).setCell (p := ⟨w.heap.size + 1, 2, none⟩) (Nat.le_succ _) _
end Go.Proofs.YtoggnfadfocogaaDoor
