/- Lemmas that the proof leans on. -/
import Derived.Test.YtpbgbpcdohdecaaGreatDoorB28
namespace Go.Proofs.YtpbgbpcdohdecaaGreatDoor
open Go Go.RowKit
set_option maxRecDepth 100000
set_option maxHeartbeats 800000
section
def gaE (l : List UInt8) (p z : Nat) : Nat := if rdE l p z ≠ 0 then rdE l p z else if suchB z (rdN l p z) (rdS l p z) then 0 else 3
def gaA (l : List UInt8) (p z : Nat) : AV := if gaE l p z = 0 then ⟨z, rdN l p z, ⟨(rdS l p z).toArray⟩⟩ else ⟨0, 0, ⟨#[]⟩⟩
def gaX (l : List UInt8) (p z : Nat) : Nat := if gaE l p z = 0 then rdX l p z else 0
theorem txtS_le (l : List UInt8) (p : Int) : (txtS l p).length ≤ l.length := by
 unfold txtS
 split
 ·have := lstS_le l p
  rw [List.length_dropLast]; omega
 ·exact Nat.zero_le _
theorem rdS_le (l : List UInt8) (p : Int) (z : Nat) : (rdS l p z).length ≤ l.length := by
 unfold rdS
 split
 ·exact Nat.zero_le _
 ·split
  ·exact txtS_le l p
  ·split
   ·exact lstS_le l p
   ·exact Nat.zero_le _
theorem getArg_any (w : World) (a : Option Addr) (n c : Nat) (l : List UInt8) (hr : Rd w a n c l) (hn : n ≤ 1000000) (es : List Addr) (hE : E4 w es) (p : Nat) (hp : p ≤ 1000000) (z : Nat) :
  Calls Tryz.prog 72 #[.slice a n c, .int .i64 p, .int .u8 z] w fun e w' => e = .returned (.tuple #[.agg #[.int .u8 (gaA l p z).k, .int .i64 (gaA l p z).n, .string (gaA l p z).s], .int .i64 (gaX l p z : Nat), erv es (gaE l p z)]) ∧ Below w.heap.size w w' := by
 have hl := hr.len
 have hs := rdS_le l p z
 have H := readArg_any (wA w) a n c l (hr.below (wA_below w) (rd_low_WireF hr)) (by omega) es (hE.below (wA_below w)) p hp z
 by_cases h0 : rdE l p z = 0
 ·rw [h0] at H
  cases hk : suchB z (rdN l p z) (rdS l p z) with
  | true =>
   have e1 : gaE l p z = 0 := by rw [gaE, if_neg (by rw [h0]; decide), hk]; rfl
   have e2 : gaA l p z = ⟨z, rdN l p z, ⟨(rdS l p z).toArray⟩⟩ := by rw [gaA, if_pos e1]
   have e3 : gaX l p z = rdX l p z := by rw [gaX, if_pos e1]
   rw [e1, e2, e3]
   exact getArg_ok w a n c p z _ _ (by omega) _ es hE hk H
  | false =>
   have e1 : gaE l p z = 3 := by rw [gaE, if_neg (by rw [h0]; decide), hk]; rfl
   have e2 : gaA l p z = ⟨0, 0, ⟨#[]⟩⟩ := by rw [gaA, if_neg (by rw [e1]; decide)]
   have e3 : gaX l p z = 0 := by rw [gaX, if_neg (by rw [e1]; decide)]
   rw [e1, e2, e3]
   exact getArg_bad w a n c p z _ _ (by omega) _ es hE hk H
 ·have e1 : gaE l p z = rdE l p z := by rw [gaE, if_pos h0]
  have e2 : gaA l p z = ⟨0, 0, ⟨#[]⟩⟩ := by rw [gaA, if_neg (by rw [e1]; exact h0)]
  have e3 : gaX l p z = 0 := by rw [gaX, if_neg (by rw [e1]; exact h0)]
  rw [e1, e2, e3]
  obtain ⟨m, hm⟩ : ∃ m, rdE l p z = m + 1 := ⟨rdE l p z - 1, by omega⟩
  rw [hm] at H ⊢
  exact getArg_err w a n c p z _ _ _ _ H
theorem bytes_of (t : ByteArray) (ht : t.size ≤ 1000000) (W : World) : ∃ c W', (convert 9 148 (.string t)).run Tryz.prog W = .ok (.slice (some ⟨W.heap.size, 0, none⟩) t.size c) W' ∧ Rd W' (some ⟨W.heap.size, 0, none⟩) t.size c t.data.toList ∧ Below W.heap.size W W' ∧ W'.heap.size = W.heap.size + 1 := by
 refine ⟨_, _, Lib.run_convert_string_bytes W 9 148 5 t Tryz.underlying9 Tryz.underlying148 Tryz.underlying5, ?_, ?_, Lib.bytesWorld_size W 5 t⟩
 ·have hge := grownCap_ge W t.size 0 5
  refine ⟨size_toList t, hge, grownCap_le_maxLen W t.size 0 5 (by simp only [maxLen]; omega), (fun h => by cases h), fun x hx j u hu => ?_⟩
  cases hx
  have hj : j < t.size := by
   rcases Nat.lt_or_ge j t.size with h' | h'
   ·exact h'
   ·rw [List.getElem?_eq_none (by rw [bc_length, size_toList]; exact h')] at hu; cases hu
  rw [Go.WideShapes.add_plain, Nat.zero_add, Lib.bytesWorld_cell W 5 t j hj, ← hu, bc, List.getElem?_map, List.getD]
  have hl : j < t.data.toList.length := by rw [size_toList]; exact hj
  rw [List.getElem?_eq_getElem hl]
  rfl
 ·exact ⟨rfl, rfl, rfl, by rw [Lib.bytesWorld_size]; omega, fun k hk => Lib.bytesWorld_at_old W 5 t k hk⟩
def gets (b : List UInt8) : Nat → List UInt8 → Nat × List AV × Nat
 | p, [] => (0, [], p)
 | p, z :: s => if gaE b p z.toNat = 0 then ((gets b (gaX b p z.toNat) s).1, gaA b p z.toNat :: (gets b (gaX b p z.toNat) s).2.1, (gets b (gaX b p z.toNat) s).2.2) else (gaE b p z.toNat, [], 0)
def gotE (o q : Int) (b s : List UInt8) : Nat := if (gets b 0 s).1 ≠ 0 then (gets b 0 s).1 else if (gets b 0 s).2.2 < b.length then 3 else noB (chk_WireB o q (gets b 0 s).2.1 s)
def gotL (o q : Int) (b s : List UInt8) : List AV := if gotE o q b s = 0 then (gets b 0 s).2.1 else []
def gotO (o q : Int) (b s : List UInt8) : Int := if gotE o q b s = 0 then o else 0
def gotQ (o q : Int) (b s : List UInt8) : Int := if gotE o q b s = 0 then q else 0
theorem getE_le {l : List UInt8} {p : Nat} (h : getE l p = 0) : p + 4 ≤ l.length := by
 unfold getE at h
 split at h
 ·cases h
 ·split at h
  ·cases h
  ·omega
theorem lstN_le {l : List UInt8} {p : Nat} (h : lstE l p = 0) : lstN l p ≤ l.length := by
 rw [lstN, if_pos h]
 unfold lstE at h
 split at h
 ·rename_i hg; exact absurd h hg
 ·rename_i hg
  have := getE_le (l := l) (p := p) (Classical.byContradiction hg)
  split at h
  ·cases h
  ·split at h
   ·cases h
   ·rw [Int.toNat_natCast]; omega
theorem txtE_zero {l : List UInt8} {p : Int} (h : txtE l p = 0) : lstE l p = 0 ∧ ended (lstS l p) = true := by
 unfold txtE at h
 split at h
 ·rename_i hg; exact absurd h hg
 ·rename_i hg
  split at h
  ·rename_i he; exact ⟨Classical.byContradiction hg, he⟩
  ·cases h
theorem gaE_zero {l : List UInt8} {p z : Nat} (h : gaE l p z = 0) : rdE l p z = 0 ∧ suchB z (rdN l p z) (rdS l p z) = true := by
 unfold gaE at h
 split at h
 ·rename_i hg; exact absurd h hg
 ·rename_i hg
  split at h
  ·rename_i he; exact ⟨Classical.byContradiction hg, he⟩
  ·cases h
theorem rdX_le {l : List UInt8} {p z : Nat} (h : rdE l p z = 0) : rdX l p z ≤ l.length := by
 unfold rdE at h
 unfold rdX
 split at h
 ·rename_i hz; rw [if_pos hz]; exact getE_le h
 ·rename_i hz
  rw [if_neg hz]
  split at h
  ·rename_i h1
   rw [if_pos h1, txtN, if_pos h]
   exact lstN_le (txtE_zero h).1
  ·rename_i h1
   rw [if_neg h1]
   split at h
   ·rename_i h2; rw [if_pos h2]; exact lstN_le h
   ·cases h
theorem gaX_le {l : List UInt8} {p z : Nat} (h : gaE l p z = 0) : gaX l p z ≤ l.length := by
 rw [gaX, if_pos h]
 exact rdX_le (gaE_zero h).1
theorem sgn_range (v : Nat) (h : v < 4294967296) : -2147483648 ≤ sgn v ∧ sgn v ≤ 2147483647 := by
 unfold sgn
 split <;> omega
theorem numZ_range (z v : Nat) (h : v < 4294967296) : -2147483648 ≤ numZ z v ∧ numZ z v ≤ 4294967295 := by
 have := sgn_range v h
 unfold numZ
 split <;> omega
theorem gaA_ok (l : List UInt8) (p z : Nat) (hz : z < 256) (hl : l.length ≤ 1000000) : (gaA l p z).Ok ∧ (gaA l p z).s.size ≤ 1000000 := by
 unfold gaA
 split
 ·have hs := rdS_le l p z
  have hn : -2147483648 ≤ rdN l p z ∧ rdN l p z ≤ 4294967295 := by
   unfold rdN
   split
   ·exact numZ_range z _ (getV_lt _ _)
   ·omega
  exact ⟨⟨hz, by show _ ≤ rdN l p z; omega, by show rdN l p z ≤ _; omega, by show (rdS l p z).length ≤ maxLen; simp only [maxLen]; omega⟩, by show (rdS l p z).length ≤ _; omega⟩
 ·exact ⟨⟨by decide, by decide, by decide, by decide⟩, by decide⟩
end
section
theorem infoArg : (Tryz.prog.info? 34).map (fun i => (i.zero, i.size, i.bytes)) = some (some (.agg #[.int .u8 0, .int .i64 0, .string ⟨#[]⟩]), 3, 32) := by kernel_rfl
theorem fits32j {need : Nat} (h : need ≤ 4000000) : ∀ old, old < need → Builtin.nextslicecap need old * 32 ≤ 281474976710656 := fun old ho => by
 have := nextslicecap_near ho
 omega
structure GI (w w4 wr : World) (o q : Int) (va : Option Addr) (n c : Nat) (L : List AV) : Prop where
 os : wr.os = w4.os
 tape : wr.tape = w4.tape
 output : wr.output = w4.output
 size : w4.heap.size ≤ wr.heap.size
 block : ∀ i, i < w4.heap.size → i ≠ w.heap.size + 1 + 1 → wr.heap[i]? = w4.heap[i]?
 var : wr.heap[w.heap.size + 1 + 1]? = some (.cells #[.int .i64 o, .int .i64 q, .slice va n c] 42 (0, 0))
 row : wr.ownsRow w4.heap.size 34 3 (.slice va n c) n (acs L)
theorem GI.bel {w w4 wr : World} {o q : Int} {va : Option Addr} {n c : Nat} {L : List AV} (h : GI w w4 wr o q va n c L) (b4 : Below w.heap.size w w4) : Below w.heap.size w wr :=
 ⟨h.os.trans b4.os, h.tape.trans b4.tape, h.output.trans b4.output, Nat.le_trans b4.size h.size, fun i hi => by
  rw [h.block i (Nat.lt_of_lt_of_le hi b4.size) (by omega)]
  exact b4.block i hi⟩
theorem GI.next {w w4 wr w1 : World} {o q : Int} {va : Option Addr} {n c : Nat} {L : List AV} (h : GI w w4 wr o q va n c L) (b : Below wr.heap.size wr w1) : GI w w4 w1 o q va n c L :=
 ⟨b.os.trans h.os, b.tape.trans h.tape, b.output.trans h.output, Nat.le_trans h.size b.size, fun i hi hne => by
  rw [b.block i (Nat.lt_of_lt_of_le hi h.size)]
  exact h.block i hi hne, by
  rw [b.block _ (Array.getElem?_eq_some_iff.1 h.var).1]
  exact h.var, ownsRow_below h.row b⟩
theorem GI.step {w w4 w1 w5 : World} {o q : Int} {va : Option Addr} {n c : Nat} {L : List AV} (h : GI w w4 w1 o q va n c L) (hk : w.heap.size + 1 + 1 < w4.heap.size) (x : AV) (a5 : Option Addr) (c5 : Nat)
  (o5 : w5.ownsRow w4.heap.size 34 3 (.slice a5 (n + 1) c5) (n + 1) (acs L ++ ac_WireB x)) (g5 : w1.grownBy w5 (Value.slice va n c).ownBlock) :
  GI w w4 (w5.setCell ⟨w.heap.size + 1 + 1, 2, none⟩ (.slice a5 (n + 1) c5)) o q a5 (n + 1) c5 (L ++ [x]) := by
 have hrow : ∀ k, (Value.slice va n c).ownBlock = some k → w4.heap.size ≤ k := row_lt_WordB h.row
 obtain ⟨g1, g2, g3, g4, g6⟩ := g5
 have hv : w5.heap[w.heap.size + 1 + 1]? = some (.cells #[.int .i64 o, .int .i64 q, .slice va n c] 42 (0, 0)) := by
  rw [g6 _ (Nat.lt_of_lt_of_le hk h.size) (fun hb => by have := hrow _ hb.symm; omega)]
  exact h.var
 refine ⟨g1.trans h.os, g2.trans h.tape, g3.trans h.output, by rw [World.size_setCell]; exact Nat.le_trans h.size g4, fun i hi hne => ?_, ?_, ?_⟩
 ·rw [heap_setCell_other _ _ _ _ hne, g6 _ (Nat.lt_of_lt_of_le hi h.size) (fun hb => by have := hrow _ hb.symm; omega)]
  exact h.block i hi hne
 ·rw [heap_setCell_same _ _ _ _ _ _ hv]
  rfl
 ·rw [acs_append, show acs [x] = ac_WireB x from List.append_nil _]
  exact ownsRow_setCell_below o5 hk _
theorem GI.body {w w4 wr : World} {o q : Int} {va : Option Addr} {n c : Nat} {L : List AV} (h : GI w w4 wr o q va n c L) {m d : Nat} {b : List UInt8} (hr : Rd w4 (some ⟨w.heap.size + 1 + 1 + 1, 0, none⟩) m d b) (hk : w.heap.size + 1 + 1 + 1 < w4.heap.size) :
  Rd wr (some ⟨w.heap.size + 1 + 1 + 1, 0, none⟩) m d b :=
 ⟨hr.len, hr.le, hr.max, hr.hnil, fun x hx j u hu => by
  cases hx
  have := hr.cells _ rfl j u hu
  rw [Go.WideShapes.add_plain] at this ⊢
  rw [World.cell?, h.block _ hk (by omega)]
  exact this⟩
theorem gets_step (b : List UInt8) (p : Nat) (s : List UInt8) (j : Nat) (z : UInt8) (hz : s[j]? = some z) (h : gaE b p z.toNat = 0) :
  gets b p (s.drop j) = ((gets b (gaX b p z.toNat) (s.drop (j + 1))).1, gaA b p z.toNat :: (gets b (gaX b p z.toNat) (s.drop (j + 1))).2.1, (gets b (gaX b p z.toNat) (s.drop (j + 1))).2.2) := by
 have hj : j < s.length := by
  rcases Nat.lt_or_ge j s.length with h' | h'
  ·exact h'
  ·rw [List.getElem?_eq_none h'] at hz; cases hz
 have e : s.drop j = z :: s.drop (j + 1) := by
  rw [List.drop_eq_getElem_cons hj]
  congr 1
  rw [List.getElem?_eq_getElem hj] at hz
  exact Option.some.inj hz
 rw [e, gets, if_pos h]
theorem gets_stop (b : List UInt8) (p : Nat) (s : List UInt8) (j : Nat) (z : UInt8) (hz : s[j]? = some z) (h : gaE b p z.toNat ≠ 0) : gets b p (s.drop j) = (gaE b p z.toNat, [], 0) := by
 have hj : j < s.length := by
  rcases Nat.lt_or_ge j s.length with h' | h'
  ·exact h'
  ·rw [List.getElem?_eq_none h'] at hz; cases hz
 have e : s.drop j = z :: s.drop (j + 1) := by
  rw [List.drop_eq_getElem_cons hj]
  congr 1
  rw [List.getElem?_eq_getElem hj] at hz
  exact Option.some.inj hz
 rw [e, gets, if_neg h]
def Mid_WireJ (b s : List UInt8) (j p : Nat) (L : List AV) : Prop :=
 gets b 0 s = ((gets b p (s.drop j)).1, L ++ (gets b p (s.drop j)).2.1, (gets b p (s.drop j)).2.2) ∧ p ≤ b.length ∧ L.length = j ∧ ∀ x ∈ L, x.Ok ∧ x.s.size ≤ 1000000
theorem Mid_WireJ.start (b s : List UInt8) : Mid_WireJ b s 0 0 [] := ⟨rfl, Nat.zero_le _, rfl, fun _ h => by cases h⟩
theorem Mid_WireJ.step {b s : List UInt8} {j p : Nat} {L : List AV} (h : Mid_WireJ b s j p L) (hb : b.length ≤ 1000000) (z : UInt8) (hz : s[j]? = some z) (h0 : gaE b p z.toNat = 0) : Mid_WireJ b s (j + 1) (gaX b p z.toNat) (L ++ [gaA b p z.toNat]) := by
 obtain ⟨h1, h2, h3, h4⟩ := h
 refine ⟨?_, gaX_le h0, by rw [List.length_append, h3]; rfl, fun x hx => ?_⟩
 ·rw [h1, gets_step b p s j z hz h0]
  simp
 ·rcases List.mem_append.1 hx with hx | hx
  ·exact h4 x hx
  ·simp only [List.mem_cons, List.not_mem_nil, or_false] at hx
   subst hx
   exact gaA_ok b p _ z.toNat_lt hb
def GotIs (base : Nat) (w' : World) (o q : Int) (b s : List UInt8) (v : Value) : Prop :=
 ∃ a n c, v = .agg #[.int .i64 (gotO o q b s), .int .i64 (gotQ o q b s), .slice a n c] ∧ RdA w' a n c (gotL o q b s) ∧ Small (gotL o q b s) ∧ ∀ x, a = some x → base ≤ x.block
theorem gotIs_not {base : Nat} {w' : World} {o q : Int} {b s : List UInt8} (h : gotE o q b s ≠ 0) : GotIs base w' o q b s (.agg #[.int .i64 0, .int .i64 0, .slice none 0 0]) := by
 refine ⟨none, 0, 0, ?_, ?_, ?_, fun x hx => by cases hx⟩
 ·rw [gotO, gotQ, if_neg h, if_neg h]
 ·rw [gotL, if_neg h]; exact RdA.nil w'
 ·rw [gotL, if_neg h]; exact fun _ hx => by cases hx
theorem cells3_WireJ (w : World) (x : AV) (e : TypeId) : ∀ j u, (ac_WireB x)[j]? = some u → (w.alloc (.cells #[.int .u8 x.k, .int .i64 x.n, .string x.s] e)).cell? ((⟨w.heap.size, 0, none⟩ : Addr).add j) = some u := by
 intro j u hu
 match j, hu with
 | 0, hu => cases hu; simp [Addr.add]
 | 1, hu => cases hu; simp [Addr.add]
 | 2, hu => cases hu; simp [Addr.add]
 | j + 3, hu => simp [ac_WireB] at hu
theorem RdA.set {w : World} {a : Option Addr} {n c : Nat} {l : List AV} (h : RdA w a n c l) (b i : Nat) (u : Value) (hb : ∀ x, a = some x → x.block ≠ b) : RdA (w.setCell ⟨b, i, none⟩ u) a n c l :=
 ⟨h.len, h.le, h.max, h.hnil, fun x hx j v hv => by
  rw [World.cell?_setCell_other _ _ _ _ (fun e => hb x hx (by have := congrArg Addr.block e; simp only [Addr.add] at this; split at this <;> exact this.symm))]
  exact h.cells x hx j v hv, h.wf⟩
theorem ac_one (x : AV) : ∀ u ∈ ac_WireB x, u.oneCell' = true := by
 have := acs_one [x]
 rwa [show acs [x] = ac_WireB x from List.append_nil _] at this
theorem Get_any (o q : Int) (t s : ByteArray) (ht : t.size ≤ 1000000) (hs : s.size ≤ 1000000) (w : World) (es : List Addr) (hE : E4 w es) :
  Calls Tryz.prog 43 #[.agg #[.int .i64 o, .int .i64 q, .string t], .string s] w fun e w' => ∃ v r, e = .returned (.tuple #[v, r]) ∧ Er_WireB es r (gotE o q t.data.toList s.data.toList) ∧ GotIs w.heap.size w' o q t.data.toList s.data.toList v ∧ Below w.heap.size w w' := by
 obtain ⟨iA, hiA, hzA0, hzA1, hzA2⟩ := info_parts infoArg
 obtain ⟨c4, w4, hcv, q4, b4, s4⟩ := bytes_of t ht (((w.alloc (.cells #[.int .i64 o, .int .i64 q, .string t] 31)).alloc (.cells #[.int .i64 0, .int .i64 0, .slice none 0 0] 42)).alloc (.cells #[.int .i64 o, .int .i64 q, .slice none 0 0] 42))
 simp only [World.size_alloc] at hcv q4 s4
 have hbw : Below w.heap.size w w4 := by
  have h1 : Below w.heap.size w (((w.alloc (.cells #[.int .i64 o, .int .i64 q, .string t] 31)).alloc (.cells #[.int .i64 0, .int .i64 0, .slice none 0 0] 42)).alloc (.cells #[.int .i64 o, .int .i64 q, .slice none 0 0] 42)) := (((Below.refl _ _).alloc (Nat.le_refl _) _).alloc (by simp) _).alloc (by simp; omega) _
  exact h1.trans (b4.mono h1.size)
 have hv4 : w4.heap[w.heap.size + 1 + 1]? = some (.cells #[.int .i64 o, .int .i64 q, .slice none 0 0] 42 (0, 0)) := by
  rw [b4.block _ (by simp)]
  have h := heap_alloc_new ((w.alloc (.cells #[.int .i64 o, .int .i64 q, .string t] 31)).alloc (.cells #[.int .i64 0, .int .i64 0, .slice none 0 0] 42)) (.cells #[.int .i64 o, .int .i64 q, .slice none 0 0] 42)
  simpa only [World.size_alloc] using h
 have hr4 : w4.heap[w.heap.size + 1]? = some (.cells #[.int .i64 0, .int .i64 0, .slice none 0 0] 42 (0, 0)) := by
  rw [b4.block _ (by simp), Below.heap_alloc _ _ _ (by simp)]
  have h := heap_alloc_new (w.alloc (.cells #[.int .i64 o, .int .i64 q, .string t] 31)) (.cells #[.int .i64 0, .int .i64 0, .slice none 0 0] 42)
  simpa only [World.size_alloc] using h
 have G0 : Hid (GI w w4 w4 o q none 0 0 []) := ⟨rfl, rfl, rfl, Nat.le_refl _, fun _ _ _ => rfl, hv4, World.ownsRow_nil _ _ _ _⟩
 have HQ4 : Hid (Rd w4 (some ⟨w.heap.size + 1 + 1 + 1, 0, none⟩) t.size c4 t.data.toList) := q4
 have HBW : Hid (Below w.heap.size w w4) := hbw
 have HR4 : Hid (w4.heap[w.heap.size + 1]? = some (.cells #[.int .i64 0, .int .i64 0, .slice none 0 0] 42 (0, 0))) := hr4
 have HS4 : Hid (w4.heap.size = w.heap.size + 1 + 1 + 1 + 1) := s4
 have HE : Hid (E4 w es) := hE
 have HT : Hid (t.data.toList.length = t.size ∧ s.data.toList.length = s.size) := ⟨size_toList t, size_toList s⟩
 clear q4 b4 s4 hbw hv4 hr4 hE
 go_enter Tryz.func43, Tryz.ntmps43
 go_wp2
 clear hcv
 go_loopw [8, 24] (fun at_ i wr => ∃ (j p : Nat) (va : Option Addr) (c : Nat) (L : List AV), j ≤ s.size ∧ i = .int .i64 j ∧ at_ = .int .i64 p ∧ Mid_WireJ t.data.toList s.data.toList j p L ∧ GI w w4 wr o q va j c L) (fun _ i _ => s.size - (RowKit.intOf i).toNat)
 case atStart => exact ⟨0, 0, none, 0, [], Nat.zero_le _, rfl, rfl, Mid_WireJ.start _ _, G0.out⟩
 case round =>
  obtain ⟨j, p, va, c, L, hj, rfl, rfl, hM, hG⟩ := hrel
  have HM : Hid (Mid_WireJ t.data.toList s.data.toList j p L) := hM
  have HG : Hid (GI w w4 wr o q va j c L) := hG
  have hp : p ≤ 1000000 := by have := hM.2.1; have := HT.out.1; omega
  clear hM hG G0
  by_cases hlt : j < s.size
  ·have hz := str_at s j hlt
   have HC : Hid (Calls Tryz.prog 72 #[.slice (some ⟨w.heap.size + 1 + 1 + 1, 0, none⟩) t.size c4, .int .i64 p, .int .u8 (s[j].toNat : Nat)] wr fun e w' => e = .returned (.tuple #[.agg #[.int .u8 (gaA t.data.toList p s[j].toNat).k, .int .i64 (gaA t.data.toList p s[j].toNat).n, .string (gaA t.data.toList p s[j].toNat).s], .int .i64 (gaX t.data.toList p s[j].toNat : Nat), erv es (gaE t.data.toList p s[j].toNat)]) ∧ Below wr.heap.size wr w') :=
    getArg_any wr _ t.size c4 _ (HG.out.body HQ4.out (by rw [HS4.out]; omega)) (by omega) es (HE.out.below (HG.out.bel HBW.out)) p hp _
   by_cases h0 : gaE t.data.toList p s[j].toNat = 0
   ·have HN : Hid (Mid_WireJ t.data.toList s.data.toList (j + 1) (gaX t.data.toList p s[j].toNat) (L ++ [gaA t.data.toList p s[j].toNat])) := HM.out.step (by rw [HT.out.1]; omega) _ hz h0
    rw [h0] at HC
    clear h0 hz HM hp
    generalize gaX t.data.toList p s[j].toNat = X at *
    generalize gaA t.data.toList p s[j].toNat = A at *
    have ez : erv es 0 = Value.nilIface := rfl
    go_wp2_with fail
    refine HC.out.mono ?_
    rintro e w1 ⟨rfl, b1⟩
    have hG1 := HG.out.next b1
    have hl1 : w.heap.size + 1 + 1 < w1.heap.size := (Array.getElem?_eq_some_iff.1 hG1.var).1
    have k2 : w1.cell? ⟨w.heap.size + 1 + 1, 2, none⟩ = some (.slice va j c) := by rw [World.cell?, hG1.var]; rfl
    have HF : Hid (∀ o1 v5 w5, w5.ownsRow w4.heap.size 34 3 v5 (j + 1) (acs L ++ ac_WireB A) → ((w1.alloc o1).alloc (.cells #[.int .u8 A.k, .int .i64 A.n, .string A.s] 34)).grownBy w5 (Value.slice va j c).ownBlock → ∃ a5 c5, v5 = .slice a5 (j + 1) c5 ∧ w5.cell? ⟨w.heap.size + 1 + 1, 2, none⟩ = some (.slice va j c) ∧ (∀ i, w5.frozen? ⟨w.heap.size + 1 + 1, i, none⟩ = false) ∧ GI w w4 (w5.setCell ⟨w.heap.size + 1 + 1, 2, none⟩ (.slice a5 (j + 1) c5)) o q a5 (j + 1) c5 (L ++ [A])) := fun o1 v5 w5 o5 g5 => by
     have hb2 : Below w1.heap.size w1 ((w1.alloc o1).alloc (.cells #[.int .u8 A.k, .int .i64 A.n, .string A.s] 34)) := ((Below.refl _ _).alloc (Nat.le_refl _) _).alloc (by simp) _
     have hG2 := hG1.next hb2
     obtain ⟨a5, c5, rfl⟩ : ∃ a5 c5, v5 = .slice a5 (j + 1) c5 := by
      rcases o5.2 with ⟨_, h⟩ | ⟨g, cap, cur, rfl, _⟩
      ·omega
      ·exact ⟨_, _, rfl⟩
     have hk4 : w.heap.size + 1 + 1 < w4.heap.size := by rw [HS4.out]; omega
     have hrow := row_lt_WordB hG2.row
     have g5' := g5
     obtain ⟨_, _, _, _, g6⟩ := g5'
     have hv : w5.heap[w.heap.size + 1 + 1]? = some (.cells #[.int .i64 o, .int .i64 q, .slice va j c] 42 (0, 0)) := by
      rw [g6 _ (Nat.lt_of_lt_of_le hk4 hG2.size) (fun hb => by have := hrow _ hb.symm; omega)]
      exact hG2.var
     exact ⟨a5, c5, rfl, by rw [World.cell?, hv]; rfl, Lib.frozen_of_heap hv, hG2.step hk4 A a5 c5 o5 g5⟩
    have HOW : Hid (∀ o1, ((w1.alloc o1).alloc (.cells #[.int .u8 A.k, .int .i64 A.n, .string A.s] 34)).ownsRow w4.heap.size 34 3 (.slice va j c) j (acs L)) := fun o1 => (hG1.row.alloc _).alloc _
    have HSR : Hid (∀ o1, Src Tryz.prog 3 40 (.slice (some ⟨w1.heap.size + 1, 0, none⟩) 1 1) 1 (ac_WireB A) ((w1.alloc o1).alloc (.cells #[.int .u8 A.k, .int .i64 A.n, .string A.s] 34))) := fun o1 => by
     have h := cells3_WireJ (w1.alloc o1) A 34
     simp only [World.size_alloc] at h
     exact Src.ofSlice _ Tryz.underlying40 ⟨w1.heap.size + 1, 0, none⟩ 1 1 (ac_WireB A) rfl h (ac_one A)
    have HZ : Hid (∀ o1, w4.heap.size ≤ ((w1.alloc o1).alloc (.cells #[.int .u8 A.k, .int .i64 A.n, .string A.s] 34)).heap.size) := fun o1 => by have := hG1.size; simp; omega
    clear hG1 b1 HC HG
    go_wp2_with (at_builtin; refine wpList_append_own_src _ rfl (.tmp 45) (.tmp 47) 40 40 rfl w4.heap.size 34 iA (.agg #[.int .u8 0, .int .i64 0, .string ⟨#[]⟩]) 3 32 Tryz.underlying40 hiA hzA0 hzA1 hzA2 rfl _ _ _ rfl (HOW.out _) _ _ _ rfl (HSR.out _) (by simp only [maxLen]; omega) (fits32j (by omega)) (HZ.out _) ?_; intro v5 w5 o5 g5; obtain ⟨a5, c5, rfl, y2, yf, G5⟩ := HF.out _ _ _ o5 g5; have HG5 : Hid _ := G5; clear o5 g5 G5 HF HOW HSR HZ k2)
    go_roundw
    case rel => exact ⟨j + 1, X, a5, c5, _, by omega, by go_num, rfl, HN.out, HG5.out⟩
    case measure => simp [RowKit.intOf]; omega
   ·have HX : Hid (gotE o q t.data.toList s.data.toList = gaE t.data.toList p s[j].toNat) := by
     have h1 := HM.out.1
     rw [gets_stop _ _ _ _ _ hz h0] at h1
     simp only [Hid]
     rw [gotE, h1, if_pos h0]
    obtain ⟨m, hm⟩ : ∃ m, gaE t.data.toList p s[j].toNat = m + 1 := ⟨gaE t.data.toList p s[j].toNat - 1, by omega⟩
    have e2 : gaA t.data.toList p s[j].toNat = ⟨0, 0, ⟨#[]⟩⟩ := by rw [gaA, if_neg h0]
    have e3 : gaX t.data.toList p s[j].toNat = 0 := by rw [gaX, if_neg h0]
    rw [hm] at HC HX
    rw [e2, e3] at HC
    clear h0 hz HM hp e2 e3 hm
    obtain ⟨y, hy⟩ : ∃ y, erv es (m + 1) = .iface 392 (.pointer (some y)) := ⟨_, rfl⟩
    have HY : Hid (erv es (m + 1) = .iface 392 (.pointer (some y))) := hy
    rw [hy] at HC
    clear hy
    go_wp2_with fail
    refine HC.out.mono ?_
    rintro e w1 ⟨rfl, b1⟩
    have hG1 := HG.out.next b1
    have hz1 : w1.heap[w.heap.size + 1]? = some (.cells #[.int .i64 0, .int .i64 0, .slice none 0 0] 42 (0, 0)) := by
     rw [hG1.block _ (by rw [HS4.out]; omega) (by omega)]
     exact HR4.out
    have zl : w.heap.size + 1 < w1.heap.size := (Array.getElem?_eq_some_iff.1 hz1).1
    have z0 : w1.cell? ⟨w.heap.size + 1, 0, none⟩ = some (.int .i64 0) := by rw [World.cell?, hz1]; rfl
    have z1 : w1.cell? ⟨w.heap.size + 1, 1, none⟩ = some (.int .i64 0) := by rw [World.cell?, hz1]; rfl
    have z2 : w1.cell? ⟨w.heap.size + 1, 2, none⟩ = some (.slice none 0 0) := by rw [World.cell?, hz1]; rfl
    have zf : ∀ k, w1.frozen? ⟨w.heap.size + 1, k, none⟩ = false := Lib.frozen_of_heap hz1
    have HB : Hid (Below w.heap.size w w1) := hG1.bel HBW.out
    clear hz1 hG1 b1 HC HG
    go_wp2
    refine bodyPost_ret (v := .tuple #[.agg #[.int .i64 0, .int .i64 0, .slice none 0 0], fnd_WireB (.iface 392 (.pointer (some y))) j]) ?_ rfl ⟨_, _, rfl, ?_, gotIs_not (by rw [HX.out]; omega), ?_⟩
    ·simp [results, Tryz.results43, go_sem, fnd_WireB, z0, z1, z2, zl]
    ·rw [HX.out]
     exact .inr ⟨by omega, j, by rw [HY.out]⟩
    ·have hb3 : Below w.heap.size w (((w1.setCell ⟨w.heap.size + 1, 0, none⟩ (.int .i64 0)).setCell ⟨w.heap.size + 1, 1, none⟩ (.int .i64 0)).setCell ⟨w.heap.size + 1, 2, none⟩ (.slice none 0 0)) := ((HB.out.setCell (p := ⟨w.heap.size + 1, 0, none⟩) (Nat.le_succ _) _).setCell (p := ⟨w.heap.size + 1, 1, none⟩) (Nat.le_succ _) _).setCell (p := ⟨w.heap.size + 1, 2, none⟩) (Nat.le_succ _) _
     exact hb3.alloc hb3.size _
  ·have hjn : j = s.size := by omega
   have hgets : gets t.data.toList 0 s.data.toList = (0, L, p) := by
    have h1 := HM.out.1
    rw [List.drop_of_length_le (by rw [HT.out.2]; omega)] at h1
    rw [h1]
    simp [gets]
   have HGT : Hid (gets t.data.toList 0 s.data.toList = (0, L, p)) := hgets
   have hpl : p ≤ t.size := by rw [← HT.out.1]; exact HM.out.2.1
   have hz1 : wr.heap[w.heap.size + 1]? = some (.cells #[.int .i64 0, .int .i64 0, .slice none 0 0] 42 (0, 0)) := by
    rw [HG.out.block _ (by rw [HS4.out]; omega) (by omega)]
    exact HR4.out
   have hlow := World.block_lt_of_cell? w _ HE.out.bytes
   have hB3 : wr.cell? ⟨4, 0, none⟩ = some (erv es 3) := (HE.out.below (HG.out.bel HBW.out)).bytes
   by_cases hpt : p < t.size
   ·have e1 : decide ((p : Int) < t.size) = true := decide_eq_true (by omega)
    have HX : Hid (gotE o q t.data.toList s.data.toList = 3) := by
     simp only [Hid]
     rw [gotE, HGT.out, if_neg (by simp), if_pos (by rw [HT.out.1]; exact hpt)]
    have zl : w.heap.size + 1 < wr.heap.size := (Array.getElem?_eq_some_iff.1 hz1).1
    have z0 : wr.cell? ⟨w.heap.size + 1, 0, none⟩ = some (.int .i64 0) := by rw [World.cell?, hz1]; rfl
    have z1 : wr.cell? ⟨w.heap.size + 1, 1, none⟩ = some (.int .i64 0) := by rw [World.cell?, hz1]; rfl
    have z2 : wr.cell? ⟨w.heap.size + 1, 2, none⟩ = some (.slice none 0 0) := by rw [World.cell?, hz1]; rfl
    have zf : ∀ k, wr.frozen? ⟨w.heap.size + 1, k, none⟩ = false := Lib.frozen_of_heap hz1
    have hcs : ∀ v, (wr.setCell ⟨w.heap.size + 1, 0, none⟩ v).cell? ⟨4, 0, none⟩ = some (erv es 3) := fun v => by
     rw [World.cell?_setCell_other _ _ _ _ (fun h => by have := congrArg Addr.block h; simp only at this hlow; omega)]
     exact hB3
    have HB : Hid (Below w.heap.size w wr) := HG.out.bel HBW.out
    clear hz1 HG HGT hgets HM hpl hjn hlow
    go_wp2
    go_region
    all_goals
     go_wp2
     refine bodyPost_ret (v := .tuple #[.agg #[.int .i64 0, .int .i64 0, .slice none 0 0], erv es 3]) ?_ rfl ⟨_, _, rfl, ?_, gotIs_not (by rw [HX.out]; decide), ?_⟩
     ·simp [results, Tryz.results43, go_sem, z0, z1, z2]
     ·rw [HX.out]
      exact .inl rfl
     ·exact (((HB.out.setCell (p := ⟨w.heap.size + 1, 0, none⟩) (Nat.le_succ _) _).setCell (p := ⟨w.heap.size + 1, 1, none⟩) (Nat.le_succ _) _).setCell (p := ⟨w.heap.size + 1, 2, none⟩) (Nat.le_succ _) _).drew
   ·have e1 : decide ((p : Int) < t.size) = false := decide_eq_false (by omega)
    have HX : Hid (gotE o q t.data.toList s.data.toList = noB (chk_WireB o q L s.data.toList)) := by
     simp only [Hid]
     rw [gotE, HGT.out, if_neg (by simp), if_neg (by rw [HT.out.1]; exact hpt)]
    have hL := HM.out.2.2.2
    obtain ⟨va', c', hv', hrd, hblk⟩ := rda_of_owns HG.out.row (fun x hx => (hL x hx).1)
    obtain ⟨rfl, rfl⟩ : va = va' ∧ c = c' := by cases hv'; exact ⟨rfl, rfl⟩
    have hsm : Small L := fun x hx => by have := (hL x hx).2; omega
    have HC : Hid (Calls Tryz.prog 73 #[.agg #[.int .i64 o, .int .i64 q, .slice va j c], .string s] wr fun e w' => ∃ r, e = .returned r ∧ Er_WireB es r (noB (chk_WireB o q L s.data.toList)) ∧ Below wr.heap.size wr w') :=
     check_any_WireC o q va j c L s wr hrd hsm (by omega) es (HE.out.below (HG.out.bel HBW.out)).arg
    have y0 : wr.cell? ⟨w.heap.size + 1 + 1, 0, none⟩ = some (.int .i64 o) := by rw [World.cell?, HG.out.var]; rfl
    have y1 : wr.cell? ⟨w.heap.size + 1 + 1, 1, none⟩ = some (.int .i64 q) := by rw [World.cell?, HG.out.var]; rfl
    have y2 : wr.cell? ⟨w.heap.size + 1 + 1, 2, none⟩ = some (.slice va j c) := by rw [World.cell?, HG.out.var]; rfl
    have HRD : Hid (RdA wr va j c L ∧ Small L ∧ ∀ x, va = some x → w4.heap.size ≤ x.block) := ⟨hrd, hsm, fun x hx => (hblk x hx).1⟩
    have HV : Hid (∀ u, Below wr.heap.size wr u → u.heap[w.heap.size + 1]? = some (.cells #[.int .i64 0, .int .i64 0, .slice none 0 0] 42 (0, 0)) ∧ u.heap[w.heap.size + 1 + 1]? = some (.cells #[.int .i64 o, .int .i64 q, .slice va j c] 42 (0, 0)) ∧ Below w.heap.size w u ∧ RdA u va j c L) := fun u hu =>
     ⟨by rw [hu.block _ (Array.getElem?_eq_some_iff.1 hz1).1]; exact hz1, by rw [hu.block _ (Array.getElem?_eq_some_iff.1 HG.out.var).1]; exact HG.out.var, Below.on (HG.out.bel HBW.out) hu, hrd.below hu hrd.low⟩
    clear hz1 HG hgets HM hpl hlow hrd hsm hblk hL hB3 hv' hjn
    generalize hq : chk_WireB o q L s.data.toList = Q at *
    cases Q with
    | false =>
     go_wp2_with fail
     refine HC.out.mono ?_
     rintro e w1 ⟨r, rfl, he, b1⟩
     obtain ⟨hz1, hy1, hb1, _⟩ := HV.out w1 b1
     have zl : w.heap.size + 1 < w1.heap.size := (Array.getElem?_eq_some_iff.1 hz1).1
     have z0 : w1.cell? ⟨w.heap.size + 1, 0, none⟩ = some (.int .i64 0) := by rw [World.cell?, hz1]; rfl
     have z1 : w1.cell? ⟨w.heap.size + 1, 1, none⟩ = some (.int .i64 0) := by rw [World.cell?, hz1]; rfl
     have z2 : w1.cell? ⟨w.heap.size + 1, 2, none⟩ = some (.slice none 0 0) := by rw [World.cell?, hz1]; rfl
     have zf : ∀ k, w1.frozen? ⟨w.heap.size + 1, k, none⟩ = false := Lib.frozen_of_heap hz1
     have HEr : Hid (Er_WireB es r 1) := he
     obtain ⟨tt, tv, rfl⟩ := he.some
     have HB : Hid (Below w.heap.size w w1) := hb1
     clear hz1 hy1 hb1 b1 he HC HV HRD
     go_wp2
     refine bodyPost_ret (v := .tuple #[.agg #[.int .i64 0, .int .i64 0, .slice none 0 0], .iface tt tv]) ?_ rfl ⟨_, _, rfl, ?_, gotIs_not (by rw [HX.out]; decide), ?_⟩
     ·simp [results, Tryz.results43, go_sem, z0, z1, z2]
     ·rw [HX.out]
      exact HEr.out
     ·exact ((HB.out.setCell (p := ⟨w.heap.size + 1, 0, none⟩) (Nat.le_succ _) _).setCell (p := ⟨w.heap.size + 1, 1, none⟩) (Nat.le_succ _) _).setCell (p := ⟨w.heap.size + 1, 2, none⟩) (Nat.le_succ _) _
    | true =>
     go_wp2_with fail
     refine HC.out.mono ?_
     rintro e w1 ⟨r, rfl, he, b1⟩
     obtain rfl := he.nil
     obtain ⟨hz1, hy1, hb1, hrd1⟩ := HV.out w1 b1
     have zl : w.heap.size + 1 < w1.heap.size := (Array.getElem?_eq_some_iff.1 hz1).1
     have z0 : w1.cell? ⟨w.heap.size + 1, 0, none⟩ = some (.int .i64 0) := by rw [World.cell?, hz1]; rfl
     have z1 : w1.cell? ⟨w.heap.size + 1, 1, none⟩ = some (.int .i64 0) := by rw [World.cell?, hz1]; rfl
     have z2 : w1.cell? ⟨w.heap.size + 1, 2, none⟩ = some (.slice none 0 0) := by rw [World.cell?, hz1]; rfl
     have zf : ∀ k, w1.frozen? ⟨w.heap.size + 1, k, none⟩ = false := Lib.frozen_of_heap hz1
     have x0 : w1.cell? ⟨w.heap.size + 1 + 1, 0, none⟩ = some (.int .i64 o) := by rw [World.cell?, hy1]; rfl
     have x1 : w1.cell? ⟨w.heap.size + 1 + 1, 1, none⟩ = some (.int .i64 q) := by rw [World.cell?, hy1]; rfl
     have x2 : w1.cell? ⟨w.heap.size + 1 + 1, 2, none⟩ = some (.slice va j c) := by rw [World.cell?, hy1]; rfl
     have HB : Hid (Below w.heap.size w w1) := hb1
     have HR1 : Hid (RdA w1 va j c L) := hrd1
     clear hz1 hy1 hb1 b1 he HC HV hrd1
     go_wp2
     refine bodyPost_ret (v := .tuple #[.agg #[.int .i64 o, .int .i64 q, .slice va j c], .nilIface]) ?_ rfl ⟨_, _, rfl, ?_, ?_, ?_⟩
     ·simp [results, Tryz.results43, go_sem, z0, z1, z2]
     ·rw [HX.out]
      exact .inl rfl
     ·have hX0 : gotE o q t.data.toList s.data.toList = 0 := HX.out
      have hne : ∀ x, va = some x → x.block ≠ w.heap.size + 1 := fun x hx => by have := HRD.out.2.2 x hx; have := HS4.out; omega
      have eL : gotL o q t.data.toList s.data.toList = L := by rw [gotL, if_pos hX0, HGT.out]
      refine ⟨va, j, c, by rw [gotO, gotQ, if_pos hX0, if_pos hX0], ?_, ?_, fun x hx => by have := HRD.out.2.2 x hx; have := HS4.out; omega⟩
      ·rw [eL]
       exact ((HR1.out.set _ 0 _ hne).set _ 1 _ hne).set _ 2 _ hne
      ·rw [eL]
       exact HRD.out.2.1
     ·exact ((HB.out.setCell (p := ⟨w.heap.size + 1, 0, none⟩) (Nat.le_succ _) _).setCell (p := ⟨w.heap.size + 1, 1, none⟩) (Nat.le_succ _) _).setCell (p := ⟨w.heap.size + 1, 2, none⟩) (Nat.le_succ _) _
end
end Go.Proofs.YtpbgbpcdohdecaaGreatDoor
