/- ReaderMany's walk: for every messages the law returns true; nothing that was there is turned. -/
import Derived.Test.YtfbebifbfpkdaaaDoorOpn5
import Derived.Deep.CutRange
import Derived.Deep.DeepCutAuto
import Derived.Deep.RegionWith
namespace Go.Proofs.YtfbebifbfpkdaaaDoor.readerMany
open Go Go.RowKit

/-- A message's bytes. -/
def enc (x : RV) : List UInt8 := le4 x.o.toNat ++ le4 ((x.s.size + 8) * 65536 + x.p.toNat) ++ x.s.data.toList

structure Fit (x : RV) : Prop where
  o : 0 ≤ x.o ∧ x.o < 4294967296
  p : 0 ≤ x.p ∧ x.p < 65536
  s : x.s.size ≤ 400
  m : x.s.size % 4 = 0

theorem size_toList (s : ByteArray) : s.data.toList.length = s.size := by rw [Array.length_toList]; rfl

theorem enc_length (x : RV) : (enc x).length = 8 + x.s.size := by
  rw [enc, List.length_append, List.length_append, size_toList]
  rfl

theorem enc_tk (x : RV) (h : Fit x) (rest : List UInt8) : tk (enc x ++ rest) = (x :: (tk rest).1, (tk rest).2) := by
  have ho := h.o
  have hp := h.p
  have hs := h.s
  have hm := h.m
  have h0 : num4 (enc x ++ rest) 0 = x.o.toNat := by
    have := num4_at [] (le4 ((x.s.size + 8) * 65536 + x.p.toNat) ++ x.s.data.toList ++ rest) x.o.toNat (by omega)
    rw [List.nil_append] at this
    rw [enc, List.append_assoc, List.append_assoc]
    rw [List.append_assoc] at this
    exact this
  have h4 : num4 (enc x ++ rest) 4 = (x.s.size + 8) * 65536 + x.p.toNat := by
    have := num4_at (le4 x.o.toNat) (x.s.data.toList ++ rest) ((x.s.size + 8) * 65536 + x.p.toNat) (by omega)
    rw [enc, List.append_assoc, List.append_assoc]
    exact this
  have hl : (enc x ++ rest).length = 8 + x.s.size + rest.length := by rw [List.length_append, enc_length]
  have hZ : hdZ (enc x ++ rest) = x.s.size + 8 := by rw [hdZ, h4]; omega
  have hE : hdE (enc x ++ rest) = 0 := by rw [hdE, hZ, if_neg (by omega), if_neg (by omega), if_neg (by omega)]
  have hS : hdS (enc x ++ rest) = x.s.size + 8 := by rw [hdS, if_pos hE, hZ]
  have hO : (hdO (enc x ++ rest) : Int) = x.o := by rw [hdO, if_pos hE, h0]; omega
  have hP : (hdP (enc x ++ rest) : Int) = x.p := by rw [hdP, if_pos hE, h4]; omega
  have hf : fE (enc x ++ rest) = 0 := by rw [fE, if_neg (by omega), if_neg (by omega)]
  have hd8 : (enc x ++ rest).drop 8 = x.s.data.toList ++ rest := by
    rw [enc, List.append_assoc, List.append_assoc, ← List.append_assoc (le4 _)]
    exact List.drop_left' rfl
  have hM : fM (enc x ++ rest) = x := by
    rw [fM, hd8, hS, hO, hP, Nat.add_sub_cancel, List.take_left' (size_toList x.s)]
  rw [tk_zero hf, hM, hS, show x.s.size + 8 = 8 + x.s.size by omega, ← List.drop_drop, hd8, List.drop_left' (size_toList x.s)]

def Many (B : List UInt8) (ms : List RV) : Prop := ∀ rest, tk (B ++ rest) = (ms ++ (tk rest).1, (tk rest).2)

theorem Many.nil : Many [] [] := fun _ => rfl
theorem Many.step {B : List UInt8} {ms : List RV} (h : Many B ms) (x : RV) (hx : Fit x) : Many (B ++ enc x) (ms ++ [x]) := fun rest => by
  rw [List.append_assoc, h, enc_tk x hx, List.append_assoc]
  rfl

theorem place_int (v m : Int) (hv : -9223372036854775808 ≤ v ∧ v ≤ 9223372036854775807) (hm : 0 < m ∧ m ≤ 4294967296) (w : World) :
    Calls Tryd.prog 15 #[.int .i64 v, .int .i64 m] w fun e w' => e = .returned (.int .i64 (v % m)) ∧ w' = w := by
  obtain ⟨k, rfl⟩ := Int.eq_ofNat_of_zero_le (show 0 ≤ m by omega)
  have h := place_any v k hv (by omega) (by omega) w
  have e : ((plc v k : Nat) : Int) = v % (k : Int) := by
    have := Int.emod_nonneg v (b := (k : Int)) (by omega)
    unfold plc
    omega
  rw [e] at h
  exact h

theorem fd0 (b : List UInt8) : fdM ⟨[], 0⟩ b = (tk b).1 ∧ fdE ⟨[], 0⟩ b = (tk b).2.2 ∧ fdS ⟨[], 0⟩ b = ⟨(tk b).2.1, (tk b).2.2⟩ := ⟨rfl, rfl, rfl⟩

/-- What is gathered: the bytes, the messages. -/
structure MInv (w wr : World) (v3 v4 : Value) (B : List UInt8) (ms : List RV) : Prop where
  bel : Below w.heap.size w wr
  rb : wr.ownsRow w.heap.size 5 1 v3 B.length (bc B)
  rm : wr.ownsRow w.heap.size 46 3 v4 ms.length (rcs ms)
  ne : ∀ g, v3.ownBlock = some g → v4.ownBlock ≠ some g

theorem MInv.on {w wr u : World} {v3 v4 : Value} {B : List UInt8} {ms : List RV} (h : MInv w wr v3 v4 B ms) (hb : Below wr.heap.size wr u) : MInv w u v3 v4 B ms :=
  ⟨Below.on h.bel hb, ownsRow_below h.rb hb, ownsRow_below h.rm hb, h.ne⟩

theorem MInv.appB {w wr u : World} {v3 v4 v' : Value} {B b : List UInt8} {ms : List RV} (h : MInv w wr v3 v4 B ms) {n : Nat} (hn : b.length = n) (o : u.ownsRow w.heap.size 5 1 v' (B.length + n) (bc B ++ bc b)) (g : wr.grownBy u v3.ownBlock) (hv : v'.ownBlock = v3.ownBlock ∨ v'.ownBlock = some wr.heap.size) : MInv w u v' v4 (B ++ b) ms := by
  refine ⟨h.bel.grown g h.bel.size (row_lt h.rb), by rw [bc_append, List.length_append, hn]; exact o, (kp_of_grown g).row h.rm (fun k hk hm => ?_), fun k hk hk4 => ?_⟩
  · exact h.ne k (by simpa using hm) hk
  · rcases hv with e | e
    · exact h.ne k (by rw [← e]; exact hk) hk4
    · rw [e] at hk
      simp only [Option.some.injEq] at hk
      have := (h.rm.lt k hk4).2
      omega

theorem MInv.appM {w wr u : World} {v3 v4 v' : Value} {B : List UInt8} {ms ns : List RV} (h : MInv w wr v3 v4 B ms) {n : Nat} (hn : ns.length = n) (o : u.ownsRow w.heap.size 46 3 v' (ms.length + n) (rcs ms ++ rcs ns)) (g : wr.grownBy u v4.ownBlock) (hv : v'.ownBlock = v4.ownBlock ∨ v'.ownBlock = some wr.heap.size) : MInv w u v3 v' B (ms ++ ns) := by
  refine ⟨h.bel.grown g h.bel.size (row_lt h.rm), (kp_of_grown g).row h.rb (fun k hk hm => ?_), by rw [rcs_append, List.length_append, hn]; exact o, fun k hk hk4 => ?_⟩
  · exact h.ne k hk (by simpa using hm)
  · rcases hv with e | e
    · exact h.ne k hk (by rw [← e]; exact hk4)
    · rw [e] at hk4
      simp only [Option.some.injEq] at hk4
      have := (h.rb.lt k hk).2
      omega

/-- .. and the variable x at block X. -/
structure XI (w : World) (X : Nat) (o : Obj) (u : World) (v3 v4 : Value) (B : List UInt8) (ms : List RV) : Prop where
  inv : MInv w u v3 v4 B ms
  var : u.heap[X]? = some o
  n3 : v3.ownBlock ≠ some X
  n4 : v4.ownBlock ≠ some X

theorem XI.lt {w : World} {X : Nat} {o : Obj} {u : World} {v3 v4 : Value} {B : List UInt8} {ms : List RV} (h : XI w X o u v3 v4 B ms) : X < u.heap.size := (Array.getElem?_eq_some_iff.1 h.var).1

theorem XI.start {w wr u : World} {o : Obj} {v3 v4 : Value} {B : List UInt8} {ms : List RV} (h : MInv w wr v3 v4 B ms) (hv : u.heap[wr.heap.size]? = some o) (hb : Below wr.heap.size wr u) : XI w wr.heap.size o u v3 v4 B ms :=
  ⟨h.on hb, hv, fun e => by have := (h.rb.lt _ e).2; omega, fun e => by have := (h.rm.lt _ e).2; omega⟩

theorem XI.on {w : World} {X : Nat} {o : Obj} {u u' : World} {v3 v4 : Value} {B : List UInt8} {ms : List RV} (h : XI w X o u v3 v4 B ms) (hb : Below u.heap.size u u') : XI w X o u' v3 v4 B ms :=
  ⟨h.inv.on hb, by rw [hb.block X h.lt]; exact h.var, h.n3, h.n4⟩

theorem XI.appB {w : World} {X : Nat} {ob : Obj} {u u' : World} {v3 v4 v' : Value} {B b : List UInt8} {ms : List RV} (h : XI w X ob u v3 v4 B ms) {n : Nat} (hn : b.length = n) (o : u'.ownsRow w.heap.size 5 1 v' (B.length + n) (bc B ++ bc b)) (g : u.grownBy u' v3.ownBlock) (hv : v'.ownBlock = v3.ownBlock ∨ v'.ownBlock = some u.heap.size) : XI w X ob u' v' v4 (B ++ b) ms := by
  have hl := h.lt
  refine ⟨h.inv.appB hn o g hv, by rw [g.block X hl (fun e => h.n3 e.symm)]; exact h.var, ?_, h.n4⟩
  rcases hv with e | e
  · rw [e]; exact h.n3
  · rw [e]; intro e'; simp only [Option.some.injEq] at e'; omega

theorem XI.appM {w : World} {X : Nat} {ob : Obj} {u u' : World} {v3 v4 v' : Value} {B : List UInt8} {ms ns : List RV} (h : XI w X ob u v3 v4 B ms) {n : Nat} (hn : ns.length = n) (o : u'.ownsRow w.heap.size 46 3 v' (ms.length + n) (rcs ms ++ rcs ns)) (g : u.grownBy u' v4.ownBlock) (hv : v'.ownBlock = v4.ownBlock ∨ v'.ownBlock = some u.heap.size) : MInv w u' v3 v' B (ms ++ ns) :=
  h.inv.appM hn o g hv

set_option maxRecDepth 100000 in
set_option maxHeartbeats 2000000 in
theorem core (a : Option Addr) (n c : Nat) (l : List RV) (w : World) (hr : RdR w a n c l) (hok : ∀ x ∈ l, x.Ok) (es : List Addr) (hE : Errs w gerrs es) :
    Calls Tryd.prog 5 #[.slice a n c] w fun e w' => e = .returned (.bool true) ∧ Below w.heap.size w w' := by
  obtain ⟨i0, hi, hz0, hz1, hz2⟩ := info_parts infoU8
  obtain ⟨iA, hiA, hzA0, hzA1, hzA2⟩ := info_parts infoRaw
  have HE := hid hE
  have HR := hid hr
  have HOK := hid hok
  have hm : n ≤ 9223372036854775807 := by have := Nat.le_trans hr.le hr.max; simp only [maxLen] at this; omega
  clear hE hr hok
  go_enter Tryd.func5, Tryd.ntmps5
  go_wp2
  go_loopw [3, 4, 5] (fun v3 v4 i wr => ∃ (j : Nat) (B : List UInt8) (ms : List RV), i = .int .i64 j ∧ j ≤ 30 ∧ j ≤ n ∧ MInv w wr v3 v4 B ms ∧ Many B ms ∧ B.length ≤ 408 * j ∧ ms.length ≤ j) (fun _ _ i _ => 30 - (intOf i).toNat)
  case atStart => exact ⟨0, [], [], rfl, by decide, Nat.zero_le _, ⟨Below.refl _ _, World.ownsRow_nil _ _ _ _, World.ownsRow_nil _ _ _ _, fun g hg => by simp [Value.ownBlock] at hg⟩, Many.nil, by decide, by decide⟩
  case round =>
    obtain ⟨j, B, ms, rfl, hj30, hjn, hI, hM, hBl, hml⟩ := hrel
    have IV := hid hI
    have HM := hid hM
    clear hI hM
    by_cases hgo : j < n ∧ j < 30
    · have e1 : decide ((j : Int) < n) = true := decide_eq_true (by omega)
      have e2 : decide ((j : Int) < 30) = true := decide_eq_true (by omega)
      obtain ⟨b, off, rfl, _, hc⟩ := HR.out.plain (by omega)
      obtain ⟨x, hx⟩ : ∃ x, l[j]? = some x := ⟨_, List.getElem?_eq_getElem (by have := HR.out.len; omega)⟩
      obtain ⟨c0, c1, c2⟩ := hc j x hx
      have hxo := HOK.out x (List.mem_of_getElem? hx)
      have hlow : ∀ {i v}, w.cell? ⟨b, i, none⟩ = some v → wr.cell? ⟨b, i, none⟩ = some v := fun {i v} h => by rw [IV.out.bel.cell (World.block_lt_of_cell? w _ h)]; exact h
      replace c0 := hlow c0
      replace c1 := hlow c1
      replace c2 := hlow c2
      have hlt : (j : Int) < n := by omega
      have hxs : x.s.size ≤ 9223372036854775807 := by have := hxo.s; simp only [maxLen] at this; omega
      have hxo' := hid hxo
      clear hc hx hlow hxo
      by_cases h4 : 400 < x.s.size
      · have e3 : decide ((400 : Int) < x.s.size) = true := decide_eq_true (by omega)
        go_wp2
        refine ⟨⟨j + 1, B, ms, by go_num, by omega, by omega, IV.out.on ((Below.refl _ _).alloc (Nat.le_refl _) _), HM.out, by omega, by omega⟩, by simp [intOf]; omega⟩
      by_cases h5 : x.s.size % 4 = 0
      · have e3 : decide ((400 : Int) < x.s.size) = false := decide_eq_false (by omega)
        have e4 : ((x.s.size : Int) % 4 != 0) = false := by rw [bne_eq_false_iff_eq]; omega
        go_upto_region 8 with fail
        go_cut [] from 18 to 77 (fun wx => wx.heap[wr.heap.size]? = some (.cells #[.int .i64 (x.o % 4294967296), .int .i64 (x.p % 65536), .string x.s] 46 (0, 0)) ∧ Below wr.heap.size wr wx)
        case first =>
          go_region_with (go_at_call 15; refine (place_int _ _ (by first | exact hxo'.out.o | exact hxo'.out.p) (by decide) _).mono ?_; rintro e w' ⟨rfl, rfl⟩)
          all_goals
            go_wp2_with fail
            go_meet
            exact ⟨heap_alloc_new wr _, ((Below.refl _ _).alloc (Nat.le_refl _) _).drew⟩
        case rest =>
          obtain ⟨hv0, hb0⟩ := hcut
          obtain ⟨O, hO⟩ : ∃ O : Nat, x.o % 4294967296 = O := Int.eq_ofNat_of_zero_le (Int.emod_nonneg _ (by decide))
          obtain ⟨Q, hQ⟩ : ∃ Q : Nat, x.p % 65536 = Q := Int.eq_ofNat_of_zero_le (Int.emod_nonneg _ (by decide))
          have hO2 : O < 4294967296 := by have := Int.emod_lt_of_pos x.o (show (0 : Int) < 4294967296 by decide); omega
          have hQ2 : Q < 65536 := by have := Int.emod_lt_of_pos x.p (show (0 : Int) < 65536 by decide); omega
          rw [hO, hQ] at hv0
          have X0 := hid (XI.start IV.out hv0 hb0)
          have HFIT : Hid (Fit ⟨O, Q, x.s⟩) := ⟨⟨by show (0 : Int) ≤ O; omega, by show (O : Int) < 4294967296; omega⟩, ⟨by show (0 : Int) ≤ Q; omega, by show (Q : Int) < 65536; omega⟩, by show x.s.size ≤ 400; omega, h5⟩
          have CX : Hid (∀ u v3 v4 C ns, XI w wr.heap.size (.cells #[.int .i64 O, .int .i64 Q, .string x.s] 46 (0, 0)) u v3 v4 C ns → u.cell? ⟨wr.heap.size, 0, none⟩ = some (.int .i64 O) ∧ u.cell? ⟨wr.heap.size, 1, none⟩ = some (.int .i64 Q) ∧ u.cell? ⟨wr.heap.size, 2, none⟩ = some (.string x.s)) := fun u v3 v4 C ns h => ⟨by rw [Lib.cell_of_heap h.var]; rfl, by rw [Lib.cell_of_heap h.var]; rfl, by rw [Lib.cell_of_heap h.var]; rfl⟩
          have hs400 : x.s.size ≤ 400 := by omega
          generalize x.s = s at *
          generalize wr.heap.size = X at *
          clear hO hQ hv0 hb0 c0 c1 c2 e3 e4 h4 hxo' hxs IV
          obtain ⟨y0, y1, y2⟩ := CX.out _ _ _ _ _ X0.out
          have HP1 := hid (rPut_any wc O hO2)
          have hOm : (O : Int) % 4294967296 = O := Int.emod_eq_of_lt (by omega) (by omega)
          have hQm : (Q : Int) % 4294967296 = Q := Int.emod_eq_of_lt (by omega) (by omega)
          go_wp2_with fail
          refine HP1.out.mono ?_
          rintro e w1 ⟨r1, rfl, o1, b1⟩
          obtain ⟨a1, d1, rfl, q1, _⟩ := rd_of_owns o1
          have X1 := hid (X0.out.on b1)
          have HS1 := hid (q1.src (P := Tryd.prog) Tryd.underlying26)
          have HO1 := hid X1.out.inv.rb
          have hz1' := X1.out.inv.bel.size
          have HA1 := hid (fun v' u' o g hv => X1.out.appB (v' := v') (u' := u') (b := le4 O) (n := 4) rfl o g hv)
          clear o1 b1 q1 y0 y1 y2 HP1 X0
          go_wp2_with (at_builtin; refine wpList_append_own_at _ rfl (.tmp 51) (.tmp 55) 26 26 rfl w.heap.size 5 i0 (.int .u8 0) 1 1 Tryd.underlying26 hi hz0 hz1 hz2 rfl _ _ _ rfl HO1.out _ _ _ rfl HS1.out (by simp only [maxLen]; omega) (fits1 (by omega)) hz1' ?_; intro v2 w2 o2 g2 hv2; have X2 := hid (HA1.out _ _ o2 g2 hv2); obtain ⟨y0, y1, y2⟩ := CX.out _ _ _ _ _ X2.out; clear o2 g2 hv2 HA1 HO1 HS1 X1)
          have HP2 : Hid (Calls Tryd.prog 16 #[.int .u32 (((s.size : Int) + 8) * 65536 + Q)] w2 fun e w' => ∃ r, e = .returned r ∧ w'.ownsRow w2.heap.size 5 1 r 4 (bc (le4 ((s.size + 8) * 65536 + Q))) ∧ Below w2.heap.size w2 w') := by
            have h := rPut_any w2 ((s.size + 8) * 65536 + Q) (by omega)
            rw [show (((s.size + 8) * 65536 + Q : Nat) : Int) = ((s.size : Int) + 8) * 65536 + Q by omega] at h
            exact h
          refine HP2.out.mono ?_
          rintro e w3 ⟨r3, rfl, o3, b3⟩
          obtain ⟨a3, d3, rfl, q3, _⟩ := rd_of_owns o3
          have X3 := hid (X2.out.on b3)
          have HS3 := hid (q3.src (P := Tryd.prog) Tryd.underlying26)
          have HO3 := hid X3.out.inv.rb
          have hz3 := X3.out.inv.bel.size
          have HA3 := hid (fun v' u' o g hv => X3.out.appB (v' := v') (u' := u') (b := le4 ((s.size + 8) * 65536 + Q)) (n := 4) rfl o g hv)
          have hl3 : (B ++ le4 O).length ≤ 100000 := by rw [List.length_append]; show B.length + 4 ≤ _; omega
          clear o3 b3 q3 y0 y1 y2 HP2 X2
          have SRC : Hid (∀ u : World, Src Tryd.prog 3 30 (.slice (some ⟨u.heap.size, 0, none⟩) 1 1) 1 (rcs [⟨O, Q, s⟩]) (u.alloc (.cells #[.int .i64 O, .int .i64 Q, .string s] 46 (0, 0)))) := fun u =>
            Src.ofSlice (P := Tryd.prog) _ Tryd.underlying30 ⟨u.heap.size, 0, none⟩ 1 1 (rcs [⟨O, Q, s⟩]) (show (rcs [⟨O, Q, s⟩]).length = 1 * 3 from rfl) (cells3 u ⟨O, Q, s⟩ 46) (rcs_one _)
          go_wp2_with (first | (at_builtin; refine wpList_append_own_at _ rfl (.tmp 57) (.tmp 68) 26 26 rfl w.heap.size 5 i0 (.int .u8 0) 1 1 Tryd.underlying26 hi hz0 hz1 hz2 rfl _ _ _ rfl HO3.out _ _ _ rfl HS3.out (by simp only [maxLen]; omega) (fits1 (by omega)) hz3 ?_; intro v4 w4 o4 g4 hv4; have X4 := hid (HA3.out _ _ o4 g4 hv4); obtain ⟨y0, y1, y2⟩ := CX.out _ _ _ _ _ X4.out; have HO4 := hid X4.out.inv.rb; have hz4 := X4.out.inv.bel.size; have HA4 := hid (fun v' u' o g hv => X4.out.appB (v' := v') (u' := u') (b := s.data.toList) (n := s.size) (size_toList s) o g hv); have hl4 : (B ++ le4 O ++ le4 ((s.size + 8) * 65536 + Q)).length ≤ 100000 := (by rw [List.length_append, List.length_append]; show B.length + 4 + 4 ≤ _; omega); clear o4 g4 hv4 HA3 HO3 HS3 X3) | (at_builtin; refine wpList_append_own_at _ rfl (.tmp 70) (.tmp 72) 26 9 rfl w.heap.size 5 i0 (.int .u8 0) 1 1 Tryd.underlying26 hi hz0 hz1 hz2 rfl _ _ _ rfl HO4.out (.string s) s.size (byteCells s) rfl (Src.ofString _ Tryd.underlying9 s) (by simp only [maxLen]; omega) (fits1 (by omega)) hz4 ?_; intro v5 w5 o5 g5 hv5; have X5 := hid (HA4.out _ _ o5 g5 hv5); obtain ⟨y0, y1, y2⟩ := CX.out _ _ _ _ _ X5.out; have X6 := hid (X5.out.on ((Below.refl _ _).alloc (Nat.le_refl _) (.cells #[.int .i64 O, .int .i64 Q, .string s] 46 (0, 0)))); have HO6 := hid X6.out.inv.rm; have hz6 := X6.out.inv.bel.size; have HA6 := hid (fun v' u' o g hv => X6.out.appM (v' := v') (u' := u') (ns := [⟨O, Q, s⟩]) (n := 1) rfl o g hv); have HS6 := hid (SRC.out w5); clear o5 g5 hv5 HA4 HO4 X4 hz4 X5) | (at_builtin; refine wpList_append_own_at _ rfl (.tmp 74) (.tmp 76) 30 30 rfl w.heap.size 46 iA (.agg #[.int .i64 0, .int .i64 0, .string ⟨#[]⟩]) 3 32 Tryd.underlying30 hiA hzA0 hzA1 hzA2 rfl _ _ _ rfl HO6.out _ _ _ rfl HS6.out (by simp only [maxLen]; omega) (fits32 (by omega)) hz6 ?_; intro v7 w7 o7 g7 hv7; have X7 := hid (HA6.out _ _ o7 g7 hv7); clear o7 g7 hv7 HA6 HO6 HS6 hz6 X6))
          have ee : enc ⟨O, Q, s⟩ = le4 O ++ le4 ((s.size + 8) * 65536 + Q) ++ s.data.toList := by
            rw [enc]
            show le4 (O : Int).toNat ++ le4 ((s.size + 8) * 65536 + (Q : Int).toNat) ++ s.data.toList = _
            rw [Int.toNat_natCast, Int.toNat_natCast]
          have hX7 := X7.out
          rw [List.append_assoc, List.append_assoc, ← List.append_assoc (le4 O), ← ee] at hX7
          have hel : (enc ⟨O, Q, s⟩).length = 8 + s.size := enc_length _
          refine ⟨⟨j + 1, B ++ enc ⟨O, Q, s⟩, ms ++ [⟨O, Q, s⟩], by go_num, by omega, by omega, hX7, HM.out.step _ HFIT.out, by rw [List.length_append, hel]; omega, by rw [List.length_append]; show ms.length + 1 ≤ _; omega⟩, by simp [intOf]; omega⟩
      · have e3 : decide ((400 : Int) < x.s.size) = false := decide_eq_false (by omega)
        have e4 : ((x.s.size : Int) % 4 != 0) = true := by rw [bne_iff_ne]; omega
        go_wp2
        refine ⟨⟨j + 1, B, ms, by go_num, by omega, by omega, IV.out.on ((Below.refl _ _).alloc (Nat.le_refl _) _), HM.out, by omega, by omega⟩, by simp [intOf]; omega⟩
    · obtain ⟨a3, c3, hv3, hb3, _⟩ := rd_of_owns IV.out.rb
      obtain ⟨a4, c4, hv4, hm4, h4lt⟩ := rdr_of_owns IV.out.rm
      subst hv3 hv4
      have hbw := IV.out.bel
      have ht : tk B = (ms, [], 0) := by
        have := HM.out []
        rw [List.append_nil, tk_nil] at this
        rw [this]
        show (ms ++ [], [], 0) = _
        rw [List.append_nil]
      have HB3 := hid hb3
      have HM4 := hid hm4
      clear hb3 hm4 IV HM
      by_cases h1 : j < n
      · have e1 : decide ((j : Int) < n) = true := decide_eq_true (by omega)
        have e2 : decide ((j : Int) < 30) = false := decide_eq_false (by omega)
        go_wp2_with fail
        refine (new_any wr es).mono ?_
        rintro e w1 ⟨rfl, hb1, hs1, hr1⟩
        have R1 := hid (hr1 w.heap.size hbw.size)
        have B1 := hid (Below.on hbw hb1)
        have FD := hid (feed_any w w1 B1.out es HE.out wr.heap.size (.slice none 0 0) ⟨[], 0⟩ (by decide) R1.out a3 B.length c3 B (HB3.out.below hb1 (rd_low HB3.out)) (by show 0 + B.length ≤ 1000000; omega))
        have HM1 := hid (HM4.out.kept (w' := w1) (fun x hx _ => hb1.block _ (h4lt x hx).2))
        clear hr1 hb1 hs1
        go_wp2_with fail
        refine FD.out.mono ?_
        rintro e w2 ⟨r, vr, rfl, f1, f2, f3, f4, f5⟩
        rw [(fd0 B).1, ht] at f1
        rw [(fd0 B).2.2, ht] at f2
        rw [(fd0 B).2.1, ht, show erv es ((ms, ([] : List UInt8), 0) : List RV × List UInt8 × Nat).2.2 = Value.nilIface from rfl]
        obtain ⟨ar, cr, rfl, hrr, _⟩ := rdr_of_owns f1
        have B2 := hid (B1.out.trans (f3.below B1.out.size R1.out.own_lo))
        have HM2 := hid (f3.rdr HM1.out (fun x hx _ hm => by
          rcases own_mem.1 hm with h | h
          · have := (h4lt x hx).2; omega
          · simp [Value.ownBlock] at h))
        have R2 : Hid (Rdr w.heap.size w2 wr.heap.size vr ⟨[], 0⟩ es) := f2
        have HRR := hid hrr
        have CH : Hid (Calls Tryd.prog 17 #[.slice none 0 0] w2 fun e w' => e = .returned (.tuple #[.int .i64 0, .int .i64 0, .int .i64 0, erv es 2]) ∧ Below w2.heap.size w2 w') := by
          refine (head_any w2 none 0 0 [] (Rd.nil _) (by decide) es ((E4.of HE.out rfl).below B2.out)).mono ?_
          rintro e w' ⟨rfl, q, rfl⟩
          exact ⟨rfl, below_drewN (Below.refl _ _) q⟩
        have CR : Hid (∀ u, Calls Tryd.prog 18 #[.slice none 0 0] u fun e w' => e = .returned (.tuple #[.int .i64 0, .int .i64 0, .int .i64 0, .int .i64 2]) ∧ Below u.heap.size u w') := fun u => by
          refine (rhead_any u none 0 0 [] (Rd.nil _) (by decide)).mono ?_
          rintro e w' ⟨rfl, q, rfl⟩
          exact ⟨rfl, below_drewN (Below.refl _ _) q⟩
        have CS : Hid (∀ u, Below w2.heap.size w2 u → Calls Tryd.prog 14 #[.slice ar ms.length cr, .slice a4 ms.length c4] u fun e w' => e = .returned (.bool true) ∧ Below w2.heap.size w2 w') := fun u hu => by
          refine (same_any _ _ _ _ _ ms u (HRR.out.kept (fun x hx hl => hu.block _ (HRR.out.low x hx hl))) (HM2.out.kept (fun x hx hl => hu.block _ (HM2.out.low x hx hl))) (show ms.length ≤ 1000000 by omega)).mono ?_
          rintro e w' ⟨rfl, q, rfl⟩
          exact ⟨rfl, below_drewN hu q⟩
        have CK : Hid (∀ u, Below w2.heap.size w2 u → Calls Tryd.prog 12 #[erv es 2] u fun e w' => e = .returned (.int .i64 2) ∧ Below w2.heap.size w2 w') := fun u hu => by
          refine (kind_erv u es (HE.out.below (Below.on B2.out hu)) 2 (by decide)).mono ?_
          rintro e w' ⟨rfl, hb⟩
          exact ⟨rfl, Below.on hu hb⟩
        have CL : Hid (∀ u, Below w2.heap.size w2 u → Calls Tryd.prog 13 #[.pointer (some ⟨wr.heap.size, 0, none⟩)] u fun e w' => e = .returned (.int .i64 0) ∧ w' = u) := fun u hu => left_any u _ _ _ _ _ (R2.out.kept (kp_of_below hu []) (fun _ _ h => by cases h))
        have CA : Hid (∀ u, Below w2.heap.size w2 u → Calls Tryd.prog 8 #[] u fun e w' => e = .returned (.bool true) ∧ Below w.heap.size w w') := fun u hu => by
          refine (awake5_any u es (HE.out.below (Below.on B2.out hu))).mono ?_
          rintro e w' ⟨rfl, hb⟩
          exact ⟨rfl, Below.on (Below.on B2.out hu) hb⟩
        clear f1 f2 f3 f4 f5 hrr FD HM1 R1 B1
        go_wp2_with fail
        refine CH.out.mono ?_
        rintro e x1 ⟨rfl, b1⟩
        go_wp2_with fail
        refine (CR.out x1).mono ?_
        rintro e x2 ⟨rfl, b2⟩
        have b2' := Below.on b1 b2
        clear b2 b1
        go_wp2_with fail
        refine (CS.out x2 b2').mono ?_
        rintro e x3 ⟨rfl, b3⟩
        go_wp2_with fail
        refine (CL.out _ b3).mono ?_
        rintro e x3 ⟨rfl, rfl⟩
        go_wp2_with fail
        refine (CK.out _ b3).mono ?_
        rintro e x4 ⟨rfl, b4⟩
        go_wp2_with fail
        refine (CA.out _ b4).mono ?_
        rintro e x5 ⟨rfl, b5⟩
        go_wp2
        go_ret
        exact ⟨rfl, b5⟩
      · have e1 : decide ((j : Int) < n) = false := decide_eq_false (by omega)
        go_wp2_with fail
        refine (new_any wr es).mono ?_
        rintro e w1 ⟨rfl, hb1, hs1, hr1⟩
        have R1 := hid (hr1 w.heap.size hbw.size)
        have B1 := hid (Below.on hbw hb1)
        have FD := hid (feed_any w w1 B1.out es HE.out wr.heap.size (.slice none 0 0) ⟨[], 0⟩ (by decide) R1.out a3 B.length c3 B (HB3.out.below hb1 (rd_low HB3.out)) (by show 0 + B.length ≤ 1000000; omega))
        have HM1 := hid (HM4.out.kept (w' := w1) (fun x hx _ => hb1.block _ (h4lt x hx).2))
        clear hr1 hb1 hs1
        go_wp2_with fail
        refine FD.out.mono ?_
        rintro e w2 ⟨r, vr, rfl, f1, f2, f3, f4, f5⟩
        rw [(fd0 B).1, ht] at f1
        rw [(fd0 B).2.2, ht] at f2
        rw [(fd0 B).2.1, ht, show erv es ((ms, ([] : List UInt8), 0) : List RV × List UInt8 × Nat).2.2 = Value.nilIface from rfl]
        obtain ⟨ar, cr, rfl, hrr, _⟩ := rdr_of_owns f1
        have B2 := hid (B1.out.trans (f3.below B1.out.size R1.out.own_lo))
        have HM2 := hid (f3.rdr HM1.out (fun x hx _ hm => by
          rcases own_mem.1 hm with h | h
          · have := (h4lt x hx).2; omega
          · simp [Value.ownBlock] at h))
        have R2 : Hid (Rdr w.heap.size w2 wr.heap.size vr ⟨[], 0⟩ es) := f2
        have HRR := hid hrr
        have CH : Hid (Calls Tryd.prog 17 #[.slice none 0 0] w2 fun e w' => e = .returned (.tuple #[.int .i64 0, .int .i64 0, .int .i64 0, erv es 2]) ∧ Below w2.heap.size w2 w') := by
          refine (head_any w2 none 0 0 [] (Rd.nil _) (by decide) es ((E4.of HE.out rfl).below B2.out)).mono ?_
          rintro e w' ⟨rfl, q, rfl⟩
          exact ⟨rfl, below_drewN (Below.refl _ _) q⟩
        have CR : Hid (∀ u, Calls Tryd.prog 18 #[.slice none 0 0] u fun e w' => e = .returned (.tuple #[.int .i64 0, .int .i64 0, .int .i64 0, .int .i64 2]) ∧ Below u.heap.size u w') := fun u => by
          refine (rhead_any u none 0 0 [] (Rd.nil _) (by decide)).mono ?_
          rintro e w' ⟨rfl, q, rfl⟩
          exact ⟨rfl, below_drewN (Below.refl _ _) q⟩
        have CS : Hid (∀ u, Below w2.heap.size w2 u → Calls Tryd.prog 14 #[.slice ar ms.length cr, .slice a4 ms.length c4] u fun e w' => e = .returned (.bool true) ∧ Below w2.heap.size w2 w') := fun u hu => by
          refine (same_any _ _ _ _ _ ms u (HRR.out.kept (fun x hx hl => hu.block _ (HRR.out.low x hx hl))) (HM2.out.kept (fun x hx hl => hu.block _ (HM2.out.low x hx hl))) (show ms.length ≤ 1000000 by omega)).mono ?_
          rintro e w' ⟨rfl, q, rfl⟩
          exact ⟨rfl, below_drewN hu q⟩
        have CK : Hid (∀ u, Below w2.heap.size w2 u → Calls Tryd.prog 12 #[erv es 2] u fun e w' => e = .returned (.int .i64 2) ∧ Below w2.heap.size w2 w') := fun u hu => by
          refine (kind_erv u es (HE.out.below (Below.on B2.out hu)) 2 (by decide)).mono ?_
          rintro e w' ⟨rfl, hb⟩
          exact ⟨rfl, Below.on hu hb⟩
        have CL : Hid (∀ u, Below w2.heap.size w2 u → Calls Tryd.prog 13 #[.pointer (some ⟨wr.heap.size, 0, none⟩)] u fun e w' => e = .returned (.int .i64 0) ∧ w' = u) := fun u hu => left_any u _ _ _ _ _ (R2.out.kept (kp_of_below hu []) (fun _ _ h => by cases h))
        have CA : Hid (∀ u, Below w2.heap.size w2 u → Calls Tryd.prog 8 #[] u fun e w' => e = .returned (.bool true) ∧ Below w.heap.size w w') := fun u hu => by
          refine (awake5_any u es (HE.out.below (Below.on B2.out hu))).mono ?_
          rintro e w' ⟨rfl, hb⟩
          exact ⟨rfl, Below.on (Below.on B2.out hu) hb⟩
        clear f1 f2 f3 f4 f5 hrr FD HM1 R1 B1
        go_wp2_with fail
        refine CH.out.mono ?_
        rintro e x1 ⟨rfl, b1⟩
        go_wp2_with fail
        refine (CR.out x1).mono ?_
        rintro e x2 ⟨rfl, b2⟩
        have b2' := Below.on b1 b2
        clear b2 b1
        go_wp2_with fail
        refine (CS.out x2 b2').mono ?_
        rintro e x3 ⟨rfl, b3⟩
        go_wp2_with fail
        refine (CL.out _ b3).mono ?_
        rintro e x3 ⟨rfl, rfl⟩
        go_wp2_with fail
        refine (CK.out _ b3).mono ?_
        rintro e x4 ⟨rfl, b4⟩
        go_wp2_with fail
        refine (CA.out _ b4).mono ?_
        rintro e x5 ⟨rfl, b5⟩
        go_wp2
        go_ret
        exact ⟨rfl, b5⟩

theorem walk (a : Option Addr) (n c : Nat) (l : List RV) (w : World) (hr : RdR w a n c l) (hok : ∀ x ∈ l, x.Ok) (hL : laidMetH Tryd.prog Rows.readerManyRow.laid w) :
    Calls Tryd.prog 5 #[.slice a n c] w fun e w' => e = .returned (.bool true) ∧ Below w.heap.size w w' := by
  obtain ⟨es, hF⟩ := errs16 hL
  exact core a n c l w hr hok es hF
end Go.Proofs.YtfbebifbfpkdaaaDoor.readerMany
