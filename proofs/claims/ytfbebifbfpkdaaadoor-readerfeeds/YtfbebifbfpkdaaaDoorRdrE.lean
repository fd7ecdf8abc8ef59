/- The contract of the program's reader.take. -/
import Derived.Test.YtfbebifbfpkdaaaDoorRdrD
namespace Go.Proofs.YtfbebifbfpkdaaaDoor
open Go Go.RowKit

theorem infoRaw : (Tryd.prog.info? 46).map (fun i => (i.zero, i.size, i.bytes)) = some (some (.agg #[.int .i64 0, .int .i64 0, .string ⟨#[]⟩]), 3, 32) := by kernel_rfl

theorem fits32 {need : Nat} (h : need ≤ 4000000) : ∀ old, old < need → Builtin.nextslicecap need old * 32 ≤ 281474976710656 := fun old ho => by
  have := nextslicecap_near ho
  omega

set_option maxRecDepth 100000 in
theorem is_nil (a : Addr) (w : World) :
    Calls Tryd.prog 21 #[.nilIface, .iface 85 (.pointer (some a))] w fun e w' => e = .returned (.bool false) ∧ w' = w := by
  have hq := run_eql_iface_nil_left (P := Tryd.prog) w 85 (.pointer (some a)) Tryd.underlying32
  go_enter Tryd.func21, Tryd.ntmps21
  go_wp2
  go_ret
  exact ⟨rfl, rfl⟩

theorem erv_at {w : World} {es : List Addr} (h : Errs w gerrs es) (k : Nat) (hk : k < 16) : ∃ a, es[k]? = some a ∧ erv es (k + 1) = .iface 85 (.pointer (some a)) ∧ ∃ c t, w.heap[a.block]? = some (.cells c t (0, 0)) := by
  have hl : k < es.length := by rw [h.len]; exact hk
  have hg : k < gerrs.length := hk
  refine ⟨es[k], List.getElem?_eq_getElem hl, ?_, ?_⟩
  · rw [erv, List.getD, List.getElem?_eq_getElem hl]
    rfl
  · exact (h.each k _ _ (List.getElem?_eq_getElem hg) (List.getElem?_eq_getElem hl)).2

/-- errors.Is(e, ErrShort), e being nil or one of the sixteen. -/
theorem isShort_any (w : World) (es : List Addr) (h : Errs w gerrs es) (k : Nat) (hk : k ≤ 16) :
    Calls Tryd.prog 21 #[erv es k, erv es 2] w fun e w' => e = .returned (.bool (decide (k = 2))) ∧ w' = w := by
  obtain ⟨a2, h2, e2, c2, t2, b2⟩ := erv_at h 1 (by omega)
  cases k with
  | zero =>
    rw [e2]
    exact is_nil a2 w
  | succ k =>
    obtain ⟨a1, h1, e1, c1, t1, b1⟩ := erv_at h k (by omega)
    rw [e1, e2]
    by_cases hk2 : k = 1
    · subst hk2
      obtain rfl : a1 = a2 := Option.some.inj (h1.symm.trans h2)
      exact is_same a1 w
    · rw [decide_eq_false (show ¬ k + 1 = 2 by omega)]
      exact is_other a1 a2 c1 c2 t1 t2 w (fun e => hk2 (nodup_at h.nodup (e ▸ h1) h2)) b1 b2

theorem row_lt {w : World} {base e size n : Nat} {v : Value} {xs : List Value} (h : w.ownsRow base e size v n xs) : ∀ k, v.ownBlock = some k → base ≤ k := fun k hk => (h.lt k hk).1

theorem cells3 (w : World) (x : RV) (e : TypeId) : ∀ j u, (rc x)[j]? = some u → (w.alloc (.cells #[.int .i64 x.o, .int .i64 x.p, .string x.s] e)).cell? ((⟨w.heap.size, 0, none⟩ : Addr).add j) = some u := by
  intro j u hu
  match j, hu with
  | 0, hu => cases hu; simp [Addr.add]
  | 1, hu => cases hu; simp [Addr.add]
  | 2, hu => cases hu; simp [Addr.add]
  | j + 3, hu => simp [rc] at hu

/-- Where take's loop stands. -/
def Mid (l : List UInt8) (ms : List RV) (k : Nat) : Prop := k ≤ l.length ∧ tk l = (ms ++ (tk (l.drop k)).1, (tk (l.drop k)).2) ∧ ms.length * 8 ≤ k

theorem Mid.start (l : List UInt8) : Mid l [] 0 := ⟨Nat.zero_le _, rfl, Nat.zero_le _⟩
theorem Mid.step {l : List UInt8} {ms : List RV} {k : Nat} (h : Mid l ms k) (h0 : fE (l.drop k) = 0) : Mid l (ms ++ [fM (l.drop k)]) (k + hdS (l.drop k)) := by
  obtain ⟨h1, h2, h3⟩ := h
  obtain ⟨g1, g2⟩ := fE_zero h0
  obtain ⟨_, _, g4, _⟩ := hdE_zero g1
  rw [List.length_drop] at g2
  refine ⟨by omega, ?_, by rw [List.length_append]; show (ms.length + 1) * 8 ≤ _; omega⟩
  rw [h2, tk_zero h0, List.drop_drop, List.append_assoc]
  rfl

theorem rd_drop {w : World} {b off n c : Nat} {l : List UInt8} (h : Rd w (some ⟨b, off, none⟩) n c l) (k : Nat) (hk : k ≤ n) : Rd w (some ⟨b, off + k, none⟩) (n - k) (c - k) (l.drop k) :=
  ⟨by rw [List.length_drop, h.len], by have := h.le; omega, by have := h.max; omega, (fun h => by cases h), fun x hx j u hu => by
    cases hx
    have := h.cells _ rfl (k + j) u (by
      rw [bc, List.getElem?_map, List.getElem?_drop] at hu
      rw [bc, List.getElem?_map]
      exact hu)
    rw [Go.WideShapes.add_plain] at this ⊢
    rw [Nat.add_assoc]
    exact this⟩
theorem rd_none {w : World} (x : Addr) (c : Nat) (hc : c ≤ maxLen) : Rd w (some x) 0 c [] :=
  ⟨rfl, Nat.zero_le _, hc, (fun h => by cases h), fun x _ j u hu => by simp [bc] at hu⟩

def rnd0 (w : World) (o p : Int) (s : ByteArray) : World := w.alloc (.cells #[.int .i64 o, .int .i64 p, .string s] 46)

set_option maxRecDepth 100000 in
set_option maxHeartbeats 1000000 in
theorem take_some (w : World) (b off n c : Nat) (l : List UInt8) (hr : Rd w (some ⟨b, off, none⟩) n c l) (hn : n ≤ 1000000) (es : List Addr) (hE : Errs w gerrs es) :
    Calls Tryd.prog 19 #[.slice (some ⟨b, off, none⟩) n c] w fun e w' => ∃ r k, e = .returned (.tuple #[r, .int .i64 (k : Nat), erv es (tk l).2.2]) ∧ w'.ownsRow w.heap.size 46 3 r (tk l).1.length (rcs (tk l).1) ∧ k ≤ l.length ∧ ((tk l).2.2 = 0 → l.drop k = (tk l).2.1) ∧ Below w.heap.size w w' := by
  obtain ⟨iA, hiA, hzA0, hzA1, hzA2⟩ := info_parts infoRaw
  have HR := hid hr
  have HE := hid hE
  have hle := hr.le
  have hmax := hr.max
  unfold maxLen at hmax
  clear hr hE
  go_enter Tryd.func19, Tryd.ntmps19
  go_wp2
  go_loopw [2, 3] (fun v i wr => ∃ (ms : List RV) (k : Nat), i = .int .i64 k ∧ Mid l ms k ∧ wr.ownsRow w.heap.size 46 3 v ms.length (rcs ms) ∧ Below w.heap.size w wr)
    (fun _ i _ => l.length - (intOf i).toNat)
  case atStart => exact ⟨[], 0, rfl, Mid.start l, World.ownsRow_nil _ _ _ _, Below.refl _ _⟩
  case round =>
    obtain ⟨ms, k, rfl, hm, ho, hb⟩ := hrel
    have hkn : k ≤ n := by have := hm.1; have := HR.out.len; omega
    have HM := hid hm
    have HO := hid ho
    have HB := hid hb
    obtain ⟨x2, _, ex2, _⟩ := erv_at HE.out 1 (by omega)
    have EX := hid ex2
    have hsh : wr.cell? ⟨1, 0, none⟩ = some (.iface 85 (.pointer (some x2))) := by
      rw [← ex2]
      exact ((E4.of HE.out rfl).below hb).short
    have hlt : 1 < wr.heap.size := World.block_lt_of_cell? wr _ hsh
    have HF := hid (fun a m d (hrd : Rd wr a m d (l.drop k)) (hm : m ≤ 1000000) => first_any wr a m d (l.drop k) hrd hm es ((E4.of HE.out rfl).below hb))
    have HI := hid (fun u (hu : Below wr.heap.size wr u) (j : Nat) (hj : j ≤ 16) => isShort_any u es (HE.out.below (Below.on hb hu)) j hj)
    have HW := hid (HR.out.below hb (rd_low HR.out))
    obtain ⟨x, hx⟩ : ∃ x, x = fR (l.drop k) := ⟨_, rfl⟩
    obtain ⟨N, hN⟩ : ∃ N, N = fN (l.drop k) := ⟨_, rfl⟩
    rw [← hx, ← hN] at HF
    have HX := hid hx
    have HN := hid hN
    have HL : Hid (l.length = n) := HR.out.len
    clear hm ho hb ex2 hx hN
    have ST : Hid (∀ u : World, Below wr.heap.size wr u → Below w.heap.size w u ∧ u.ownsRow w.heap.size 46 3 u2 ms.length (rcs ms)) := fun u hu => ⟨Below.on HB.out hu, ownsRow_below HO.out hu⟩
    by_cases hck : c = k
    · obtain rfl : n = c := by omega
      subst hck
      have hd : l.drop n = [] := List.drop_eq_nil_of_le (by rw [HL.out]; omega)
      have hf : fE (l.drop n) = 2 := by rw [hd]; rfl
      have HF2 := hid (HF.out (some ⟨b, off, none⟩) 0 0 (by rw [hd]; exact rd_none _ _ (by decide)) (by omega))
      have HT : Hid (tk l = (ms, [], 0)) := by rw [Hid, HM.out.2.1, tk_short hf, hd, List.append_nil]
      rw [hf] at HF2
      have HD := hid hd
      clear HF hd hf
      go_wp2_with fail
      refine HF2.out.mono ?_
      rintro e w1 ⟨rfl, hb1⟩
      rw [EX.out]
      have hsh1 : w1.cell? ⟨1, 0, none⟩ = some (.iface 85 (.pointer (some x2))) := by rw [hb1.cell hlt]; exact hsh
      have hlt1 : 1 < w1.heap.size := by have := hb1.size; omega
      have HB1 := hid (hb1.alloc hb1.size (.cells #[.int .i64 x.o, .int .i64 x.p, .string x.s] 46))
      clear hb1 HF2
      go_wp2_with fail
      refine (is_same x2 _).mono ?_
      rintro e w2 ⟨rfl, rfl⟩
      go_wp2
      go_ret3
      rw [HT.out]
      exact ⟨u2, n, rfl, (ST.out _ HB1.out).2, by rw [HL.out]; omega, fun _ => HD.out, (ST.out _ HB1.out).1⟩
    · have HF2 := hid (HF.out (some ⟨b, off + k, none⟩) (n - k) (c - k) (rd_drop HW.out k hkn) (by omega))
      clear HF
      rcases fE_cases (l.drop k) with hf | hf | hf
      · have hm := HM.out.step hf
        have h8 := fE_zero hf
        have h9 := (hdE_zero h8.1).2.2
        have hxe : x = fM (l.drop k) := by rw [HX.out, fR, if_pos hf]
        have hNe : N = hdS (l.drop k) := by rw [HN.out, fN, if_pos hf]
        rw [← hxe, ← hNe] at hm
        have hN1 : k + N ≤ n := by have := hm.1; rw [HL.out] at this; exact this
        have hN2 : 8 ≤ N := by omega
        have hms : ms.length ≤ 1000000 := by have := HM.out.2.2; omega
        have HM2 := hid hm
        rw [hf] at HF2
        have HA : Hid (∀ (u : World) v3 w3, Below wr.heap.size wr u → w3.ownsRow w.heap.size 46 3 v3 (ms.length + 1) (rcs ms ++ rc x) → (u.alloc (.cells #[.int .i64 x.o, .int .i64 x.p, .string x.s] 46)).grownBy w3 u2.ownBlock → w3.ownsRow w.heap.size 46 3 v3 (ms ++ [x]).length (rcs (ms ++ [x])) ∧ Below w.heap.size w w3) := fun u v3 w3 hu o3 g3 => by
          rw [rcs_append, show rcs [x] = rc x from List.append_nil _, List.length_append]
          exact ⟨o3, ((ST.out u hu).1.alloc (ST.out u hu).1.size _).grown g3 (by rw [World.size_alloc]; have := (ST.out u hu).1.size; omega) (row_lt HO.out)⟩
        clear hf hm h8 h9 hxe hNe HX HN HI HW
        go_wp2_with fail
        refine HF2.out.mono ?_
        rintro e w1 ⟨rfl, hb1⟩
        rw [show erv es 0 = Value.nilIface from rfl]
        have hsh1 : w1.cell? ⟨1, 0, none⟩ = some (.iface 85 (.pointer (some x2))) := by rw [hb1.cell hlt]; exact hsh
        have hlt1 : 1 < w1.heap.size := by have := hb1.size; omega
        have HB1 := hid (hb1.alloc hb1.size (.cells #[.int .i64 x.o, .int .i64 x.p, .string x.s] 46))
        have HOW := hid ((ST.out _ HB1.out).2.alloc (.cells #[.int .i64 x.o, .int .i64 x.p, .string x.s] 46))
        have HZ := hid ((ST.out _ HB1.out).1.alloc (ST.out _ HB1.out).1.size (.cells #[.int .i64 x.o, .int .i64 x.p, .string x.s] 46)).size
        have HSR : Hid (Src Tryd.prog 3 30 (.slice (some ⟨w1.heap.size + 1, 0, none⟩) 1 1) 1 (rc x) ((w1.alloc (.cells #[.int .i64 x.o, .int .i64 x.p, .string x.s] 46)).alloc (.cells #[.int .i64 x.o, .int .i64 x.p, .string x.s] 46))) := by
          have h := Src.ofSlice (P := Tryd.prog) _ Tryd.underlying30 ⟨(w1.alloc (.cells #[.int .i64 x.o, .int .i64 x.p, .string x.s] 46)).heap.size, 0, none⟩ 1 1 (rc x) (show (rc x).length = 1 * 3 from rfl) (cells3 _ x 46) (rc_one x)
          rw [World.size_alloc] at h
          exact h
        clear hb1 HF2 hsh hlt
        go_wp2_with fail
        refine (is_nil x2 _).mono ?_
        rintro e w2 ⟨rfl, rfl⟩
        go_wp2_with (at_builtin; refine wpList_append_own_src _ rfl (.tmp 26) (.tmp 28) 30 30 rfl w.heap.size 46 iA (.agg #[.int .i64 0, .int .i64 0, .string ⟨#[]⟩]) 3 32 Tryd.underlying30 hiA hzA0 hzA1 hzA2 rfl _ _ _ rfl HOW.out _ _ _ rfl HSR.out (by simp only [maxLen]; omega) (fits32 (by omega)) HZ.out ?_; intro v3 w3 o3 g3; obtain ⟨o4, b4⟩ := HA.out _ _ _ HB1.out o3 g3; clear o3 g3 HA HOW HZ HSR)
        go_wp2
        go_roundw
        case rel => exact ⟨ms ++ [x], k + N, by go_num, HM2.out, o4, b4⟩
        case measure => simp [intOf]; have := HL.out; omega
      · have HT : Hid (tk l = (ms, l.drop k, 0)) := by rw [Hid, HM.out.2.1, tk_short hf, List.append_nil]
        rw [hf] at HF2
        clear hf
        go_wp2_with fail
        refine HF2.out.mono ?_
        rintro e w1 ⟨rfl, hb1⟩
        rw [EX.out]
        have hsh1 : w1.cell? ⟨1, 0, none⟩ = some (.iface 85 (.pointer (some x2))) := by rw [hb1.cell hlt]; exact hsh
        have hlt1 : 1 < w1.heap.size := by have := hb1.size; omega
        have HB1 := hid (hb1.alloc hb1.size (.cells #[.int .i64 x.o, .int .i64 x.p, .string x.s] 46))
        clear hb1 HF2
        go_wp2_with fail
        refine (is_same x2 _).mono ?_
        rintro e w2 ⟨rfl, rfl⟩
        go_wp2
        go_ret3
        rw [HT.out]
        exact ⟨u2, k, rfl, (ST.out _ HB1.out).2, by rw [HL.out]; omega, fun _ => rfl, (ST.out _ HB1.out).1⟩
      · have HT : Hid (tk l = (ms, [], fE (l.drop k))) := by rw [Hid, HM.out.2.1, tk_bad hf, List.append_nil]
        obtain ⟨K, hK⟩ : ∃ K, fE (l.drop k) = K + 1 := ⟨fE (l.drop k) - 1, by omega⟩
        obtain ⟨x3, _, ex3, _⟩ := erv_at HE.out K (by omega)
        have hI := fun u hu => HI.out u hu (K + 1) (by omega)
        rw [hK] at HF2 HT
        rw [ex3, EX.out, decide_eq_false (show ¬ K + 1 = 2 by omega)] at hI
        have HI2 := hid hI
        have EX3 := hid ex3
        clear hf hI ex3 hK HI
        go_wp2_with fail
        refine HF2.out.mono ?_
        rintro e w1 ⟨rfl, hb1⟩
        rw [EX3.out]
        have hsh1 : w1.cell? ⟨1, 0, none⟩ = some (.iface 85 (.pointer (some x2))) := by rw [hb1.cell hlt]; exact hsh
        have hlt1 : 1 < w1.heap.size := by have := hb1.size; omega
        have HB1 := hid (hb1.alloc hb1.size (.cells #[.int .i64 x.o, .int .i64 x.p, .string x.s] 46))
        clear hb1 HF2
        go_wp2_with fail
        refine (HI2.out _ HB1.out).mono ?_
        rintro e w2 ⟨rfl, rfl⟩
        go_wp2
        go_ret3
        rw [HT.out]
        exact ⟨u2, k, congrArg (fun z => Ending.returned (.tuple #[u2, .int .i64 (k : Nat), z])) EX3.out.symm, (ST.out _ HB1.out).2, by rw [HL.out]; omega, (fun h => by cases h), (ST.out _ HB1.out).1⟩
end Go.Proofs.YtfbebifbfpkdaaaDoor
