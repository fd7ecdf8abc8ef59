/- ReaderCuts' walk: for every bytes and every cuts the law returns true; nothing that was there is turned. -/
import Derived.Test.YtfbebifbfpkdaaaDoorRdrH
import Derived.Deep.CutRange
import Derived.Deep.DeepCutAuto
namespace Go.Proofs.YtfbebifbfpkdaaaDoor.readerCuts
open Go Go.RowKit

theorem rd_take {w : World} {a : Option Addr} {n c : Nat} {l : List UInt8} (h : Rd w a n c l) (k : Nat) (hk : k ≤ n) : Rd w a k c (l.take k) :=
  ⟨by rw [List.length_take, h.len]; omega, by have := h.le; omega, h.max, h.hnil, fun x hx j u hu => h.cells x hx j u (by
    rw [bc, List.getElem?_map, List.getElem?_take] at hu
    split at hu
    · rw [bc, List.getElem?_map]; exact hu
    · cases hu)⟩

theorem rd_dropm {w : World} {a : Option Addr} {n c : Nat} {l : List UInt8} (h : Rd w a n c l) (k : Nat) (hk : k ≤ n) : Rd w (Option.map (fun x => x.add k) a) (n - k) (c - k) (l.drop k) :=
  ⟨by rw [List.length_drop, h.len], by have := h.le; omega, by have := h.max; omega, (fun hn => by
    have h0 : a = none := by simpa using hn
    have := h.hnil h0
    omega), fun x hx j u hu => by
    obtain ⟨y, hy, rfl⟩ := Option.map_eq_some_iff.1 hx
    rw [Go.Deep.add_add]
    refine h.cells y hy (k + j) u ?_
    rw [bc, List.getElem?_map, List.getElem?_drop] at hu
    rw [bc, List.getElem?_map]
    exact hu⟩
theorem rd_zero (w : World) (a : Option Addr) : Rd w a 0 0 [] :=
  ⟨rfl, Nat.le_refl _, Nat.zero_le _, fun _ => rfl, fun x _ j u hu => by simp [bc] at hu⟩

/-- What stays while the pieces are fed: the other reader, its answer. -/
structure Bs (w w4 : World) (p1 p2 : Nat) (vr : Value) (l : List UInt8) (es : List Addr) (aw : Option Addr) (cw : Nat) : Prop where
  bel : Below w.heap.size w w4
  lt : p2 < w4.heap.size
  lo : w.heap.size ≤ p2
  r1 : Rdr w.heap.size w4 p1 vr (at' l) es
  ne : p2 ∉ own p1 vr
  rd : RdR w4 aw (tk l).1.length cw (tk l).1
  rn : ∀ x, aw = some x → x.block ≠ p2

/-- Behind some pieces, k bytes in all. -/
structure Inv (w w4 wr : World) (p2 : Nat) (l : List UInt8) (es : List Addr) (k : Nat) (v9 vs : Value) : Prop where
  kp : Kp [p2] w4 wr
  rdr : Rdr w.heap.size wr p2 vs (at' (l.take k)) es
  row : wr.ownsRow w4.heap.size 46 3 v9 (tk (l.take k)).1.length (rcs (tk (l.take k)).1)
  lo : ∀ g, vs.ownBlock = some g → w4.heap.size ≤ g
  ne : ∀ g, v9.ownBlock = some g → vs.ownBlock ≠ some g

theorem take_piece (l : List UInt8) (k k2 : Nat) (h : k ≤ k2) : l.take k2 = l.take k ++ (l.drop k).take (k2 - k) := by
  rw [← List.take_add]
  congr 1
  omega

theorem Inv.below {w w4 wr : World} {p1 p2 : Nat} {vr : Value} {l : List UInt8} {es : List Addr} {aw : Option Addr} {cw k : Nat} {v9 vs : Value} (h : Inv w w4 wr p2 l es k v9 vs) (hB : Bs w w4 p1 p2 vr l es aw cw) : Below w.heap.size w wr :=
  hB.bel.trans (h.kp.below hB.bel.size (fun k hk => by
    simp only [List.mem_cons, List.not_mem_nil, or_false] at hk
    rw [hk]
    exact hB.lo))

/-- Behind Feed, where there was an error already. -/
theorem Inv.bad {w w4 wr w5 : World} {p1 p2 : Nat} {vr : Value} {l : List UInt8} {es : List Addr} {aw : Option Addr} {cw k k2 : Nat} {v9 vs r vs' : Value} (h : Inv w w4 wr p2 l es k v9 vs) (hB : Bs w w4 p1 p2 vr l es aw cw) (hk : k ≤ k2)
    (hF : Fed w wr p2 vs (at' (l.take k)) ((l.drop k).take (k2 - k)) es w5 r vs') (h0 : (tk (l.take k)).2.2 ≠ 0) : Inv w w4 w5 p2 l es k2 v9 vs' := by
  obtain ⟨f1, f2, f3, f4, f5⟩ := hF
  have hlt := hB.lt
  have hsz := h.kp.size
  rw [fdS_at, ← take_piece l k k2 hk] at f2
  have e : tk (l.take k2) = tk (l.take k) := by rw [take_piece l k k2 hk, tk_append, if_neg h0]
  refine ⟨h.kp.trans f3 (fun j hj hl => ?_), f2, ?_, fun g hg => ?_, fun g hg hv => ?_⟩
  · rcases own_mem.1 hj with rfl | hj
    · simp
    · have := h.lo j hj; omega
  · rw [e]
    refine f3.row h.row (fun g hg hm => ?_)
    rcases own_mem.1 hm with rfl | hm
    · have := row_lt h.row _ hg; omega
    · exact h.ne g hg hm
  · rcases f4 g hg with h1 | h1
    · exact h.lo g h1
    · omega
  · rcases f4 g hv with h1 | h1
    · exact h.ne g hg h1
    · have := (h.row.lt g hg).2; omega

/-- What was gathered stays behind Feed. -/
theorem Inv.stays {w w4 wr w5 : World} {p1 p2 : Nat} {vr : Value} {l : List UInt8} {es : List Addr} {aw : Option Addr} {cw k : Nat} {s : St} {b : List UInt8} {v9 vs r vs' : Value} (h : Inv w w4 wr p2 l es k v9 vs) (hB : Bs w w4 p1 p2 vr l es aw cw)
    (hF : Fed w wr p2 vs s b es w5 r vs') : w5.ownsRow w4.heap.size 46 3 v9 (tk (l.take k)).1.length (rcs (tk (l.take k)).1) ∧ w4.heap.size ≤ w5.heap.size := by
  have hlt := hB.lt
  refine ⟨hF.2.2.1.row h.row (fun g hg hm => ?_), by have := h.kp.size; have := hF.2.2.1.size; omega⟩
  rcases own_mem.1 hm with rfl | hm
  · have := row_lt h.row _ hg; omega
  · exact h.ne g hg hm

theorem few_msgs (l : List UInt8) (k k2 : Nat) (hk : k ≤ k2) : (tk (l.take k)).1.length + (fdM (at' (l.take k)) ((l.drop k).take (k2 - k))).length ≤ l.length := by
  have h := (tk_err (l.take k2)).2.2
  rw [take_piece l k k2 hk, fdM_at, List.length_append, ← take_piece l k k2 hk, List.length_take] at h
  omega

/-- Behind Feed and the append. -/
theorem Inv.good {w w4 wr w5 w6 : World} {p1 p2 : Nat} {vr : Value} {l : List UInt8} {es : List Addr} {aw : Option Addr} {cw k k2 : Nat} {v9 vs r vs' v9' : Value} (h : Inv w w4 wr p2 l es k v9 vs) (hB : Bs w w4 p1 p2 vr l es aw cw) (hk : k ≤ k2)
    (hF : Fed w wr p2 vs (at' (l.take k)) ((l.drop k).take (k2 - k)) es w5 r vs')
    (o6 : w6.ownsRow w4.heap.size 46 3 v9' ((tk (l.take k)).1.length + (fdM (at' (l.take k)) ((l.drop k).take (k2 - k))).length) (rcs (tk (l.take k)).1 ++ rcs (fdM (at' (l.take k)) ((l.drop k).take (k2 - k))))) (g6 : w5.grownBy w6 v9.ownBlock) (hv : v9'.ownBlock = v9.ownBlock ∨ v9'.ownBlock = some w5.heap.size) :
    Inv w w4 w6 p2 l es k2 v9' vs' := by
  obtain ⟨f1, f2, f3, f4, f5⟩ := hF
  have hlt := hB.lt
  have hsz := h.kp.size
  have hsz5 := f3.size
  rw [fdS_at, ← take_piece l k k2 hk] at f2
  have hk6 := kp_of_grown g6
  have hne : ∀ g, v9.ownBlock = some g → vs'.ownBlock ≠ some g := fun g hg hv => by
    rcases f4 g hv with h1 | h1
    · exact h.ne g hg h1
    · have := (h.row.lt g hg).2; omega
  have hmem : ∀ g, g ∈ v9.ownBlock.toList → v9.ownBlock = some g := fun g hg => by simpa using hg
  refine ⟨(h.kp.trans f3 (fun j hj hl => ?_)).trans hk6 (fun j hj hl => ?_), f2.kept hk6 (fun j hj hm => ?_), ?_, fun g hg => ?_, fun g hg hv' => ?_⟩
  · rcases own_mem.1 hj with rfl | hj
    · simp
    · have := h.lo j hj; omega
  · have := row_lt h.row _ (hmem j hj); omega
  · have h1 := hmem j hm
    rcases own_mem.1 hj with rfl | hj
    · have := row_lt h.row _ h1; omega
    · exact hne j h1 hj
  · rw [take_piece l k k2 hk, fdM_at, rcs_append, List.length_append]
    exact o6
  · rcases f4 g hg with h1 | h1
    · exact h.lo g h1
    · omega
  · rcases hv with e | e
    · exact hne g (by rw [← e]; exact hg) hv'
    · rw [e] at hg
      simp only [Option.some.injEq] at hg
      have := (f2.row.lt g hv').2
      omega

/-- The law behind its loop. -/
theorem Inv.ends {w w4 wr : World} {p1 p2 : Nat} {vr : Value} {l : List UInt8} {es : List Addr} {aw : Option Addr} {cw : Nat} {v9 vs : Value} (h : Inv w w4 wr p2 l es l.length v9 vs) (hB : Bs w w4 p1 p2 vr l es aw cw) :
    (∃ a c, v9 = .slice a (tk l).1.length c ∧ RdR wr a (tk l).1.length c (tk l).1) ∧ RdR wr aw (tk l).1.length cw (tk l).1 ∧ Rdr w.heap.size wr p1 vr (at' l) es ∧ Rdr w.heap.size wr p2 vs (at' l) es := by
  obtain ⟨h1, h2, h3, h4, h5⟩ := h
  rw [List.take_length] at h2 h3
  obtain ⟨a, c, rfl, q, _⟩ := rdr_of_owns h3
  have hm : ∀ k, k ∈ [p2] → k = p2 := fun k hk => by simpa using hk
  exact ⟨⟨a, c, rfl, q⟩, h1.rdr hB.rd (fun x hx _ hh => hB.rn x hx (hm _ hh)), hB.r1.kept h1 (fun k hk hh => hB.ne (by rw [← hm k hh]; exact hk)), h2⟩

theorem Rdr.on {base : Nat} {w w' : World} {p : Nat} {v : Value} {s : St} {es : List Addr} (h : Rdr base w p v s es) (hb : Below w.heap.size w w') : Rdr base w' p v s es := h.kept (kp_of_below hb []) (fun _ _ h => by cases h)

theorem at_len (l : List UInt8) : (at' l).l.length ≤ l.length := by have := (tk_err l).2.2; show (tk l).2.1.length ≤ _; omega
theorem at_k (l : List UInt8) : (at' l).k ≤ 16 := by have := (tk_err l).1; show (tk l).2.2 ≤ 16; omega

set_option maxRecDepth 100000 in
set_option maxHeartbeats 2000000 in
theorem core (a : Option Addr) (n c : Nat) (l : List UInt8) (a' : Option Addr) (n' c' : Nat) (zs : List Int) (w : World) (hr : Rd w a n c l) (hn : n ≤ 3000) (hr' : RdI .i64 w a' n' c' zs) (es : List Addr) (hE : Errs w gerrs es) :
    Calls Tryd.prog 4 #[.slice a n c, .slice a' n' c'] w fun e w' => e = .returned (.bool true) ∧ Below w.heap.size w w' := by
  obtain ⟨iA, hiA, hzA0, hzA1, hzA2⟩ := info_parts infoRaw
  have HE := hid hE
  have HR := hid hr
  have HR' := hid hr'
  have hnc := hr.le
  have hlen := hr.len
  clear hE hr hr'
  have e0 : decide ((3000 : Int) < n) = false := decide_eq_false (by omega)
  go_enter Tryd.func4, Tryd.ntmps4
  go_wp2_with fail
  refine (new_any w es).mono ?_
  rintro e w1 ⟨rfl, hb1, hs1, hr1⟩
  have R1 := hid (hr1 w.heap.size (Nat.le_refl _))
  clear hr1
  go_wp2_with fail
  refine (new_any w1 es).mono ?_
  rintro e w2 ⟨rfl, hb2, hs2, hr2⟩
  have R2 := hid (hr2 w.heap.size hb1.size)
  have B2 := hid (Below.on hb1 hb2)
  have R1' := hid (Rdr.on R1.out hb2)
  clear hr2 hb1 hb2 R1
  go_wp2_with fail
  refine (bytes_any w2 _ n c l (HR.out.below B2.out (rd_low HR.out)) (by omega)).mono ?_
  rintro e w3 ⟨a3, c3, rfl, hrd3, hb3, ha3⟩
  have F1 := hid (feed_any w w3 (Below.on B2.out hb3) es HE.out w.heap.size (.slice none 0 0) ⟨[], 0⟩ (by decide) (Rdr.on R1'.out hb3) a3 n c3 l hrd3 (by show 0 + n ≤ 1000000; omega))
  have R2' := hid (Rdr.on R2.out hb3)
  have B3 := hid (Below.on B2.out hb3)
  have HS3 : Hid (w.heap.size + 1 < w3.heap.size) := by have := hb3.size; simp only [Hid]; omega
  rw [hs1] at R2'
  clear hrd3 hb3 ha3 R1' R2 B2
  go_wp2_with fail
  refine F1.out.mono ?_
  rintro e w4 ⟨r, vr, rfl, f1, f2, f3, f4, f5⟩
  rw [show fdM ⟨[], 0⟩ l = (tk l).1 from rfl] at f1
  rw [show fdS ⟨[], 0⟩ l = at' l from rfl] at f2
  rw [show fdE ⟨[], 0⟩ l = (tk l).2.2 from rfl]
  obtain ⟨aw, cw, rfl, hw, haw⟩ := rdr_of_owns f1
  have hown : ∀ k, k ∈ own w.heap.size (Value.slice none 0 0) → k = w.heap.size := fun k hk => by
    rcases own_mem.1 hk with h | h
    · exact h
    · simp [Value.ownBlock] at h
  have BS : Hid (Bs w w4 w.heap.size (w.heap.size + 1) vr l es aw cw) := by
    have h3 := HS3.out
    have h4 := f3.size
    refine ⟨B3.out.trans (f3.below B3.out.size (fun k hk => by rw [hown k hk]; exact Nat.le_refl _)), by omega, by omega, f2, fun hk => ?_, hw, fun x hx => by have := (haw x hx).1; omega⟩
    rcases own_mem.1 hk with h | h
    · omega
    · rcases f4 _ h with h | h
      · simp [Value.ownBlock] at h
      · omega
  have IV : Hid (Inv w w4 w4 (w.heap.size + 1) l es 0 (.slice none 0 0) (.slice none 0 0)) :=
    ⟨kp_of_below (Below.refl _ _) _, by rw [List.take_zero, at', tk_nil]; exact R2'.out.kept f3 (fun k hk hm => by rw [hown k hm] at hk; rcases own_mem.1 hk with h | h <;> simp [Value.ownBlock] at h), by rw [List.take_zero, tk_nil]; exact World.ownsRow_nil _ _ _ _, fun g hg => by simp [Value.ownBlock] at hg, fun g hg => by simp [Value.ownBlock] at hg⟩
  clear F1 R2' B3 HS3 f1 f2 f3 f4 f5 hw haw hown
  have hm' : n' ≤ 9223372036854775807 := by have := Nat.le_trans HR'.out.le HR'.out.max; simp only [maxLen] at this; omega
  have HLEN := hid hlen
  clear hlen
  go_wp2
  go_loopw [9, 10, 11, 12] (fun v9 v10 v11 v12 wr => ∃ (j k : Nat) (vs : Value), v12 = .int .i64 j ∧ v11 = .int .i64 k ∧ v10 = erv es (tk (l.take k)).2.2 ∧ Inv w w4 wr (w.heap.size + 1) l es k v9 vs ∧ k ≤ n ∧ (j ≤ n' ∧ j < 60 ∨ k = n) ∧ j ≤ 60)
    (fun _ _ _ i _ => 60 - (intOf i).toNat)
  case atStart => exact ⟨0, 0, .slice none 0 0, rfl, rfl, by rw [List.take_zero, tk_nil]; rfl, IV.out, Nat.zero_le _, .inl ⟨Nat.zero_le _, by decide⟩, by decide⟩
  case round =>
    obtain ⟨j, k, vs, rfl, rfl, rfl, hI, hk, hjk, hj60⟩ := hrel
    have IV2 := hid hI
    clear hI IV
    by_cases hgo : j ≤ n' ∧ j < 60
    · have e1 : decide ((j : Int) ≤ n') = true := decide_eq_true (by omega)
      have e2 : decide ((j : Int) < 60) = true := decide_eq_true (by omega)
      obtain ⟨q, hq⟩ : ∃ q : Bool, q = decide (j < n' ∧ j < 59) := ⟨_, rfl⟩
      have HQ := hid hq
      clear hq
      go_upto_region 14 with fail
      go_cut [54] from 35 to 82 (fun v wx => v = .bool q ∧ wx = wr)
      case first =>
        by_cases h1 : j < n'
        · have e3 : decide ((j : Int) < n') = true := decide_eq_true (by omega)
          by_cases h2 : j < 59
          · have e4 : decide ((j : Int) < 59) = true := decide_eq_true (by omega)
            go_wp2_with fail
            go_meet
            exact ⟨by rw [HQ.out, decide_eq_true (p := j < n' ∧ j < 59) ⟨h1, h2⟩], rfl⟩
          · have e4 : decide ((j : Int) < 59) = false := decide_eq_false (by omega)
            go_wp2_with fail
            go_meet
            exact ⟨by rw [HQ.out, decide_eq_false (p := j < n' ∧ j < 59) (fun h => h2 h.2)], rfl⟩
        · have e3 : decide ((j : Int) < n') = false := decide_eq_false (by omega)
          go_wp2_with fail
          go_meet
          exact ⟨by rw [HQ.out, decide_eq_false (p := j < n' ∧ j < 59) (fun h => h1 h.1)], rfl⟩
      case rest =>
        obtain ⟨rfl, rfl⟩ := hcut
        go_upto_if 54 with fail
        go_cut [13] from 35 to 82 (fun v wx => ∃ k2 : Nat, v = .int .i64 k2 ∧ k ≤ k2 ∧ k2 ≤ n ∧ (j < n' ∧ j < 59 ∨ k2 = n) ∧ wx = wc)
        case first =>
          by_cases h12 : j < n' ∧ j < 59
          · obtain rfl : q = true := by rw [HQ.out, decide_eq_true h12]
            have h1 := h12.1
            obtain ⟨b', off', rfl, _, hc'⟩ := HR'.out.plain (by omega)
            have hz := hc' j (by rw [HR'.out.len]; exact h1)
            have hwf : (Lit.int .i64 (zs.getD j 0)).wf = true := by
              have hj : j < zs.length := by rw [HR'.out.len]; exact h1
              rw [List.getD, List.getElem?_eq_getElem hj]
              exact HR'.out.wf _ (List.getElem_mem hj)
            have hb := IV2.out.below BS.out
            rw [← hb.cell (World.block_lt_of_cell? w _ hz)] at hz
            generalize zs.getD j 0 = z at hz hwf
            have hzr : -9223372036854775808 ≤ z ∧ z ≤ 9223372036854775807 := by simpa [Lit.wf, IntKind.min, IntKind.max, IntKind.signed, IntKind.bits] using hwf
            have HP := hid (place_any z (n - k + 1) hzr (by omega) (by omega) wc)
            have hpl := plc_lt z (n - k + 1) (by omega)
            rw [show ((n - k + 1 : Nat) : Int) = (n : Int) - k + 1 by omega] at HP
            have hlt : (j : Int) < n' := by omega
            clear hc' hwf hb hzr
            go_wp2_with fail
            refine HP.out.mono ?_
            rintro e wd ⟨rfl, rfl⟩
            generalize plc z (n - k + 1) = d at *
            go_wp2_with fail
            go_meet
            exact ⟨k + d, by go_num, by omega, by omega, .inl h12, rfl⟩
          · obtain rfl : q = false := by rw [HQ.out, decide_eq_false h12]
            go_wp2_with fail
            go_meet
            exact ⟨n, rfl, hk, Nat.le_refl _, .inr rfl, rfl⟩
        case rest =>
          obtain ⟨k2, rfl, hk1, hk2, hjn, rfl⟩ := hcut
          have HD := hid (rd_dropm (HR.out.below (IV2.out.below BS.out) (rd_low HR.out)) k hk)
          have HFD : Hid (∀ (x : Option Addr) (d : Nat), Rd wc x (k2 - k) d ((l.drop k).take (k2 - k)) → Calls Tryd.prog 9 #[.pointer (some ⟨w.heap.size + 1, 0, none⟩), .slice x (k2 - k) d] wc fun e w' => ∃ r v', e = .returned (.tuple #[r, erv es (tk (l.take k2)).2.2]) ∧ Fed w wc (w.heap.size + 1) vs (at' (l.take k)) ((l.drop k).take (k2 - k)) es w' r v') := fun x d hrd => by
            have h := feed_any w wc (IV2.out.below BS.out) es HE.out _ vs _ (at_k _) IV2.out.rdr x (k2 - k) d _ hrd (by have := at_len (l.take k); rw [List.length_take] at this; omega)
            rw [fdE_at, ← take_piece l k k2 hk1] at h
            exact h
          have HX : Hid (c = k → Calls Tryd.prog 9 #[.pointer (some ⟨w.heap.size + 1, 0, none⟩), .slice a (k2 - k) 0] wc fun e w' => ∃ r v', e = .returned (.tuple #[r, erv es (tk (l.take k2)).2.2]) ∧ Fed w wc (w.heap.size + 1) vs (at' (l.take k)) ((l.drop k).take (k2 - k)) es w' r v') := fun hck => by
            have h0 : k2 - k = 0 := by omega
            refine HFD.out a 0 ?_
            rw [h0, List.take_zero]
            exact rd_zero _ _
          have HY := hid (HFD.out _ _ (rd_take HD.out (k2 - k) (by omega)))
          clear HD HFD
          by_cases hck : c = k
          · subst hck
            have HX2 := hid (HX.out rfl)
            clear HX HY
            go_wp2_with fail
            refine HX2.out.mono ?_
            rintro e w5 ⟨r, vs', rfl, hF⟩
            obtain ⟨am, cm, rfl, hrm, _⟩ := rdr_of_owns hF.1
            have HF := hid hF
            have HS5 := hid (hrm.src (P := Tryd.prog) Tryd.underlying30)
            obtain ⟨hO5, hz5⟩ := IV2.out.stays BS.out hF
            have HO5 := hid hO5
            have hfew := few_msgs l c k2 hk1
            rw [HLEN.out] at hfew
            clear hF hrm hO5
            by_cases h0 : (tk (l.take c)).2.2 = 0
            · rw [h0, show erv es 0 = Value.nilIface from rfl]
              have HG := hid (fun v9' w6 o6 g6 hv6 => IV2.out.good (v9' := v9') (w6 := w6) BS.out hk1 HF.out o6 g6 hv6)
              clear h0
              go_wp2_with (at_builtin; refine wpList_append_own_at _ rfl (.tmp 78) (.tmp 79) 30 30 rfl w4.heap.size 46 iA (.agg #[.int .i64 0, .int .i64 0, .string ⟨#[]⟩]) 3 32 Tryd.underlying30 hiA hzA0 hzA1 hzA2 rfl _ _ _ rfl HO5.out _ _ _ rfl HS5.out (by simp only [maxLen]; omega) (fits32 (by omega)) hz5 ?_; intro v6 w6 o6 g6 hv6; have HI := hid (HG.out _ _ o6 g6 hv6); clear o6 g6 hv6 HG HO5 HS5)
              go_wp2
              go_roundw
              case rel => exact ⟨j + 1, k2, vs', by go_num, rfl, rfl, HI.out, hk2, by omega, by omega⟩
              case measure => simp [intOf]; omega
            · obtain ⟨x, hx⟩ : ∃ x, erv es (tk (l.take c)).2.2 = .iface 85 (.pointer (some x)) := by
                obtain ⟨m, hm⟩ : ∃ m, (tk (l.take c)).2.2 = m + 1 := ⟨(tk (l.take c)).2.2 - 1, by omega⟩
                rw [hm]
                exact ⟨_, rfl⟩
              have HI := hid (IV2.out.bad BS.out hk1 HF.out h0)
              have HX : Hid (erv es (tk (l.take k2)).2.2 = .iface 85 (.pointer (some x))) := by
                rw [Hid, take_piece l c k2 hk1, tk_append, if_neg h0]
                exact hx
              rw [hx]
              clear hx h0 HO5 HS5 HF
              go_wp2
              go_roundw
              case rel => exact ⟨j + 1, k2, vs', by go_num, rfl, HX.out.symm, HI.out, hk2, by omega, by omega⟩
              case measure => simp [intOf]; omega
          · clear HX
            go_wp2_with fail
            refine HY.out.mono ?_
            rintro e w5 ⟨r, vs', rfl, hF⟩
            obtain ⟨am, cm, rfl, hrm, _⟩ := rdr_of_owns hF.1
            have HF := hid hF
            have HS5 := hid (hrm.src (P := Tryd.prog) Tryd.underlying30)
            obtain ⟨hO5, hz5⟩ := IV2.out.stays BS.out hF
            have HO5 := hid hO5
            have hfew := few_msgs l k k2 hk1
            rw [HLEN.out] at hfew
            clear hF hrm hO5
            by_cases h0 : (tk (l.take k)).2.2 = 0
            · rw [h0, show erv es 0 = Value.nilIface from rfl]
              have HG := hid (fun v9' w6 o6 g6 hv6 => IV2.out.good (v9' := v9') (w6 := w6) BS.out hk1 HF.out o6 g6 hv6)
              clear h0
              go_wp2_with (at_builtin; refine wpList_append_own_at _ rfl (.tmp 78) (.tmp 79) 30 30 rfl w4.heap.size 46 iA (.agg #[.int .i64 0, .int .i64 0, .string ⟨#[]⟩]) 3 32 Tryd.underlying30 hiA hzA0 hzA1 hzA2 rfl _ _ _ rfl HO5.out _ _ _ rfl HS5.out (by simp only [maxLen]; omega) (fits32 (by omega)) hz5 ?_; intro v6 w6 o6 g6 hv6; have HI := hid (HG.out _ _ o6 g6 hv6); clear o6 g6 hv6 HG HO5 HS5)
              go_wp2
              go_roundw
              case rel => exact ⟨j + 1, k2, vs', by go_num, rfl, rfl, HI.out, hk2, by omega, by omega⟩
              case measure => simp [intOf]; omega
            · obtain ⟨x, hx⟩ : ∃ x, erv es (tk (l.take k)).2.2 = .iface 85 (.pointer (some x)) := by
                obtain ⟨m, hm⟩ : ∃ m, (tk (l.take k)).2.2 = m + 1 := ⟨(tk (l.take k)).2.2 - 1, by omega⟩
                rw [hm]
                exact ⟨_, rfl⟩
              have HI := hid (IV2.out.bad BS.out hk1 HF.out h0)
              have HX : Hid (erv es (tk (l.take k2)).2.2 = .iface 85 (.pointer (some x))) := by
                rw [Hid, take_piece l k k2 hk1, tk_append, if_neg h0]
                exact hx
              rw [hx]
              clear hx h0 HO5 HS5 HF
              go_wp2
              go_roundw
              case rel => exact ⟨j + 1, k2, vs', by go_num, rfl, HX.out.symm, HI.out, hk2, by omega, by omega⟩
              case measure => simp [intOf]; omega
    · obtain rfl : k = n := by omega
      have ht : l.take k = l := List.take_of_length_le (by rw [HLEN.out]; omega)
      have hI := IV2.out
      rw [← HLEN.out] at hI
      obtain ⟨⟨a9, c9, hv9, hrd9⟩, hwh, hq1, hq2⟩ := hI.ends BS.out
      subst hv9
      have hbw := IV2.out.below BS.out
      have hfew : (tk l).1.length ≤ 1000000 := by have := (tk_err l).2.2; rw [HLEN.out] at this; omega
      have CS : Hid (Calls Tryd.prog 14 #[.slice aw (tk l).1.length cw, .slice a9 (tk l).1.length c9] wr fun e w' => e = .returned (.bool true) ∧ Below wr.heap.size wr w') := by
        refine (same_any _ _ _ _ _ _ wr hwh hrd9 hfew).mono ?_
        rintro e w' ⟨rfl, q, rfl⟩
        exact ⟨rfl, below_drewN (Below.refl _ _) q⟩
      have CK : Hid (∀ u, Below wr.heap.size wr u → Calls Tryd.prog 12 #[erv es (tk l).2.2] u fun e w' => e = .returned (.int .i64 ((tk l).2.2 : Nat)) ∧ Below wr.heap.size wr w') := fun u hu => by
        refine (kind_erv u es (HE.out.below (Below.on hbw hu)) _ (at_k l)).mono ?_
        rintro e w' ⟨rfl, hb⟩
        exact ⟨rfl, Below.on hu hb⟩
      have CL1 : Hid (∀ u, Below wr.heap.size wr u → Calls Tryd.prog 13 #[.pointer (some ⟨w.heap.size, 0, none⟩)] u fun e w' => e = .returned (.int .i64 ((tk l).2.1.length : Nat)) ∧ w' = u) := fun u hu => left_any u _ _ _ _ _ (Rdr.on hq1 hu)
      have CL2 : Hid (∀ u, Below wr.heap.size wr u → Calls Tryd.prog 13 #[.pointer (some ⟨w.heap.size + 1, 0, none⟩)] u fun e w' => e = .returned (.int .i64 ((tk l).2.1.length : Nat)) ∧ w' = u) := fun u hu => left_any u _ _ _ _ _ (Rdr.on hq2 hu)
      have CA : Hid (∀ u, Below wr.heap.size wr u → Calls Tryd.prog 8 #[] u fun e w' => e = .returned (.bool true) ∧ Below w.heap.size w w') := fun u hu => by
        refine (awake5_any u es (HE.out.below (Below.on hbw hu))).mono ?_
        rintro e w' ⟨rfl, hb⟩
        exact ⟨rfl, Below.on (Below.on hbw hu) hb⟩
      rw [ht]
      clear hI hrd9 hwh hq1 hq2 hbw IV2 ht
      generalize (tk l).1.length = N at *
      generalize (tk l).2.1.length = M at *
      generalize (tk l).2.2 = K at *
      by_cases h1 : j ≤ n'
      · have e1 : decide ((j : Int) ≤ n') = true := decide_eq_true (by omega)
        have e2 : decide ((j : Int) < 60) = false := decide_eq_false (by omega)
        go_wp2_with fail
        refine CS.out.mono ?_
        rintro e x1 ⟨rfl, b1⟩
        go_wp2_with fail
        refine (CK.out x1 b1).mono ?_
        rintro e x2 ⟨rfl, b2⟩
        go_wp2_with fail
        refine (CK.out x2 b2).mono ?_
        rintro e x3 ⟨rfl, b3⟩
        go_wp2_with fail
        refine (CL1.out _ b3).mono ?_
        rintro e x3 ⟨rfl, rfl⟩
        go_wp2_with fail
        refine (CL2.out _ b3).mono ?_
        rintro e x3 ⟨rfl, rfl⟩
        go_wp2_with fail
        refine (CA.out _ b3).mono ?_
        rintro e x6 ⟨rfl, b6⟩
        go_wp2
        go_ret
        exact ⟨rfl, b6⟩
      · have e1 : decide ((j : Int) ≤ n') = false := decide_eq_false (by omega)
        go_wp2_with fail
        refine CS.out.mono ?_
        rintro e x1 ⟨rfl, b1⟩
        go_wp2_with fail
        refine (CK.out x1 b1).mono ?_
        rintro e x2 ⟨rfl, b2⟩
        go_wp2_with fail
        refine (CK.out x2 b2).mono ?_
        rintro e x3 ⟨rfl, b3⟩
        go_wp2_with fail
        refine (CL1.out _ b3).mono ?_
        rintro e x3 ⟨rfl, rfl⟩
        go_wp2_with fail
        refine (CL2.out _ b3).mono ?_
        rintro e x3 ⟨rfl, rfl⟩
        go_wp2_with fail
        refine (CA.out _ b3).mono ?_
        rintro e x6 ⟨rfl, b6⟩
        go_wp2
        go_ret
        exact ⟨rfl, b6⟩

set_option maxRecDepth 100000 in
theorem long (a : Option Addr) (n c : Nat) (v : Value) (w : World) (hn : 3000 < n) (hm : n ≤ 9223372036854775807) (es : List Addr) (hE : Errs w gerrs es) :
    Calls Tryd.prog 4 #[.slice a n c, v] w fun e w' => e = .returned (.bool true) ∧ Below w.heap.size w w' := by
  have e0 : decide ((3000 : Int) < n) = true := decide_eq_true (by omega)
  have HW := hid (awake5_any w es hE)
  clear hE
  go_enter Tryd.func4, Tryd.ntmps4
  go_wp2_with fail
  refine HW.out.mono ?_
  rintro e w1 ⟨rfl, hb⟩
  go_wp2
  go_ret
  exact ⟨rfl, hb⟩

theorem walk (a : Option Addr) (n c : Nat) (zs : List Int) (a' : Option Addr) (n' c' : Nat) (zs' : List Int) (w : World) (hr : RdI .u8 w a n c zs) (hc : c * 1 ≤ 140737488351232) (hr' : RdI .i64 w a' n' c' zs') (_hc' : c' * 8 ≤ 140737488351232) (hL : laidMetH Tryd.prog Rows.readerCutsRow.laid w) :
    Calls Tryd.prog 4 #[.slice a n c, .slice a' n' c'] w fun e w' => e = .returned (.bool true) ∧ Below w.heap.size w w' := by
  obtain ⟨es, hF⟩ := errs16 hL
  obtain ⟨l, hr2, _⟩ := hr.bytes
  have hle := hr.le
  by_cases hn : n ≤ 3000
  · exact core a n c l a' n' c' zs' w hr2 hn hr' es hF
  · exact long a n c _ w (by omega) (by omega) es hF
end Go.Proofs.YtfbebifbfpkdaaaDoor.readerCuts
