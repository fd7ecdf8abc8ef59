/- ShellApart: for every list of numbers the call returns true; nothing that was there has turned. -/
import Derived.Test.YtnlaegleekghmaaDoorShI
namespace Go.Proofs.YtnlaegleekghmaaDoor.shellApart
open Go Go.RowKit

variable {es : List Addr} {w0 w w' : World} {p q mm : Nat} {F G : Wo}
/-- Both shells, alike in their window 2. -/
structure Ap (es : List Addr) (w0 : World) (p q mm : Nat) (F G : Wo) (w : World) : Prop where
  tw : Tw es w0 p q mm F G w
  two : gt F 2 = gt G 2
  no : gt G 1 = none
theorem Ap.mono (h : Ap es w0 p q mm F G w) {n : Nat} (hn : mm ≤ n) : Ap es w0 p q n F G w := ⟨h.tw.mono hn, h.two, h.no⟩
/-- A call on the first one's window 1. -/
theorem Ap.one {f : Nat} {args : Array Value} {g : Wn → Option Wn} {r : Value} (h : Ap es w0 p q mm F G w) (hc : Ct Tryd.prog f args (Sp es w0 p mm F) (Sp es w0 p (mm + 1) (wUp F 1 g)) r) : Calls Tryd.prog f args w fun e w' => ∃ F', e = .returned r ∧ Ap es w0 p q (mm + 1) F' G w' :=
  (h.tw.left hc).mono fun _ _ ⟨h1, h2⟩ => ⟨_, h1, h2, by rw [wUp_ne (by decide)]; exact h.two, h.no⟩
def Ap' (es : List Addr) (w0 : World) (p q mm : Nat) (w : World) : Prop := ∃ F G, Ap es w0 p q mm F G w
/-- Both in turn, on their windows 2: the answers are alike. -/
theorem two_eq {g : Wn → Option Wn} (h : Ap es w0 p q mm F G w) {F' G' : Wo} (hF : F' = wUp F 2 g) (hG : G' = wUp G 2 g) {n : Nat} (ht : Tw es w0 p q n F' G' w') : Ap es w0 p q n F' G' w' := by
  subst hF
  subst hG
  exact ⟨ht, wUp_eq h.two, by rw [wUp_ne (by decide)]; exact h.no⟩
theorem com_eq (h : gt F 2 = gt G 2) (b : Bool) : wComN F 2 b = wComN G 2 b ∧ wComE F 2 b = wComE G 2 b := ⟨by rw [wComN, wComN, h], wErr_eq h⟩

set_option maxRecDepth 100000 in
set_option maxHeartbeats 4000000 in
theorem core (a : Option Addr) (n c : Nat) (l : List Int) (w : World) (hr : Rz w a n c l) (hw : ∀ z ∈ l, -9223372036854775808 ≤ z ∧ z ≤ 9223372036854775807) (es : List Addr) (hE : Errs w gerrs es) :
    Calls Tryd.prog 6 #[.slice a n c] w fun e w' => e = .returned (.bool true) ∧ Below w.heap.size w w' := by
  have hn63 := hr.small.1
  have HR := hid hr
  have HW := hid hw
  have HE := hid hE
  have CN := hid (sp_new w w (Below.refl _ _) hE)
  clear hr hw hE
  go_enter Tryd.func6, Tryd.ntmps6
  go_wp2_with fail
  refine CN.out.mono ?_
  rintro e w1 ⟨p, X, rfl, hp1, -, -⟩
  have CN2 := hid (sp_new w w1 hp1.1 HE.out)
  have HP1 := hid hp1
  clear hp1 CN
  go_wp2_with fail
  refine CN2.out.mono ?_
  rintro e w2 ⟨q, Y, rfl, hq2, hb2, hY⟩
  have HT2 : Hid (Tw es w p q 0 [] [] w2) := ⟨_, sbs_new (sp_ft _ _ _ _ _) HP1.out hb2 hq2 hY⟩
  clear hq2 hb2 hY CN2 HP1
  have C1 : Hid (Calls Tryd.prog 10 #[.pointer (some ⟨p, 0, none⟩), .int .i64 2, .bool false] w2 fun e w' => e = .returned .nilIface ∧ Tw es w p q 1 [(2, ⟨0, []⟩)] [] w') := HT2.out.left (sp_add (by decide) 2 bw2 false)
  clear HT2
  go_wp2_with fail
  refine C1.out.mono ?_
  rintro e w3 ⟨rfl, ht3⟩
  have C2 : Hid (Calls Tryd.prog 10 #[.pointer (some ⟨q, 0, none⟩), .int .i64 2, .bool false] w3 fun e w' => e = .returned .nilIface ∧ Tw es w p q 2 [(2, ⟨0, []⟩)] [(2, ⟨0, []⟩)] w') := ht3.right (sp_add (by decide) 2 bw2 false)
  clear ht3 C1
  go_wp2_with fail
  refine C2.out.mono ?_
  rintro e w4 ⟨rfl, ht4⟩
  have C3 : Hid (Calls Tryd.prog 10 #[.pointer (some ⟨p, 0, none⟩), .int .i64 1, .bool false] w4 fun e w' => e = .returned .nilIface ∧ Tw es w p q 3 [(2, ⟨0, []⟩), (1, ⟨0, []⟩)] [(2, ⟨0, []⟩)] w') := ht4.left (sp_add (by decide) 1 bw1 false)
  clear ht4 C2
  go_wp2_with fail
  refine C3.out.mono ?_
  rintro e w5 ⟨rfl, ht5⟩
  have HP5 : Hid (Ap' es w p q 3 w5) := ⟨_, _, ht5, rfl, rfl⟩
  clear ht5 C3
  go_wp2
  go_loopw [5] (fun v wr => ∃ j : Nat, v = .int .i64 (j : Int) ∧ j ≤ n ∧ j ≤ 30 ∧ Ap' es w p q (3 + 4 * j) wr) (fun v _ => 31 - (numOf v).toNat)
  case atStart => exact ⟨0, rfl, by omega, by omega, HP5.out⟩
  case round =>
    obtain ⟨j, rfl, hj, hj30, F, G, hp⟩ := hrel
    clear HP5
    by_cases hgo : j < n ∧ j < 30
    · obtain ⟨hgo1, hgo2⟩ := hgo
      have e1 : decide ((j : Int) < (n : Int)) = true := decide_eq_true (by omega)
      have e2 : decide ((j : Int) < 30) = true := decide_eq_true (by omega)
      have e3 : (j : Int) < (n : Int) := by omega
      obtain ⟨bl, off, z, rfl, hbl, hz, c0⟩ := (HR.out.on hp.tw.bel).at_ hgo1
      have hz6 := HW.out z (List.mem_of_getElem? hz)
      have CP := hid (place_any z 6 hz6 (by omega) (by omega) wr)
      have hv := plc_lt z 6 (by omega)
      obtain ⟨v, hv'⟩ : ∃ v, v = plc z 6 := ⟨_, rfl⟩
      rw [← hv'] at CP hv
      clear hv' hz
      have HC : Hid (∀ u, RowKit.Below w.heap.size w u → u.cell? ⟨bl, off + j, none⟩ = some (.int .i64 z)) := fun u hu => by
        obtain ⟨bl', off', z', h1, _, h2, h3⟩ := (HR.out.on hu).at_ hgo1
        cases h1
        obtain ⟨_, _, z'', h4, _, h5, h6⟩ := (HR.out.on hp.tw.bel).at_ hgo1
        cases h4
        rw [h2] at h5
        cases h5
        rw [c0] at h6
        cases h6
        exact h3
      obtain rfl | rfl | rfl | rfl | rfl | rfl : v = 0 ∨ v = 1 ∨ v = 2 ∨ v = 3 ∨ v = 4 ∨ v = 5 := by omega
      · have C := hid (hp.one (sp_top (by omega) 1 bw1))
        clear hp hv
        go_wp2_with fail
        refine CP.out.mono ?_
        rintro e w6 ⟨rfl, rfl⟩
        go_wp2_with fail
        refine C.out.mono ?_
        rintro e w7 ⟨F', rfl, h7⟩
        have H7 := hid (h7.mono (show 3 + 4 * j + 1 ≤ 3 + 4 * (j + 1) by omega))
        clear h7 C CP HC c0
        go_wp2
        go_roundw
        case rel => exact ⟨j + 1, by go_num, by omega, by omega, _, _, H7.out⟩
        case measure => simp [numOf]; omega
      · have C := hid (fun b => hp.one (sp_com (by omega) 1 bw1 false b))
        clear hp hv
        go_wp2_with fail
        refine CP.out.mono ?_
        rintro e w6 ⟨rfl, rfl⟩
        go_wp2_with fail
        refine (C.out _).mono ?_
        rintro e w7 ⟨F', rfl, h7⟩
        have H7 := hid (h7.mono (show 3 + 4 * j + 1 ≤ 3 + 4 * (j + 1) by omega))
        clear h7 C CP HC c0
        go_wp2
        go_roundw
        case rel => exact ⟨j + 1, by go_num, by omega, by omega, _, _, H7.out⟩
        case measure => simp [numOf]; omega
      · have C := hid (hp.one (sp_snd (by omega) 1 bw1 (j : Int)))
        clear hp hv
        go_wp2_with fail
        refine CP.out.mono ?_
        rintro e w6 ⟨rfl, rfl⟩
        go_wp2_with fail
        refine C.out.mono ?_
        rintro e w7 ⟨F', rfl, h7⟩
        have H7 := hid (h7.mono (show 3 + 4 * j + 1 ≤ 3 + 4 * (j + 1) by omega))
        clear h7 C CP HC c0
        go_wp2
        go_roundw
        case rel => exact ⟨j + 1, by go_num, by omega, by omega, _, _, H7.out⟩
        case measure => simp [numOf]; omega
      · have C := hid (hp.one (sp_ack (by omega) 1 bw1 ((j : Int) - 1)))
        clear hp hv
        go_wp2_with fail
        refine CP.out.mono ?_
        rintro e w6 ⟨rfl, rfl⟩
        go_wp2_with fail
        refine C.out.mono ?_
        rintro e w7 ⟨F', rfl, h7⟩
        have H7 := hid (h7.mono (show 3 + 4 * j + 1 ≤ 3 + 4 * (j + 1) by omega))
        clear h7 C CP HC c0
        go_wp2
        go_roundw
        case rel => exact ⟨j + 1, by go_num, by omega, by omega, _, _, H7.out⟩
        case measure => simp [numOf]; omega
      · have HP := hid hp
        have C := hid (hp.tw.left (sp_top (by omega) 2 bw2))
        have hle := wTopE_le F 2
        have heq : wTopE G 2 = wTopE F 2 := (wErr_eq hp.two).symm
        have hun : wUntE (wUp G 2 topS) 2 = wUntE (wUp F 2 topS) 2 := (wErr_eq (wUp_eq hp.two)).symm
        have hule := wUntE_le (wUp F 2 topS) 2
        clear hp hv
        go_wp2_with fail
        refine CP.out.mono ?_
        rintro e w6 ⟨rfl, rfl⟩
        go_wp2_with fail
        refine C.out.mono ?_
        rintro e w7 ⟨rfl, h7⟩
        have K7 := hid (h7.kind _ hle)
        clear h7 C CP HC c0
        go_wp2_with fail
        refine K7.out.mono ?_
        rintro e w8 ⟨rfl, h8⟩
        have K8 := hid (h8.right (sp_top (by omega) 2 bw2))
        rw [heq] at K8
        clear h8 K7
        go_wp2_with fail
        refine K8.out.mono ?_
        rintro e w9 ⟨rfl, h9⟩
        have K9 := hid (h9.kind _ hle)
        clear h9 K8
        go_wp2_with fail
        refine K9.out.mono ?_
        rintro e w10 ⟨rfl, h10⟩
        have K10 := hid (h10.left (sp_snd (by omega) 2 bw2 (j : Int)))
        clear h10 K9 hle heq
        have nb := nb_self
        go_wp2_with fail
        refine K10.out.mono ?_
        rintro e w11 ⟨rfl, h11⟩
        have K11 := hid (h11.kind _ hule)
        clear h11 K10
        go_wp2_with fail
        refine K11.out.mono ?_
        rintro e w12 ⟨rfl, h12⟩
        have K12 := hid (h12.right (sp_snd (by omega) 2 bw2 (j : Int)))
        rw [hun] at K12
        clear h12 K11
        go_wp2_with fail
        refine K12.out.mono ?_
        rintro e w13 ⟨rfl, h13⟩
        have K13 := hid (h13.kind _ hule)
        clear h13 K12
        go_wp2_with fail
        refine K13.out.mono ?_
        rintro e w14 ⟨rfl, h14⟩
        have H14 : Hid (Ap' es w p q (3 + 4 * (j + 1)) w14) := by
          refine ⟨_, _, h14.mono (by omega), wUp_eq (wUp_eq HP.out.two), ?_⟩
          rw [wUp_ne (by decide), wUp_ne (by decide)]
          exact HP.out.no
        clear h14 K13 hun hule HP
        go_wp2
        go_roundw
        case rel => exact ⟨j + 1, by go_num, by omega, by omega, H14.out⟩
        case measure => simp [numOf]; omega
      · have HP := hid hp
        have C := hid (fun b => hp.tw.left (sp_com (by omega) 2 bw2 false b))
        clear hp hv
        go_wp2_with fail
        refine CP.out.mono ?_
        rintro e w6 ⟨rfl, rfl⟩
        go_wp2_with fail
        refine (C.out _).mono ?_
        rintro e w7 ⟨rfl, h7⟩
        have c1 := HC.out w7 h7.bel
        have C2 := hid (fun b => h7.right (sp_com (by omega) 2 bw2 false b))
        have q1 : ∀ b, wComN G 2 b = wComN F 2 b := fun b => (com_eq HP.out.two b).1.symm
        have q2 : ∀ b, wComE G 2 b = wComE F 2 b := fun b => (com_eq HP.out.two b).2.symm
        simp only [q1, q2] at C2
        clear C CP q1 q2 h7 HC
        go_wp2_with fail
        refine (C2.out _).mono ?_
        rintro e w8 ⟨rfl, h8⟩
        clear C2
        generalize (bits BinOp.and IntKind.i64 z 8 != 0) = bb at *
        have hle := wComE_le F 2 bb
        have K8 := hid (h8.kind _ hle)
        clear h8 c1 c0
        have nb := nb_self
        go_wp2_with fail
        refine K8.out.mono ?_
        rintro e w9 ⟨rfl, h9⟩
        have K9 := hid (h9.kind _ hle)
        clear h9 K8
        go_wp2_with fail
        refine K9.out.mono ?_
        rintro e w10 ⟨rfl, h10⟩
        have H10 : Hid (Ap' es w p q (3 + 4 * (j + 1)) w10) := ⟨_, _, (two_eq (g := comS bb) HP.out rfl rfl h10).mono (by omega)⟩
        clear h10 K9 HP hle
        go_wp2
        go_roundw
        case rel => exact ⟨j + 1, by go_num, by omega, by omega, H10.out⟩
        case measure => simp [numOf]; omega
    · have hml : 3 + 4 * j ≤ 900 := by omega
      have C1 := hid (hp.tw.mapd1 2 bw2)
      have HP := hid hp
      have q1 : wMapd G 2 = wMapd F 2 := by rw [wMapd, wMapd, hp.two]
      have q2 : wIsTop G 2 = wIsTop F 2 := by rw [wIsTop, wIsTop, hp.two]
      have q3 : wSer G 2 = wSer F 2 := by rw [wSer, wSer, hp.two]
      have q4 : wHas G 1 = false := by rw [wHas, hp.no]; rfl
      have Q1 := hid q1
      have Q2 := hid q2
      have Q3 := hid q3
      have Q4 := hid q4
      clear hp q1 q2 q3 q4
      have ff : ∀ b : Bool, (b == b) = true := fun b => by cases b <;> rfl
      have gg : (j < n ∧ (j : Int) < n ∧ decide ((j : Int) < n) = true ∧ ¬ j < 30 ∧ decide ((j : Int) < 30) = false) ∨ (¬ j < n ∧ decide ((j : Int) < n) = false) := by
        rcases Nat.lt_or_ge j n with h | h
        · exact .inl ⟨h, by omega, decide_eq_true (by omega), by omega, decide_eq_false (by omega)⟩
        · exact .inr ⟨by omega, decide_eq_false (by omega)⟩
      clear hgo
      rcases gg with ⟨e1, e2, e3, e4, e5⟩ | ⟨e1, e3⟩
      all_goals
        go_wp2_with fail
        refine C1.out.mono ?_
        rintro e w6 ⟨rfl, h6⟩
        have C2 := hid (h6.mapd2 2 bw2)
        rw [Q1.out] at C2
        clear h6 C1
        go_wp2_with fail
        refine C2.out.mono ?_
        rintro e w7 ⟨rfl, h7⟩
        have C3 := hid (h7.waits1 hml 2 bw2)
        clear h7 C2
        go_wp2_with fail
        refine C3.out.mono ?_
        rintro e w8 ⟨a1, c1, rfl, r8, h8⟩
        have C4 := hid (h8.waits2 hml 2 bw2)
        have R8 := hid r8
        rw [Q3.out] at C4
        clear h8 C3 r8
        go_wp2_with fail
        refine C4.out.mono ?_
        rintro e w9 ⟨a2, c2, rfl, r9, h9, b9⟩
        have C5 := hid (samez_any _ _ _ _ _ _ _ _ _ (R8.out.on b9) r9)
        have H9 := hid h9
        rw [zeq_same] at C5
        clear h9 r9 b9 C4 R8
        go_wp2_with fail
        refine C5.out.mono ?_
        rintro e w10 ⟨rfl, k, rfl⟩
        have C6 := hid ((H9.out.on (below_drew1 w9 k)).istop1 2 bw2)
        clear C5 H9
        go_wp2_with fail
        refine C6.out.mono ?_
        rintro e w11 ⟨rfl, h11⟩
        have C7 := hid (h11.istop2 2 bw2)
        rw [Q2.out] at C7
        clear C6 h11
        go_wp2_with fail
        refine C7.out.mono ?_
        rintro e w12 ⟨rfl, h12⟩
        have C8 := hid (h12.has2 1 bw1)
        rw [Q4.out] at C8
        clear C7 h12
        go_wp2_with fail
        refine C8.out.mono ?_
        rintro e w13 ⟨rfl, h13⟩
        have C9 := hid h13.awake
        clear C8 h13
        go_wp2_with fail
        refine C9.out.mono ?_
        rintro e w14 ⟨rfl, h14⟩
        have HB := hid h14
        clear h14 C9
        go_wp2
        go_ret
        exact ⟨rfl, HB.out⟩

theorem walk (a : Option Addr) (n c : Nat) (l : List Int) (w : World) (hr : RdI .i64 w a n c l) (_ : c * 8 ≤ 140737488351232) (hL : laidMetH Tryd.prog Rows.shellApartRow.laid w) :
    Calls Tryd.prog 6 #[.slice a n c] w fun e w' => e = .returned (.bool true) ∧ Below w.heap.size w w' := by
  obtain ⟨es, hE⟩ := errs16 hL
  exact core a n c l w (rz_of_rdi hr) (fun z hz => by have := hr.wf z hz; simpa [Lit.wf, IntKind.min, IntKind.max, IntKind.signed, IntKind.bits] using this) es hE
end Go.Proofs.YtnlaegleekghmaaDoor.shellApart
