/- The contracts of the program's Cover, slices.IndexFunc, slices.ContainsFunc, Has. -/
import Derived.Test.YtlkodgmnhphfcaaRgnR
namespace Go.Proofs.Ytlkodgmnhphfcaa
open Go Go.RowKit

/-- Two rectangles in the call's first two blocks. -/
structure Tw (w u : World) (a b : Rc) : Prop where
  fst : Bx u w.heap.size a
  snd : Bx u (w.heap.size + 1) b
  bel : Below w.heap.size w u
theorem Tw.on {w u v : World} {a b : Rc} (h : Tw w u a b) (hb : Below u.heap.size u v) : Tw w v a b := ⟨h.fst.on hb, h.snd.on hb, Below.on h.bel hb⟩
theorem Tw.st1 {w u : World} {a b : Rc} (h : Tw w u a b) (c : Rc) : Tw w (st4 u w.heap.size c) c b := ⟨h.fst.st c, h.snd.st_other (by omega) c, below_st h.bel (Nat.le_refl _) c⟩
theorem Tw.st2 {w u : World} {a b : Rc} (h : Tw w u a b) (c : Rc) : Tw w (st4 u (w.heap.size + 1) c) a c := ⟨h.fst.st_other (by omega) c, h.snd.st c, below_st h.bel (by omega) c⟩

/-- The cover of all. -/
def cvl (l : List Rc) : Rc := l.foldl cov rz
theorem cvl_snoc {l : List Rc} {j : Nat} {r : Rc} (h : l[j]? = some r) : cvl (l.take (j + 1)) = cov (cvl (l.take j)) r := by
  rw [List.take_add_one, h]
  simp [cvl]
theorem cvl_ck {l : List Rc} (hk : ∀ r ∈ l, Ck r) : cvl l = rz ∨ Ck (cvl l) := by
  have key : ∀ (l : List Rc) (a : Rc), (∀ r ∈ l, Ck r) → (a = rz ∨ Ck a) → (l.foldl cov a = rz ∨ Ck (l.foldl cov a)) := by
    intro l
    induction l with
    | nil => intro a _ h; exact h
    | cons r l ih =>
      intro a hk ha
      refine ih _ (fun x hx => hk x (by simp [hx])) (.inr ?_)
      have k := hk r (by simp)
      rcases ha with rfl | ha
      · rw [cov_rz, pln_full k.emp]; exact k
      · exact cov_ck ha k
  exact key l rz hk (.inl rfl)

set_option maxRecDepth 100000 in
set_option maxHeartbeats 1000000 in
theorem rcoverall_any (a : Option Addr) (n c : Nat) (l : List Rc) (w : World) (h : RdC w a n c l) :
    Calls Try.prog 54 #[.slice a n c] w fun e w' => ∃ r, r = (if rgn l = true then cvl l else rz) ∧ e = .returned (.agg #[.int .i64 r.x, .int .i64 r.y, .int .i64 r.w, .int .i64 r.h]) ∧ Below w.heap.size w w' := by
  have C1 := hid (fun u hu => regcheck_any a n c l u hu)
  have HL := hid h.len
  have hs := h.small
  have H := hid h
  have HT : Hid (Tw w ((w.alloc (ob rz)).alloc (ob rz)) rz rz) := by
    obtain ⟨h1, h2, h3⟩ := box2 rz rz (Below.refl ((w.alloc (ob rz)).alloc (ob rz)).heap.size ((w.alloc (ob rz)).alloc (ob rz)))
    exact ⟨h1, h2, h3⟩
  clear h
  cases h1 : rgn l
  · rw [h1] at C1
    go_enter Try.func54, Try.ntmps54
    go_wp2_with fail
    refine (C1.out _ (H.out.on HT.out.bel)).mono ?_
    rintro e w1 ⟨rfl, hb1⟩
    have hT := HT.out.on hb1
    obtain ⟨c0, c1, c2, c3⟩ := hT.snd.all
    obtain ⟨d0, d1, d2, d3⟩ := hT.fst.all
    have fz := hT.fst.fz
    have HT2 := hid hT
    clear hT hb1
    go_wp2
    refine bodyPost_ret (results_cell_row rfl _ _ w.heap.size _ _ _ _ rfl (HT2.out.fst.st rz).obj Try.underlying36 rfl infoR) rfl ?_
    exact ⟨rfl, below_st HT2.out.bel (Nat.le_refl _) rz⟩
  · rw [h1] at C1
    have KC := hid (rgn_iff.1 h1).ck
    go_enter Try.func54, Try.ntmps54
    go_wp2_with fail
    refine (C1.out _ (H.out.on HT.out.bel)).mono ?_
    rintro e w1 ⟨rfl, hb1⟩
    have HT2 := hid (HT.out.on hb1)
    clear hb1 HT
    go_wp2
    go_loopw [12] (fun i wr => ∃ j : Nat, i = .int .i64 j ∧ j ≤ n ∧ Tw w wr rz (cvl (l.take j))) (fun i _ => n - (numOf i).toNat)
    case atStart => exact ⟨0, rfl, by omega, HT2.out⟩
    case round =>
      obtain ⟨j, rfl, hj, hT⟩ := hrel
      have HT3 := hid hT
      clear hT HT2
      by_cases hgo : j < n
      · have e1 : decide ((j : Int) < n) = true := decide_eq_true (by omega)
        obtain ⟨b, off, r, rfl, _, hr, ok, he⟩ := (H.out.on HT3.out.bel).el hgo
        obtain ⟨_, c0, c1, c2, c3⟩ := he
        have k := KC.out r (List.mem_of_getElem? hr)
        have hA := cvl_ck (l := l.take j) (fun x hx => KC.out x (List.mem_of_mem_take hx))
        have HS := hid (cvl_snoc hr)
        generalize cvl (l.take j) = A0 at hA HT3 HS
        have CV := hid (fun u => cover_any A0 r (by rcases hA with rfl | hA; exact rz_ok; exact hA.ok) ok (fun he hf => cvr_ok (by rcases hA with rfl | hA; cases he; exact hA) k) u)
        have HN := hid (HT3.out.on (below_new wr (ob r)))
        rw [ob] at HN
        obtain ⟨d0, d1, d2, d3⟩ := HT3.out.snd.all
        have hlt2 := HT3.out.snd.lt
        clear hr k hA ok
        go_wp2_with fail
        refine (CV.out _).mono ?_
        rintro e w2 ⟨rfl, hb2⟩
        have hT4 := HN.out.on hb2
        obtain ⟨g0, g1, g2, g3⟩ := hT4.snd.all
        have fz := hT4.snd.fz
        have HT5 := hid (hT4.st2 (cov A0 r))
        clear hT4 hb2 HN CV
        go_wp2
        go_roundw
        case rel => exact ⟨j + 1, by go_num, by omega, by rw [HS.out]; exact HT5.out⟩
        case measure => simp [numOf]; omega
      · have e1 : decide ((j : Int) < n) = false := decide_eq_false (by omega)
        have HE : Hid (l.take j = l) := List.take_of_length_le (by rw [HL.out]; omega)
        rw [HE.out] at HT3
        obtain ⟨c0, c1, c2, c3⟩ := HT3.out.snd.all
        obtain ⟨d0, d1, d2, d3⟩ := HT3.out.fst.all
        have fz := HT3.out.fst.fz
        go_wp2
        refine bodyPost_ret (results_cell_row rfl _ _ w.heap.size _ _ _ _ rfl (HT3.out.fst.st (cvl l)).obj Try.underlying36 rfl infoR) rfl ?_
        exact ⟨rfl, below_st HT3.out.bel (Nat.le_refl _) (cvl l)⟩

/-- Where the first is of which p holds. -/
def idx (p : Rc → Bool) : List Rc → Option Nat
  | [] => none
  | r :: t => if p r = true then some 0 else (idx p t).map (· + 1)
def idxI (p : Rc → Bool) (l : List Rc) : Int := match idx p l with
  | some k => k
  | none => -1
theorem idx_drop {p : Rc → Bool} {l : List Rc} : ∀ {j : Nat}, (∀ k r, k < j → l[k]? = some r → p r = false) → idx p l = (idx p (l.drop j)).map (· + j)
  | 0, _ => by simp
  | j + 1, h => by
    rw [idx_drop (j := j) fun k r hk hr => h k r (by omega) hr]
    cases hd : l[j]? with
    | none =>
      have : l.length ≤ j := List.getElem?_eq_none_iff.1 hd
      rw [List.drop_eq_nil_of_le this, List.drop_eq_nil_of_le (by omega)]
      rfl
    | some r =>
      rw [drop_at hd, idx, if_neg (by rw [h j r (by omega) hd]; decide)]
      cases idx p (l.drop (j + 1)) with
      | none => rfl
      | some k => simp; omega
theorem idxI_any {p : Rc → Bool} {l : List Rc} : decide (0 ≤ idxI p l) = l.any p := by
  unfold idxI
  induction l with
  | nil => rfl
  | cons r l ih =>
    rw [idx, List.any_cons]
    cases h : p r
    · rw [if_neg (by decide), Bool.false_or, ← ih]
      cases idx p l with
      | none => rfl
      | some k => simp; omega
    · rw [if_pos rfl, Bool.true_or]
      rfl



theorem below_two (w : World) (o o' : Obj) : Below w.heap.size w ((w.alloc o).alloc o') := Below.on (below_new w o) (below_new _ o')
theorem cell_two (w : World) (x y : Int) (T : TypeId) : ((w.alloc (.cells #[.int .i64 x] T)).alloc (.cells #[.int .i64 y] T)).cell? ⟨w.heap.size, 0, none⟩ = some (.int .i64 x) ∧ ((w.alloc (.cells #[.int .i64 x] T)).alloc (.cells #[.int .i64 y] T)).cell? ⟨w.heap.size + 1, 0, none⟩ = some (.int .i64 y) := by
  constructor
  · rw [(below_new (w.alloc (.cells #[.int .i64 x] T)) (.cells #[.int .i64 y] T)).cell (by simp), World.cell?, heap_alloc_new]
    rfl
  · rw [World.cell?]
    have := heap_alloc_new (w.alloc (.cells #[.int .i64 x] T)) (.cells #[.int .i64 y] T)
    rw [World.size_alloc] at this
    rw [this]
    rfl


end Go.Proofs.Ytlkodgmnhphfcaa
