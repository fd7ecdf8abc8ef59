/- A queue of the law's own ('Qw'), call by call; awake of law 25. -/
import Derived.Test.YtmcbbpcbebbjdaaDoorQuC
import Derived.Test.YtmcbbpcbebbjdaaDoorKindA
import Derived.LaidMore
import Derived.Lib.SlBytesConst
namespace Go.Proofs.YtmcbbpcbebbjdaaDoor
open Go Go.RowKit

theorem E2q.of {w : World} {es : List Addr} (h : Errs w gerrs es) : E2q w es := by
  obtain ⟨x0, x1, x2, x3, x4, x5, x6, x7, x8, x9, x10, x11, x12, x13, x14, x15, rfl⟩ := len16 h.len
  exact ⟨(h.each 13 _ _ rfl rfl).1, (h.each 14 _ _ rfl rfl).1⟩

theorem putK_le (r : Nat) (l : List UInt8) (c : Bool) (b : List UInt8) : putK r l c b ≤ 16 := by
  unfold putK
  split
  · decide
  · split <;> decide

/-- A queue at p, made since w0; the blocks of X are none of its own. -/
structure Qw (w0 w : World) (p r : Nat) (l : List UInt8) (c : Bool) (X : List Nat) : Prop where
  bel : Below w0.heap.size w0 w
  qu : ∃ v, Qu w0.heap.size w p v r l c ∧ ∀ k ∈ X, k < w.heap.size ∧ k ∉ qown p v

/-- The blocks of X are as they were. -/
def Same (X : List Nat) (w w' : World) : Prop := ∀ k ∈ X, w'.heap[k]? = w.heap[k]?

section
variable {w0 w u : World} {p r : Nat} {l : List UInt8} {c : Bool} {X : List Nat}
theorem Qw.on (h : Qw w0 w p r l c X) (hb : Below w.heap.size w u) : Qw w0 u p r l c X := by
  obtain ⟨v, hv, hX⟩ := h.qu
  exact ⟨Below.on h.bel hb, v, hv.on hb, fun k hk => ⟨Nat.lt_of_lt_of_le (hX k hk).1 hb.size, (hX k hk).2⟩⟩
theorem Qw.lt (h : Qw w0 w p r l c X) : p < w.heap.size := by
  obtain ⟨v, hv, _⟩ := h.qu
  exact hv.lt
theorem Qw.len (h : Qw w0 w p r l c X) : l.length ≤ r ∧ r ≤ 16384 := by
  obtain ⟨v, hv, _⟩ := h.qu
  exact ⟨hv.len, hv.top⟩
/-- A block that came since. -/
theorem Qw.more (h : Qw w0 w p r l c X) (hb : Below w.heap.size w u) {g : Nat} (hg : w.heap.size ≤ g ∧ g < u.heap.size) : Qw w0 u p r l c (g :: X) := by
  have h' := h.on hb
  obtain ⟨v, hv, hX⟩ := h.qu
  refine ⟨h'.bel, v, hv.on hb, fun k hk => ?_⟩
  rcases List.mem_cons.1 hk with rfl | hk
  · exact ⟨hg.2, fun hm => by have := (hv.own_lo k hm).2; omega⟩
  · exact ⟨Nat.lt_of_lt_of_le (hX k hk).1 hb.size, (hX k hk).2⟩
theorem Qw.less {Y : List Nat} (h : Qw w0 w p r l c X) (hY : ∀ k ∈ Y, k ∈ X) : Qw w0 w p r l c Y := by
  obtain ⟨v, hv, hX⟩ := h.qu
  exact ⟨h.bel, v, hv, fun k hk => hX k (hY k hk)⟩
/-- A write that leaves the queue alone. -/
theorem Qw.kp {Y : List Nat} (h : Qw w0 w p r l c X) (hk : Kp Y w u) (hY : ∀ k ∈ Y, w0.heap.size ≤ k ∧ k ∈ X) : Qw w0 u p r l c X := by
  obtain ⟨v, hv, hX⟩ := h.qu
  exact ⟨h.bel.trans (hk.below h.bel.size (fun k hk => (hY k hk).1)), v, hv.kp hk (fun k hk hm => (hX k (hY k hm).2).2 hk), fun k hm => ⟨Nat.lt_of_lt_of_le (hX k hm).1 hk.size, (hX k hm).2⟩⟩

theorem qw_new (w0 w : World) (hb : Below w0.heap.size w0 w) (most : Int) : Calls Tryd.prog 6 #[.int .i64 most] w fun e w' => e = .returned (.pointer (some ⟨w.heap.size, 0, none⟩)) ∧ Below w.heap.size w w' ∧ Qw w0 w' w.heap.size (qroom most) [] false [] := by
  refine (qnew_any w most).mono ?_
  rintro e w' ⟨rfl, h1, h2⟩
  exact ⟨rfl, h1, Below.on hb h1, _, h2 _ hb.size, fun k hk => by cases hk⟩

theorem Qw.put (h : Qw w0 w p r l c X) (es : List Addr) (hE : Errs w0 gerrs es) (a : Option Addr) (n c' : Nat) (b : List UInt8) (hr : Rd w a n c' b) :
    Calls Tryd.prog 14 #[.pointer (some ⟨p, 0, none⟩), .slice a n c'] w fun e w' => e = .returned (erv es (putK r l c b)) ∧ Qw w0 w' p r (putL r l c b) (putC r l c b) X ∧ Same X w w' := by
  obtain ⟨v, hv, hX⟩ := h.qu
  refine (qput_any h.bel.size hv es ((E2q.of hE).on h.bel) a n c' b hr).mono ?_
  rintro e w' ⟨rfl, v', h1, h2, h3⟩
  refine ⟨rfl, ⟨h.bel.trans (h2.below h.bel.size (fun k hk => (hv.own_lo k hk).1)), v', h1, fun k hk => ⟨Nat.lt_of_lt_of_le (hX k hk).1 h2.size, fun hm => ?_⟩⟩, fun k hk => h2.block k (hX k hk).1 (hX k hk).2⟩
  rcases qown_mem.1 hm with e | e
  · exact (hX k hk).2 (qown_mem.2 (.inl e))
  · rcases h3 k e with e | e
    · exact (hX k hk).2 (qown_mem.2 (.inr e))
    · have := (hX k hk).1
      omega

theorem Qw.take (h : Qw w0 w p r l c X) (n : Int) :
    Calls Tryd.prog 10 #[.pointer (some ⟨p, 0, none⟩), .int .i64 n] w fun e w' => e = .returned (.slice (some ⟨w.heap.size, 0, none⟩) (qtk l n) (qtk l n)) ∧ Rd w' (some ⟨w.heap.size, 0, none⟩) (qtk l n) (qtk l n) (l.take (qtk l n)) ∧ Qw w0 w' p r (l.drop (qtk l n)) c X ∧ Same X w w' := by
  obtain ⟨v, hv, hX⟩ := h.qu
  refine (qtake_any hv n).mono ?_
  rintro e w' ⟨rfl, h0, v', h1, h2, h3⟩
  have hp : ∀ k ∈ [p], w0.heap.size ≤ k := fun k hk => by
    simp only [List.mem_cons, List.not_mem_nil, or_false] at hk
    rw [hk]
    exact hv.lo
  have hXp : ∀ k ∈ X, k ∉ [p] := fun k hk hm => by
    simp only [List.mem_cons, List.not_mem_nil, or_false] at hm
    exact (hX k hk).2 (qown_mem.2 (.inl hm))
  refine ⟨rfl, h0, ⟨h.bel.trans (h2.below h.bel.size hp), v', h1, fun k hk => ⟨Nat.lt_of_lt_of_le (hX k hk).1 h2.size, fun hm => ?_⟩⟩, fun k hk => h2.block k (hX k hk).1 (hXp k hk)⟩
  rcases qown_mem.1 hm with e | e
  · exact (hX k hk).2 (qown_mem.2 (.inl e))
  · exact (hX k hk).2 (qown_mem.2 (.inr (h3 k e)))

theorem Qw.leng (h : Qw w0 w p r l c X) : Calls Tryd.prog 17 #[.pointer (some ⟨p, 0, none⟩)] w fun e w' => e = .returned (.int .i64 (l.length : Nat)) ∧ w' = w := by
  obtain ⟨v, hv, _⟩ := h.qu
  exact qlen_any hv
theorem Qw.closed (h : Qw w0 w p r l c X) : Calls Tryd.prog 18 #[.pointer (some ⟨p, 0, none⟩)] w fun e w' => e = .returned (.bool c) ∧ w' = w := by
  obtain ⟨v, hv, _⟩ := h.qu
  exact qclosed_any hv
theorem Qw.close (h : Qw w0 w p r l c X) : Calls Tryd.prog 12 #[.pointer (some ⟨p, 0, none⟩)] w fun e w' => e = .returned (.tuple #[]) ∧ Qw w0 w' p r l true X ∧ Same X w w' := by
  obtain ⟨v, hv, hX⟩ := h.qu
  refine (qclose_any hv).mono ?_
  rintro e w' ⟨rfl, h1, h2⟩
  refine ⟨rfl, ⟨h.bel.trans (h2.below h.bel.size (fun k hk => ?_)), v, h1, fun k hk => ⟨Nat.lt_of_lt_of_le (hX k hk).1 h2.size, (hX k hk).2⟩⟩, fun k hk => h2.block k (hX k hk).1 (fun hm => ?_)⟩
  · simp only [List.mem_cons, List.not_mem_nil, or_false] at hk
    rw [hk]
    exact hv.lo
  · simp only [List.mem_cons, List.not_mem_nil, or_false] at hm
    exact (hX k hk).2 (qown_mem.2 (.inl hm))
end

/-- A literal's row. -/
theorem qrd_lit (w : World) (l : List UInt8) (C : Array Value) (hC : C.toList = bc l) (e : TypeId) (fr : Nat × Nat) (hl : l.length ≤ maxLen) : Rd (w.alloc (.cells C e fr)) (some ⟨w.heap.size, 0, none⟩) l.length l.length l :=
  ⟨rfl, Nat.le_refl _, hl, (fun h => by cases h), fun x hx j u hu => by
    cases hx
    rw [Go.WideShapes.add_plain, Nat.zero_add, World.cell?_alloc_mark, ← Array.getElem?_toList, hC]
    exact hu⟩

set_option maxRecDepth 100000 in
theorem qawake_any (w : World) (es : List Addr) (hE : Errs w gerrs es) :
    Calls Tryd.prog 8 #[] w fun e w' => e = .returned (.bool true) ∧ Below w.heap.size w w' := by
  have HE := hid hE
  clear hE
  have kc := fun (w : World) (C : Array Value) (n c : Nat) => Lib.run_convert_bytes_const (P := Tryd.prog) w 27 5 C n c Tryd.underlying27 Tryd.underlying5
  go_enter Tryd.func8, Tryd.ntmps8
  go_wp2_with fail
  refine (qw_new w w (Below.refl _ _) 4).mono ?_
  rintro e w1 ⟨rfl, hb1, hQ⟩
  have HP : Hid (Calls Tryd.prog 14 #[.pointer (some ⟨w.heap.size, 0, none⟩), .slice (some ⟨w1.heap.size, 0, none⟩) 5 5] (w1.alloc (.cells #[.int .u8 97, .int .u8 98, .int .u8 99, .int .u8 100, .int .u8 101] 5 (5, 6))) fun e w' => e = .returned (erv es 14) ∧ Qw w w' w.heap.size 4 [] true []) := by
    have hb := (Below.refl w1.heap.size w1).alloc (Nat.le_refl _) (.cells #[.int .u8 97, .int .u8 98, .int .u8 99, .int .u8 100, .int .u8 101] 5 (5, 6))
    refine ((hQ.on hb).put es HE.out _ 5 5 [97, 98, 99, 100, 101] (qrd_lit w1 [97, 98, 99, 100, 101] _ rfl _ _ (by decide))).mono ?_
    rintro e w' ⟨rfl, h1, _⟩
    exact ⟨rfl, h1⟩
  clear hQ
  go_wp2_with fail
  refine HP.out.mono ?_
  rintro e w2 ⟨rfl, hQ⟩
  clear HP
  go_wp2_with fail
  refine (kind_erv w2 es (HE.out.below hQ.bel) 14 (by decide)).mono ?_
  rintro e w3 ⟨rfl, hb3⟩
  have hQ3 := hQ.on hb3
  clear hQ hb3
  go_wp2_with fail
  refine hQ3.closed.mono ?_
  rintro e w4 ⟨rfl, rfl⟩
  have HB := hid hQ3.bel
  clear hQ3
  go_wp2
  go_ret
  exact ⟨rfl, HB.out⟩
end Go.Proofs.YtmcbbpcbebbjdaaDoor
