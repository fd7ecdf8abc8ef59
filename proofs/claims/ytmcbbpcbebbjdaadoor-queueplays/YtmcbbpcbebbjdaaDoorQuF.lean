/- Both queues, the program's and the document's, beside one another, and the call at hand. -/
import Derived.Test.YtmcbbpcbebbjdaaDoorQuE
namespace Go.Proofs.YtmcbbpcbebbjdaaDoor
open Go Go.RowKit

/-- Both queues, made since w0: the program's at p has l1, the document's at q has l2; the blocks of X are neither's. -/
structure Q2 (w0 w : World) (p q r : Nat) (l1 : List UInt8) (c1 : Bool) (l2 : List UInt8) (c2 : Bool) (X : List Nat) : Prop where
  qw : Qw w0 w p r l1 c1 (q :: X)
  qd : Qd w q r l2 c2
  lo : w0.heap.size ≤ q
  nX : q ∉ X

section
variable {w0 w u : World} {p q r : Nat} {l1 l2 : List UInt8} {c1 c2 : Bool} {X : List Nat}
theorem Q2.bel (h : Q2 w0 w p q r l1 c1 l2 c2 X) : Below w0.heap.size w0 w := h.qw.bel
theorem Q2.on (h : Q2 w0 w p q r l1 c1 l2 c2 X) (hb : Below w.heap.size w u) : Q2 w0 u p q r l1 c1 l2 c2 X := ⟨h.qw.on hb, h.qd.on hb, h.lo, h.nX⟩
theorem Q2.less (h : Q2 w0 w p q r l1 c1 l2 c2 X) : Q2 w0 w p q r l1 c1 l2 c2 [] := ⟨h.qw.less (by simp), h.qd, h.lo, by simp⟩
/-- The document's turns. -/
theorem Q2.turn2 (h : Q2 w0 w p q r l1 c1 l2 c2 X) {l : List UInt8} {c : Bool} (hd : Qd u q r l c) (hk : Kp [q] w u) : Q2 w0 u p q r l1 c1 l c X :=
  ⟨h.qw.kp hk (fun k hk => by
    simp only [List.mem_cons, List.not_mem_nil, or_false] at hk
    rw [hk]
    exact ⟨h.lo, List.mem_cons_self ..⟩), hd, h.lo, h.nX⟩
end

/-- The same, with the call at hand in a block of its own. -/
structure Qo (w0 w : World) (p q r : Nat) (l1 : List UInt8) (c1 : Bool) (l2 : List UInt8) (c2 : Bool) (g : Nat) (cs : Array Value) : Prop where
  b : Q2 w0 w p q r l1 c1 l2 c2 [g]
  oc : w.heap[g]? = some (.cells cs 29 (0, 0))

section
variable {w0 w u : World} {p q r g : Nat} {l1 l2 : List UInt8} {c1 c2 : Bool} {cs : Array Value}
theorem Q2.qo (h : Q2 w0 w p q r l1 c1 l2 c2 []) (cs : Array Value) : Qo w0 (w.alloc (.cells cs 29)) p q r l1 c1 l2 c2 w.heap.size cs := by
  have hb : Below w.heap.size w (w.alloc (.cells cs 29)) := (Below.refl _ _).alloc (Nat.le_refl _) _
  have hq := h.qd.lt
  have h1 := h.qw.more hb (g := w.heap.size) ⟨Nat.le_refl _, by simp⟩
  exact ⟨⟨h1.less (fun k hk => by
    simp only [List.mem_cons, List.not_mem_nil, or_false] at hk ⊢
    omega), h.qd.on hb, h.lo, by simp only [List.mem_cons, List.not_mem_nil, or_false]; omega⟩, heap_alloc_new w _⟩
theorem Qo.lt (h : Qo w0 w p q r l1 c1 l2 c2 g cs) : g < w.heap.size := (Array.getElem?_eq_some_iff.1 h.oc).1
theorem Qo.on (h : Qo w0 w p q r l1 c1 l2 c2 g cs) (hb : Below w.heap.size w u) : Qo w0 u p q r l1 c1 l2 c2 g cs := ⟨h.b.on hb, (hb.block g h.lt).trans h.oc⟩
theorem Qo.drew (h : Qo w0 w p q r l1 c1 l2 c2 g cs) : Qo w0 w.drew p q r l1 c1 l2 c2 g cs := h.on (Below.refl _ _).drew
theorem Qo.turn1 (h : Qo w0 w p q r l1 c1 l2 c2 g cs) {l : List UInt8} {c : Bool} (hq : Qw w0 u p r l c [q, g]) (hs : Same [q, g] w u) : Qo w0 u p q r l c l2 c2 g cs :=
  ⟨⟨hq, h.b.qd.at_ (hs q (by simp)), h.b.lo, h.b.nX⟩, (hs g (by simp)).trans h.oc⟩
theorem Qo.turn2 (h : Qo w0 w p q r l1 c1 l2 c2 g cs) {l : List UInt8} {c : Bool} (hd : Qd u q r l c) (hk : Kp [q] w u) : Qo w0 u p q r l1 c1 l c g cs := by
  refine ⟨h.b.turn2 hd hk, hk.var h.oc (fun hm => h.b.nX ?_)⟩
  simp only [List.mem_cons, List.not_mem_nil, or_false] at hm ⊢
  exact hm.symm

theorem Qo.bytes (h : Qo w0 w p q r l1 c1 l2 c2 g cs) (a : Option Addr) (n c : Nat) (b : List UInt8) (hr : Rd w a n c b) (hn : n ≤ 1000000) :
    Calls Tryd.prog 15 #[.slice a n c] w fun e w' => ∃ a' c', e = .returned (.slice a' n c') ∧ Rd w' a' n c' b ∧ Qo w0 w' p q r l1 c1 l2 c2 g cs := by
  refine (qbytes_any w a n c b hr hn).mono ?_
  rintro e w' ⟨a', c', rfl, h1, h2⟩
  exact ⟨a', c', rfl, h1, h.on h2⟩
theorem Qo.put (h : Qo w0 w p q r l1 c1 l2 c2 g cs) (es : List Addr) (hE : Errs w0 gerrs es) (a : Option Addr) (n c' : Nat) (b : List UInt8) (hr : Rd w a n c' b) :
    Calls Tryd.prog 14 #[.pointer (some ⟨p, 0, none⟩), .slice a n c'] w fun e w' => e = .returned (erv es (putK r l1 c1 b)) ∧ Qo w0 w' p q r (putL r l1 c1 b) (putC r l1 c1 b) l2 c2 g cs :=
  (h.b.qw.put es hE a n c' b hr).mono fun _ _ ⟨h1, h2, h3⟩ => ⟨h1, h.turn1 h2 h3⟩
theorem Qo.kind (h : Qo w0 w p q r l1 c1 l2 c2 g cs) (es : List Addr) (hE : Errs w0 gerrs es) (k : Nat) (hk : k ≤ 16) :
    Calls Tryd.prog 13 #[erv es k] w fun e w' => e = .returned (.int .i64 k) ∧ Qo w0 w' p q r l1 c1 l2 c2 g cs :=
  (kind_erv w es (hE.below h.b.bel) k hk).mono fun _ _ ⟨h1, h2⟩ => ⟨h1, h.on h2⟩
theorem Qo.rput (h : Qo w0 w p q r l1 c1 l2 c2 g cs) (a : Option Addr) (n c' : Nat) (b : List UInt8) (hr : Rd w0 a n c' b) :
    Calls Tryd.prog 16 #[.pointer (some ⟨q, 0, none⟩), .slice a n c'] w fun e w' => e = .returned (.int .i64 (putK r l2 c2 b : Nat)) ∧ Qo w0 w' p q r l1 c1 (putL r l2 c2 b) (putC r l2 c2 b) g cs := by
  have low : ∀ x, a = some x → 0 < b.length → x.block < w0.heap.size := fun x hx hl => by
    obtain ⟨bl, off, e, hbl, _⟩ := hr.plain (by rw [← hr.len]; exact hl)
    rw [hx] at e
    cases e
    exact hbl
  have hlo := h.b.lo
  exact (qdput_any h.b.qd a n c' b (hr.below h.b.bel low) (fun x hx hl => by have := low x hx hl; omega)).mono fun _ _ ⟨h1, h2, h3⟩ => ⟨h1, h.turn2 h2 h3⟩
theorem Qo.close (h : Qo w0 w p q r l1 c1 l2 c2 g cs) :
    Calls Tryd.prog 12 #[.pointer (some ⟨p, 0, none⟩)] w fun e w' => e = .returned (.tuple #[]) ∧ Qo w0 w' p q r l1 true l2 c2 g cs :=
  h.b.qw.close.mono fun _ _ ⟨h1, h2, h3⟩ => ⟨h1, h.turn1 h2 h3⟩
theorem Qo.rclose (h : Qo w0 w p q r l1 c1 l2 c2 g cs) : Qo w0 (w.setCell ⟨q, 2, none⟩ (.bool true)) p q r l1 c1 l2 true g cs := h.turn2 h.b.qd.shut.1 h.b.qd.shut.2
theorem Q2.leng {X : List Nat} (h : Q2 w0 w p q r l1 c1 l2 c2 X) : Calls Tryd.prog 17 #[.pointer (some ⟨p, 0, none⟩)] w fun e w' => e = .returned (.int .i64 (l1.length : Nat)) ∧ w' = w := h.qw.leng
theorem Q2.closed {X : List Nat} (h : Q2 w0 w p q r l1 c1 l2 c2 X) : Calls Tryd.prog 18 #[.pointer (some ⟨p, 0, none⟩)] w fun e w' => e = .returned (.bool c1) ∧ w' = w := h.qw.closed
end

/-- The call at hand, and what was taken. -/
def TkS (g : Nat) (cs : Array Value) (t k : Nat) (L : List UInt8) (x : World) : Prop := x.heap[g]? = some (.cells cs 29 (0, 0)) ∧ Rd x (some ⟨t, 0, none⟩) k k L

/-- The same, behind Take. -/
structure Qt (w0 w : World) (p q r : Nat) (l1 : List UInt8) (c1 : Bool) (l2 : List UInt8) (c2 : Bool) (g : Nat) (cs : Array Value) (t k : Nat) (L : List UInt8) : Prop where
  o : Qo w0 w p q r l1 c1 l2 c2 g cs
  oc : TkS g cs t k L w
  ne : t ≠ q

theorem Qo.take {w0 w : World} {p q r g : Nat} {l1 l2 : List UInt8} {c1 c2 : Bool} {cs : Array Value} (h : Qo w0 w p q r l1 c1 l2 c2 g cs) (n : Int) :
    Calls Tryd.prog 10 #[.pointer (some ⟨p, 0, none⟩), .int .i64 n] w fun e w' => ∃ t, e = .returned (.slice (some ⟨t, 0, none⟩) (qtk l1 n) (qtk l1 n)) ∧ Qt w0 w' p q r (l1.drop (qtk l1 n)) c1 l2 c2 g cs t (qtk l1 n) (l1.take (qtk l1 n)) := by
  have hq := h.b.qd.lt
  refine (h.b.qw.take n).mono ?_
  rintro e w' ⟨rfl, h1, h2, h3⟩
  exact ⟨_, rfl, h.turn1 h2 h3, ⟨(h.turn1 h2 h3).oc, h1⟩, by omega⟩
theorem Qt.rtake {w0 w : World} {p q r g t k : Nat} {l1 l2 L : List UInt8} {c1 c2 : Bool} {cs : Array Value} (h : Qt w0 w p q r l1 c1 l2 c2 g cs t k L) (n : Int) :
    Calls Tryd.prog 11 #[.pointer (some ⟨q, 0, none⟩), .int .i64 n] w fun e w' => e = .returned (.string (qst (l2.take (qtk l2 n)))) ∧ Qt w0 w' p q r l1 c1 (l2.drop (qtk l2 n)) c2 g cs t k L := by
  refine (qdtake_any h.o.b.qd n).mono ?_
  rintro e w' ⟨rfl, h1, h2⟩
  have h3 := h.o.turn2 h1 h2
  exact ⟨rfl, h3, ⟨h3.oc, h.oc.2.apart h2 (fun x hx _ => by cases hx; exact h.ne)⟩, h.ne⟩
end Go.Proofs.YtmcbbpcbebbjdaaDoor
