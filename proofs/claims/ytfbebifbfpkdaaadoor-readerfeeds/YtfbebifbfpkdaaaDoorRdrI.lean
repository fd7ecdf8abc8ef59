/- The contract of the document's own answer for chapter 5 (tableauref05): (*R).Feed. -/
import Derived.Test.YtfbebifbfpkdaaaDoorRdrH
namespace Go.Proofs.YtfbebifbfpkdaaaDoor
open Go Go.RowKit

/-- The document's reader at block p. -/
structure Doc (base : Nat) (w : World) (p : Nat) (a : Option Addr) (n c : Nat) (s : St) : Prop where
  lo : base ≤ p
  var : w.heap[p]? = some (.cells #[.slice a n c, .int .i64 s.k] 28 (0, 0))
  rd : Rd w a n c s.l
  ne : ∀ x, a = some x → 0 < s.l.length → x.block ≠ p

theorem Doc.lt {base : Nat} {w : World} {p : Nat} {a : Option Addr} {n c : Nat} {s : St} (h : Doc base w p a n c s) : p < w.heap.size := (Array.getElem?_eq_some_iff.1 h.var).1

theorem Doc.kept {base : Nat} {w w' : World} {p : Nat} {a : Option Addr} {n c : Nat} {s : St} {X : List Nat} (h : Doc base w p a n c s) (hk : Kp X w w') (hp : p ∉ X) (ha : ∀ x, a = some x → 0 < s.l.length → x.block ∉ X) : Doc base w' p a n c s :=
  ⟨h.lo, hk.var h.var hp, hk.rd h.rd ha, h.ne⟩

/-- The document's Feed's answer. -/
def DFed (base : Nat) (w : World) (p : Nat) (s : St) (b : List UInt8) (w' : World) (r : Value) (a' : Option Addr) (n' c' : Nat) : Prop :=
  w'.ownsRow w.heap.size 46 3 r (fdM s b).length (rcs (fdM s b)) ∧ Doc base w' p a' n' c' (fdS s b) ∧ Kp [p] w w' ∧ (∀ x, a' = some x → 0 < (fdS s b).l.length → w.heap.size ≤ x.block)

set_option maxRecDepth 100000 in
theorem rfeed_wrong (w : World) (p : Nat) (v : Value) (K : Nat) (a : Option Addr) (n c : Nat) (hp : w.heap[p]? = some (.cells #[v, .int .i64 (K + 1 : Nat)] 28 (0, 0))) :
    Calls Tryd.prog 11 #[.pointer (some ⟨p, 0, none⟩), .slice a n c] w fun e w' => e = .returned (.tuple #[.slice none 0 0, .int .i64 (K + 1 : Nat)]) ∧ ∃ q, w' = w.drewN q := by
  have c1 : w.cell? ⟨p, 1, none⟩ = some (.int .i64 (K + 1 : Nat)) := by rw [Lib.cell_of_heap hp]; rfl
  have e1 : (((K + 1 : Nat) : Int) != 0) = true := by rw [bne_iff_ne]; omega
  generalize ((K + 1 : Nat) : Int) = k at *
  clear hp
  go_enter Tryd.func11, Tryd.ntmps11
  go_wp2
  go_quiet (fail)
  go_wp2
  go_ret2
  exact ⟨rfl, _, rfl⟩

/-- Where Feed's loop stands. -/
structure RI (w : World) (p : Nat) (L : List UInt8) (wr : World) (v6 : Value) (ms : List RV) (k : Nat) (aB : Option Addr) (nB cB : Nat) : Prop where
  mid : Mid L ms k
  var : wr.heap[p]? = some (.cells #[.slice aB nB cB, .int .i64 0] 28 (0, 0))
  rd : Rd wr aB nB cB (L.drop k)
  lo : ∀ x, aB = some x → w.heap.size ≤ x.block
  row : wr.ownsRow w.heap.size 46 3 v6 ms.length (rcs ms)
  kp : Kp [p] w wr
  ne : ∀ x, aB = some x → v6.ownBlock ≠ some x.block
  plt : p < w.heap.size

theorem RI.on {w : World} {p : Nat} {L : List UInt8} {wr u : World} {v6 : Value} {ms : List RV} {k : Nat} {aB : Option Addr} {nB cB : Nat} (h : RI w p L wr v6 ms k aB nB cB) (hb : Below wr.heap.size wr u) : RI w p L u v6 ms k aB nB cB :=
  ⟨h.mid, (kp_of_below hb []).var h.var (by simp), h.rd.below hb (rd_low h.rd), h.lo, ownsRow_below h.row hb, h.kp.trans (kp_of_below hb []) (by simp), h.ne, h.plt⟩

theorem RI.step {w : World} {p : Nat} {L : List UInt8} {u w3 : World} {v6 v' : Value} {ms : List RV} {k : Nat} {aB : Option Addr} {nB cB : Nat} (h : RI w p L u v6 ms k aB nB cB) (h0 : fE (L.drop k) = 0)
    (o : w3.ownsRow w.heap.size 46 3 v' (ms.length + 1) (rcs ms ++ rc (fM (L.drop k)))) (g : u.grownBy w3 v6.ownBlock) (hv : v'.ownBlock = v6.ownBlock ∨ v'.ownBlock = some u.heap.size)
    (a' : Option Addr) (n' c' : Nat) (hr : Rd u a' n' c' (L.drop (k + hdS (L.drop k)))) (ha : ∀ x, a' = some x → ∃ y, aB = some y ∧ y.block = x.block ∧ y.block < u.heap.size) :
    RI w p L (w3.setCell ⟨p, 0, none⟩ (.slice a' n' c')) v' (ms ++ [fM (L.drop k)]) (k + hdS (L.drop k)) a' n' c' := by
  have hp := h.plt
  have hsz := h.kp.size
  have hv6 := row_lt h.row
  have hgk := kp_of_grown g
  have hp3 := hgk.var h.var (fun hm => by have := hv6 p (by simpa using hm); omega)
  have hne : v'.ownBlock ≠ some p := fun e => by
    rcases hv with h' | h'
    · rw [h'] at e; have := hv6 p e; omega
    · rw [h'] at e; simp only [Option.some.injEq] at e; omega
  have hk3 : Kp [p] w w3 := h.kp.trans hgk (fun j hj hl => by have := hv6 j (by simpa using hj); omega)
  refine ⟨h.mid.step h0, ?_, ?_, fun x hx => ?_, ?_, hk3.set ⟨p, 0, none⟩ (by simp) _, fun x hx e => ?_, h.plt⟩
  · rw [heap_setCell_same _ _ _ _ _ _ hp3]
    rfl
  · have h3 : Rd w3 a' n' c' (L.drop (k + hdS (L.drop k))) := hgk.rd hr (fun x hx _ hm => by
      obtain ⟨y, hy, e, _⟩ := ha x hx
      exact h.ne y hy (by rw [e]; simpa using hm))
    exact ((kp_of_below (Below.refl _ w3) [p]).set ⟨p, 0, none⟩ (by simp) _).rd h3 (fun x hx _ hm => by
      obtain ⟨y, hy, e, _⟩ := ha x hx
      simp only [List.mem_cons, List.not_mem_nil, or_false] at hm
      have := h.lo y hy
      omega)
  · obtain ⟨y, hy, e, _⟩ := ha x hx
    have := h.lo y hy
    omega
  · rw [rcs_append, show rcs [fM (L.drop k)] = rc (fM (L.drop k)) from List.append_nil _, List.length_append]
    exact ownsRow_set o _ hne _
  · obtain ⟨y, hy, e2, hl⟩ := ha x hx
    rcases hv with h' | h'
    · rw [h', ← e2] at e
      exact h.ne y hy e
    · rw [h'] at e
      simp only [Option.some.injEq] at e
      omega

/-- The length of what is left. -/
def lenB (p : Nat) (w : World) : Nat := match w.cell? ⟨p, 0, none⟩ with | some (.slice _ n _) => n | _ => 0

theorem RI.len {w : World} {p : Nat} {L : List UInt8} {wr : World} {v6 : Value} {ms : List RV} {k : Nat} {aB : Option Addr} {nB cB : Nat} (h : RI w p L wr v6 ms k aB nB cB) : lenB p wr = nB := by
  rw [lenB, Lib.cell_of_heap h.var]
  rfl

theorem RI.done {base : Nat} {w : World} {p : Nat} {l b : List UInt8} {u : World} {v6 : Value} {ms : List RV} {k : Nat} {aB : Option Addr} {nB cB : Nat} (h : RI w p (l ++ b) u v6 ms k aB nB cB) (hl : base ≤ p) (h2 : fE ((l ++ b).drop k) = 2) :
    fdE ⟨l, 0⟩ b = 0 ∧ DFed base w p ⟨l, 0⟩ b u v6 aB nB cB := by
  have ht : tk (l ++ b) = (ms, (l ++ b).drop k, 0) := by rw [h.mid.2.1, tk_short h2, List.append_nil]
  have e1 : fdM ⟨l, 0⟩ b = (tk (l ++ b)).1 := rfl
  have e2 : fdE ⟨l, 0⟩ b = (tk (l ++ b)).2.2 := rfl
  have e3 : fdS ⟨l, 0⟩ b = ⟨(tk (l ++ b)).2.1, (tk (l ++ b)).2.2⟩ := rfl
  rw [ht] at e1 e2 e3
  rw [DFed, e1, e2, e3]
  have hp := h.plt
  exact ⟨rfl, h.row, ⟨hl, h.var, h.rd, fun x hx _ e => by have := h.lo x hx; omega⟩, h.kp, fun x hx _ => h.lo x hx⟩

theorem RI.bad {base : Nat} {w : World} {p : Nat} {l b : List UInt8} {u : World} {v6 : Value} {ms : List RV} {k : Nat} {aB : Option Addr} {nB cB : Nat} (h : RI w p (l ++ b) u v6 ms k aB nB cB) (hl : base ≤ p) (h2 : fE ((l ++ b).drop k) = 3 ∨ fE ((l ++ b).drop k) = 4) :
    fdE ⟨l, 0⟩ b = fE ((l ++ b).drop k) ∧ DFed base w p ⟨l, 0⟩ b ((u.setCell ⟨p, 0, none⟩ (.slice none 0 0)).setCell ⟨p, 1, none⟩ (.int .i64 (fE ((l ++ b).drop k) : Nat))) v6 none 0 0 := by
  have ht : tk (l ++ b) = (ms, [], fE ((l ++ b).drop k)) := by rw [h.mid.2.1, tk_bad h2, List.append_nil]
  have e1 : fdM ⟨l, 0⟩ b = (tk (l ++ b)).1 := rfl
  have e2 : fdE ⟨l, 0⟩ b = (tk (l ++ b)).2.2 := rfl
  have e3 : fdS ⟨l, 0⟩ b = ⟨(tk (l ++ b)).2.1, (tk (l ++ b)).2.2⟩ := rfl
  rw [ht] at e1 e2 e3
  rw [DFed, e1, e2, e3]
  have hp := h.plt
  have hne : v6.ownBlock ≠ some p := fun e => by have := row_lt h.row p e; omega
  refine ⟨rfl, ownsRow_set (ownsRow_set h.row _ hne _) _ hne _, ⟨hl, ?_, Rd.nil _, fun x hx => by cases hx⟩, (h.kp.set ⟨p, 0, none⟩ (by simp) _).set ⟨p, 1, none⟩ (by simp) _, fun x hx => by cases hx⟩
  rw [heap_setCell_same _ _ _ _ _ _ (heap_setCell_same _ _ _ _ _ _ h.var)]
  rfl

theorem ri_start {w w1 w2 : World} {base p : Nat} {a : Option Addr} {n c : Nat} {l b : List UInt8} (hD : Doc base w p a n c ⟨l, 0⟩) {v1 v2 : Value} {nb : Nat} (_o1 : w1.ownsRow w.heap.size 5 1 v1 l.length (bc l)) (g1 : w.grownBy w1 none)
    (o2 : w2.ownsRow w.heap.size 5 1 v2 (l.length + nb) (bc l ++ bc b)) (g2 : w1.grownBy w2 v1.ownBlock) (h1 : ∀ k, v1.ownBlock = some k → w.heap.size ≤ k) :
    ∃ a2 c2, v2 = .slice a2 (l.length + nb) c2 ∧ w2.heap[p]? = some (.cells #[.slice a n c, .int .i64 0] 28 (0, 0)) ∧ RI w p (l ++ b) (w2.setCell ⟨p, 0, none⟩ (.slice a2 (l.length + nb) c2)) (.slice none 0 0) [] 0 a2 (l.length + nb) c2 := by
  have hp := hD.lt
  rw [← bc_append] at o2
  obtain ⟨a2, c2, rfl, hr2, hlo⟩ := rd_of_owns o2
  have hk1 : Kp [] w w1 := (kp_of_grown g1).mono (fun k hk _ => by simp at hk)
  have hk2 : Kp [] w w2 := hk1.trans (kp_of_grown g2) (fun k hk hl => by have := h1 k (by simpa using hk); omega)
  have hv := hk2.var hD.var (by simp)
  refine ⟨a2, c2, rfl, hv, Mid.start _, ?_, ?_, fun x hx => (hlo x hx).1, World.ownsRow_nil _ _ _ _, (hk2.mono (fun k hk => by cases hk)).set ⟨p, 0, none⟩ (by simp) _, fun x hx e => by simp [Value.ownBlock] at e, hp⟩
  · rw [heap_setCell_same _ _ _ _ _ _ hv]
    rfl
  · rw [List.drop_zero]
    exact ((kp_of_below (Below.refl _ w2) [p]).set ⟨p, 0, none⟩ (by simp) _).rd hr2 (fun x hx _ hm => by
      simp only [List.mem_cons, List.not_mem_nil, or_false] at hm
      have := (hlo x hx).1
      omega)
end Go.Proofs.YtfbebifbfpkdaaaDoor
