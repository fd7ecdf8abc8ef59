/- Surfaces that the pointer may be on, in memory; who is at a point; what is told. No program. -/
import Derived.Test.YtegmolmjoiklpaaLibV
import Derived.Test.YtegmolmjoiklpaaStaA
import Derived.Test.YtegmolmjoiklpaaRectB
namespace Go.Proofs.Ytegmolmjoiklpaa
open Go Go.RowKit

/-- A rectangle as a list of four numbers. -/
def rc4 (r : List Int) : Rc := ⟨r[0]?.getD 0, r[1]?.getD 0, r[2]?.getD 0, r[3]?.getD 0⟩
def Ok4 (l : List (List Int)) : Prop := ∀ r ∈ l, ∀ z ∈ r, -9223372036854775808 ≤ z ∧ z ≤ 9223372036854775807

/-- A surface that the pointer may be on: its number, its place, its sides, whether it takes all, and its region: where the list lies, and what it is. -/
structure Ht where
  s : Int
  x : Int
  y : Int
  w : Int
  h : Int
  t : Bool
  a : Option Addr
  n : Nat
  c : Nat
  l : List (List Int)
structure Ht.Ok (q : Ht) : Prop where
  s : -9223372036854775808 ≤ q.s ∧ q.s ≤ 9223372036854775807
  x : -9223372036854775808 ≤ q.x ∧ q.x ≤ 9223372036854775807
  y : -9223372036854775808 ≤ q.y ∧ q.y ≤ 9223372036854775807
  w : -9223372036854775808 ≤ q.w ∧ q.w ≤ 9223372036854775807
  h : -9223372036854775808 ≤ q.h ∧ q.h ≤ 9223372036854775807
  l : Ok4 q.l
/-- The point is in it; it takes the point (told from its place). -/
def Ht.cov (h : Ht) (x y : Int) : Bool := has ⟨h.x, h.y, h.w, h.h⟩ x y
def Ht.tks (h : Ht) (x y : Int) : Bool := h.t || h.l.any fun r => has (rc4 r) x y
def Ht.hit (h : Ht) (x y : Int) : Bool := h.cov x y && h.tks (x - h.x) (y - h.y)
/-- The first of a list that has the point: its number, and the point in it. -/
def atR : List Ht → Int → Int → Int × Int × Int
  | [], _, _ => (0, 0, 0)
  | h :: l, x, y => if h.hit x y = true then (h.s, x - h.x, y - h.y) else atR l x y
def atL (l : List Ht) (x y : Int) : Int × Int × Int := atR l.reverse x y
theorem atR_none {l : List Ht} {x y : Int} (h : ∀ (i : Nat) (t : Ht), l[i]? = some t → t.hit x y = false) : atR l x y = (0, 0, 0) := by
  induction l with
  | nil => rfl
  | cons t l ih =>
    rw [atR, if_neg (by rw [h 0 t rfl]; decide)]
    exact ih fun i u hu => h (i + 1) u (by simpa using hu)
theorem atR_some {l : List Ht} {x y : Int} {k : Nat} {t : Ht} (hk : l[k]? = some t) (ht : t.hit x y = true) (h : ∀ (i : Nat) (u : Ht), i < k → l[i]? = some u → u.hit x y = false) : atR l x y = (t.s, x - t.x, y - t.y) := by
  induction l generalizing k with
  | nil => simp at hk
  | cons u l ih =>
    cases k with
    | zero =>
      simp only [List.getElem?_cons_zero, Option.some.injEq] at hk
      subst hk
      rw [atR, if_pos ht]
    | succ k =>
      rw [atR, if_neg (by rw [h 0 u (by omega) rfl]; decide)]
      exact ih (by simpa using hk) fun i v hi hv => h (i + 1) v (by omega) (by simpa using hv)
theorem has_range {a : Rc} {x y : Int} (h : has a x y = true) : a.x ≤ x ∧ x - a.x < a.w ∧ a.y ≤ y ∧ y - a.y < a.h := by
  simp only [has, wth, Bool.and_eq_true, decide_eq_true_eq] at h
  omega
theorem Ht.near {h : Ht} (ok : h.Ok) {x y : Int} (hc : h.cov x y = true) : (0 ≤ x - h.x ∧ x - h.x ≤ 9223372036854775807) ∧ (0 ≤ y - h.y ∧ y - h.y ≤ 9223372036854775807) := by
  have := has_range hc
  have h1 := ok.w
  have h2 := ok.h
  simp only at this
  omega

/-- What is told where one surface had the focus and another one gets it, or the same. -/
def ntR (old s x y : Int) : List (List Int) := if old = s then [[3, s, x, y]] else [[2, old, 0, 0], [1, s, x, y]]
def sur (n : List Int) : Int := n[1]?.getD 0
def knd (n : List Int) : Int := n[0]?.getD 0
def smb (l : List (List Int)) : List (List Int) := l.filter fun n => sur n != 0
def stl (l : List (List Int)) : List (List Int) := l.filter fun n => knd n != 3
def movN (old s x y : Int) : List (List Int) := smb (ntR old s x y)
def lokN (old s x y : Int) : List (List Int) := stl (movN old s x y)
/-- The document's. -/
def chgN (old s x y : Int) : List (List Int) := (if old = 0 then [] else [[2, old, 0, 0]]) ++ (if s = 0 then [] else [[1, s, x, y]])
theorem movN_other {old s : Int} (h : old ≠ s) (x y : Int) : movN old s x y = chgN old s x y := by
  rw [movN, ntR, if_neg h, smb, chgN]
  by_cases h1 : old = 0 <;> by_cases h2 : s = 0 <;> simp [sur, h1, h2]
theorem movN_same (s x y : Int) : movN s s x y = if s = 0 then [] else [[3, s, x, y]] := by
  rw [movN, ntR, if_pos rfl, smb]
  by_cases h2 : s = 0 <;> simp [sur, h2]
theorem lokN_other {old s : Int} (h : old ≠ s) (x y : Int) : lokN old s x y = chgN old s x y := by
  rw [lokN, movN_other h, chgN, stl]
  by_cases h1 : old = 0 <;> by_cases h2 : s = 0 <;> simp [knd, h1, h2]
theorem lokN_same (s x y : Int) : lokN s s x y = [] := by
  rw [lokN, movN_same, stl]
  by_cases h2 : s = 0 <;> simp [knd, h2]
theorem ntR_size (old s x y : Int) : ∀ n ∈ ntR old s x y, n.length = 4 := by
  intro n hn
  rw [ntR] at hn
  split at hn <;> simp at hn
  · rw [hn]; rfl
  · rcases hn with rfl | rfl <;> rfl
theorem movN_size (old s x y : Int) : ∀ n ∈ movN old s x y, n.length = 4 := fun n hn => ntR_size old s x y n (List.mem_filter.1 hn).1
theorem lokN_size (old s x y : Int) : ∀ n ∈ lokN old s x y, n.length = 4 := fun n hn => movN_size old s x y n (List.mem_filter.1 hn).1

/-- A surface's seven cells. -/
structure Hc (w : World) (b o : Nat) (h : Ht) : Prop where
  c0 : w.cell? ⟨b, o, none⟩ = some (.int .i64 h.s)
  c1 : w.cell? ⟨b, o + 1, none⟩ = some (.int .i64 h.x)
  c2 : w.cell? ⟨b, o + 2, none⟩ = some (.int .i64 h.y)
  c3 : w.cell? ⟨b, o + 3, none⟩ = some (.int .i64 h.w)
  c4 : w.cell? ⟨b, o + 4, none⟩ = some (.int .i64 h.h)
  c5 : w.cell? ⟨b, o + 5, none⟩ = some (.bool h.t)
  c6 : w.cell? ⟨b, o + 6, none⟩ = some (.slice h.a h.n h.c)
theorem Hc.to {w u : World} {b o : Nat} {h : Ht} (hh : Hc w b o h) (hc : ∀ i v, w.cell? ⟨b, i, none⟩ = some v → u.cell? ⟨b, i, none⟩ = some v) : Hc u b o h :=
  ⟨hc _ _ hh.c0, hc _ _ hh.c1, hc _ _ hh.c2, hc _ _ hh.c3, hc _ _ hh.c4, hc _ _ hh.c5, hc _ _ hh.c6⟩
def htv (h : Ht) : Array Value := #[.int .i64 h.s, .int .i64 h.x, .int .i64 h.y, .int .i64 h.w, .int .i64 h.h, .bool h.t, .slice h.a h.n h.c]

theorem RdM.itr {m D : Nat} {w u : World} {a : Option Addr} {n c : Nat} {l : List (List Int)} (h : RdM m w a n c l) (hb : Itr D w u) : RdM m u a n c l :=
  ⟨h.len, h.le, h.max, h.hnil, fun hn => by
    obtain ⟨b, off, e, h1, h2⟩ := h.pl hn
    exact ⟨b, off, e, Nat.lt_of_lt_of_le h1 hb.size, fun j y hy i z hz => hb.cell (h2 j y hy i z hz)⟩, h.size⟩

/-- A slice whose first n elements are the surfaces hs. -/
structure RdH (w : World) (a : Option Addr) (n c : Nat) (hs : List Ht) : Prop where
  len : hs.length = n
  le : n ≤ c
  max : c ≤ maxLen
  hnil : a = none → c = 0
  pl : 0 < n → ∃ b off, a = some ⟨b, off, none⟩ ∧ b < w.heap.size ∧ ∀ (j : Nat) h, hs[j]? = some h → Hc w b (off + j * 7) h
  reg : ∀ h ∈ hs, RdM 4 w h.a h.n h.c h.l
  ok : ∀ h ∈ hs, h.Ok
theorem RdH.on {w u : World} {a : Option Addr} {n c : Nat} {l : List Ht} (h : RdH w a n c l) (hb : Below w.heap.size w u) : RdH u a n c l :=
  ⟨h.len, h.le, h.max, h.hnil, fun hn => by
    obtain ⟨b, off, e, h1, h2⟩ := h.pl hn
    exact ⟨b, off, e, Nat.lt_of_lt_of_le h1 hb.size, fun j y hy => (h2 j y hy).to fun i v hv => by rw [hb.cell h1]; exact hv⟩, fun y hy => (h.reg y hy).on hb, h.ok⟩
theorem RdH.itr {D : Nat} {w u : World} {a : Option Addr} {n c : Nat} {l : List Ht} (h : RdH w a n c l) (hb : Itr D w u) : RdH u a n c l :=
  ⟨h.len, h.le, h.max, h.hnil, fun hn => by
    obtain ⟨b, off, e, h1, h2⟩ := h.pl hn
    exact ⟨b, off, e, Nat.lt_of_lt_of_le h1 hb.size, fun j y hy => (h2 j y hy).to fun i v hv => hb.cell hv⟩, fun y hy => (h.reg y hy).itr hb, h.ok⟩
/-- None of it lies in the blocks of X. -/
structure Apt (X : List Nat) (a : Option Addr) (n : Nat) (l : List Ht) : Prop where
  row : ∀ x, a = some x → 0 < n → x.block ∉ X
  reg : ∀ h ∈ l, ∀ x, h.a = some x → 0 < h.n → x.block ∉ X
theorem RdH.kp {X : List Nat} {w u : World} {a : Option Addr} {n c : Nat} {l : List Ht} (h : RdH w a n c l) (hb : Kp X w u) (hX : Apt X a n l) : RdH u a n c l :=
  ⟨h.len, h.le, h.max, h.hnil, fun hn => by
    obtain ⟨b, off, e, h1, h2⟩ := h.pl hn
    exact ⟨b, off, e, Nat.lt_of_lt_of_le h1 hb.size, fun j y hy => (h2 j y hy).to fun i v hv => hb.cell hv (hX.row ⟨b, off, none⟩ e hn)⟩, fun y hy => (h.reg y hy).kp hb (hX.reg y hy), h.ok⟩
theorem RdM.lt {m : Nat} {w : World} {a : Option Addr} {n c : Nat} {l : List (List Int)} (h : RdM m w a n c l) : ∀ x, a = some x → 0 < n → x.block < w.heap.size := fun x hx hn => by
  obtain ⟨b, off, e, h1, _⟩ := h.pl hn
  rw [e] at hx
  cases hx
  exact h1
theorem RdH.apt {X : List Nat} {w : World} {a : Option Addr} {n c : Nat} {l : List Ht} (h : RdH w a n c l) (hX : ∀ k ∈ X, w.heap.size ≤ k) : Apt X a n l :=
  ⟨fun x hx hn hm => by
    obtain ⟨b, off, e, h1, _⟩ := h.pl hn
    rw [e] at hx
    cases hx
    have := hX _ hm
    simp only at this
    omega, fun y hy x hx hn hm => by
    have h1 := (h.reg y hy).lt x hx hn
    have := hX _ hm
    omega⟩
theorem RdH.nil (w : World) : RdH w none 0 0 [] := ⟨rfl, Nat.le_refl _, Nat.zero_le _, fun _ => rfl, fun h => absurd h (by omega), by simp, by simp⟩
theorem RdH.small {w : World} {a : Option Addr} {n c : Nat} {l : List Ht} (h : RdH w a n c l) : n ≤ 9223372036854775807 ∧ c ≤ 9223372036854775807 := by
  have h1 := h.le
  have h2 := h.max
  simp only [maxLen] at h2
  omega
theorem RdH.at_ {w : World} {a : Option Addr} {n c : Nat} {l : List Ht} (h : RdH w a n c l) {j : Nat} (hj : j < n) : ∃ b off y, a = some ⟨b, off, none⟩ ∧ b < w.heap.size ∧ l[j]? = some y ∧ y.Ok ∧ RdM 4 w y.a y.n y.c y.l ∧ Hc w b (off + j * 7) y := by
  have hl := h.len
  obtain ⟨b, off, e, h1, h2⟩ := h.pl (by omega)
  have hr : l[j]? = some l[j] := List.getElem?_eq_getElem (by omega)
  exact ⟨b, off, _, e, h1, hr, h.ok _ (List.mem_of_getElem? hr), h.reg _ (List.mem_of_getElem? hr), h2 j _ hr⟩
end Go.Proofs.Ytegmolmjoiklpaa
