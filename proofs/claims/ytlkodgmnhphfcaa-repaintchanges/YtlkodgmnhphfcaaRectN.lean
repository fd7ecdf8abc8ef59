/- The cover of many: in any order; rectangles of a slice. -/
import Derived.Test.YtlkodgmnhphfcaaRectM
namespace Go.Proofs.Ytlkodgmnhphfcaa
open Go Go.RowKit

theorem may_rz : may rz = true := by decide
theorem may_of {a : Rc} (h : a = rz ∨ Ck a) : may a = true := by
  rcases h with rfl | h
  · exact may_rz
  · simp [may, dck_iff.2 h]
theorem may_cov {a b : Rc} (ha : may a = true) (hb : may b = true) : may (cov a b) = true := may_of (cov_may ha hb)

theorem cov_swap {a b : Rc} (ha : may a = true) (hb : may b = true) : cov a b = cov b a := by
  rcases may_cases ha with he | ka
  · rw [cov_emp1 he]
    rcases may_cases hb with hf | kb
    · rw [cov_emp1 hf, pln_emp he, pln_emp hf]
    · rw [cov_emp2 kb.emp he, pln_full kb.emp]
  · rcases may_cases hb with hf | kb
    · rw [cov_emp1 hf, cov_emp2 ka.emp hf, pln_full ka.emp]
    · exact cov_comm ka kb

theorem pln_pln (a : Rc) : pln (pln a) = pln a := by
  cases he : emp a
  · rw [pln_full he, pln_full he]
  · rw [pln_emp he]; rfl
theorem cov_rz (a : Rc) : cov rz a = pln a := cov_emp1 rfl a
theorem cov_pln {a : Rc} (h : emp a = false) (b : Rc) : cov a (pln b) = cov a b := by
  cases hf : emp b
  · rw [pln_full hf]
  · rw [pln_emp hf, cov_emp2 h rfl, cov_emp2 h hf]

theorem cov_assoc {a b c : Rc} (ha : may a = true) (hb : may b = true) (hc : may c = true) : cov (cov a b) c = cov a (cov b c) := by
  rcases may_cases ha with he | ka
  · rw [cov_emp1 he, cov_emp1 he]
    rcases may_cases hb with hf | kb
    · rw [pln_emp hf, cov_rz, cov_emp1 hf, pln_pln]
    · rw [pln_full kb.emp]
      rcases may_cases hc with hg | kc
      · rw [cov_emp2 kb.emp hg, pln_full kb.emp]
      · rw [pln_full (cov_ck kb kc).emp]
  · rcases may_cases hb with hf | kb
    · rw [cov_emp2 ka.emp hf, cov_emp1 hf, cov_pln ka.emp]
    · rcases may_cases hc with hg | kc
      · rw [cov_emp2 (cov_ck ka kb).emp hg, cov_emp2 kb.emp hg]
      · rw [cov_sum (cov_ck ka kb) kc, cov_sum ka (cov_ck kb kc), cov_sum ka kb, cov_sum kb kc, Rc.mk.injEq]
        dsimp only
        omega

/-- The cover of the first k. -/
def acc (x : Nat → Rc) : Nat → Rc
  | 0 => rz
  | k + 1 => cov (acc x k) (x k)

theorem acc_plain (x : Nat → Rc) (k : Nat) (h : ∀ j < k, may (x j) = true) : acc x k = rz ∨ Ck (acc x k) := by
  induction k with
  | zero => exact .inl rfl
  | succ k ih => exact cov_may (may_of (ih fun j hj => h j (by omega))) (h k (by omega))
theorem acc_may (x : Nat → Rc) (k : Nat) (h : ∀ j < k, may (x j) = true) : may (acc x k) = true := may_of (acc_plain x k h)
theorem acc_congr (x y : Nat → Rc) (k : Nat) (h : ∀ j < k, x j = y j) : acc x k = acc y k := by
  induction k with
  | zero => rfl
  | succ k ih => rw [acc, acc, ih fun j hj => h j (by omega), h k (by omega)]
theorem acc_add (x : Nat → Rc) (i k : Nat) (h : ∀ j < i + k, may (x j) = true) : acc x (i + k) = cov (acc x i) (acc (fun j => x (i + j)) k) := by
  induction k with
  | zero =>
    show acc x i = cov (acc x i) rz
    rw [cov_swap (acc_may x i fun j hj => h j (by omega)) may_rz, cov_rz]
    rcases acc_plain x i (fun j hj => h j (by omega)) with e | e
    · rw [e]; rfl
    · rw [pln_full e.emp]
  | succ k ih =>
    show cov (acc x (i + k)) (x (i + k)) = cov (acc x i) (cov (acc (fun j => x (i + j)) k) (x (i + k)))
    rw [ih fun j hj => h j (by omega), cov_assoc (acc_may x i fun j hj => h j (by omega)) (acc_may _ k fun j hj => h (i + j) (by omega)) (h (i + k) (by omega))]

/-- Begun anywhere, round and round: the same. -/
theorem acc_turn (x : Nat → Rc) (n d : Nat) (hd : d < n) (h : ∀ j < n, may (x j) = true) : acc (fun j => x ((j + d) % n)) n = acc x n := by
  obtain ⟨e, rfl⟩ : ∃ e, n = d + e := ⟨n - d, by omega⟩
  have h1 := acc_add x d e h
  have h2 := acc_add (fun j => x ((j + d) % (d + e))) e d (fun j hj => h _ (Nat.mod_lt _ (by omega)))
  rw [show d + e = e + d from Nat.add_comm d e] at h1 ⊢
  rw [show d + e = e + d from Nat.add_comm d e] at h2
  rw [h1, h2]
  have e1 : acc (fun j => x ((j + d) % (e + d))) e = acc (fun j => x (d + j)) e := acc_congr _ _ e fun j hj => by
    show x ((j + d) % (e + d)) = x (d + j)
    rw [Nat.mod_eq_of_lt (by omega), Nat.add_comm]
  have e2 : acc (fun j => x ((e + j + d) % (e + d))) d = acc x d := acc_congr _ _ d fun j hj => by
    show x ((e + j + d) % (e + d)) = x j
    rw [show e + j + d = j + (e + d) by omega, Nat.add_mod_right, Nat.mod_eq_of_lt (by omega)]
  rw [e1, e2]
  exact cov_swap (acc_may _ e fun j hj => h _ (by omega)) (acc_may x d fun j hj => h j (by omega))

/-- The j-th rectangle. -/
def rcOf (l : List (List Int)) (j : Nat) : Rc := match l[j]? with
  | some [x, y, z, u] => ⟨x, y, z, u⟩
  | _ => rz

/-- A rectangle's four cells. -/
structure El (u : World) (b o : Nat) (r : Rc) : Prop where
  lt : b < u.heap.size
  c0 : u.cell? ⟨b, o, none⟩ = some (.int .i64 r.x)
  c1 : u.cell? ⟨b, o + 1, none⟩ = some (.int .i64 r.y)
  c2 : u.cell? ⟨b, o + 2, none⟩ = some (.int .i64 r.w)
  c3 : u.cell? ⟨b, o + 3, none⟩ = some (.int .i64 r.h)

theorem El.on {w u : World} {b o : Nat} {r : Rc} (h : El w b o r) (hb : Below w.heap.size w u) : El u b o r :=
  ⟨Nat.lt_of_lt_of_le h.lt hb.size, by rw [hb.cell h.lt]; exact h.c0, by rw [hb.cell h.lt]; exact h.c1, by rw [hb.cell h.lt]; exact h.c2, by rw [hb.cell h.lt]; exact h.c3⟩

theorem RdN.el {w : World} {a : Option Addr} {n c : Nat} {l : List (List Int)} (h : RdN 4 w a n c l) (j : Nat) (hj : j < n) : ∃ b off, a = some ⟨b, off, none⟩ ∧ (rcOf l j).Ok ∧ El w b (off + j * 4) (rcOf l j) := by
  obtain ⟨b, off, y, rfl, hb, hy, hl, hr, hc⟩ := h.at_ (by omega) j hj
  match y, hl with
  | [x, y, z, u], _ =>
    have e : rcOf l j = ⟨x, y, z, u⟩ := by rw [rcOf, hy]
    rw [e]
    exact ⟨b, off, rfl, ⟨hr x (by simp), hr y (by simp), hr z (by simp), hr u (by simp)⟩, hb, hc 0 x rfl, by rw [Nat.add_assoc]; exact hc 1 y rfl, by rw [Nat.add_assoc]; exact hc 2 z rfl, by rw [Nat.add_assoc]; exact hc 3 u rfl⟩
end Go.Proofs.Ytlkodgmnhphfcaa
