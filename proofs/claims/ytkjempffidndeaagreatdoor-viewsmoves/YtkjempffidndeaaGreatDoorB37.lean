/- Lemmas that the proof leans on. -/
import Derived.Test.YtkjempffidndeaaGreatDoorB36
namespace Go.Proofs.YtkjempffidndeaaGreatDoor
open Go Go.RowKit
section
theorem addE_le (F : Fo) (id : Int) : addE F id ≤ 16 := by
 unfold addE
 split
 ·omega
 ·split
  ·omega
  ·split <;> omega
theorem unsE_le (F : Fo) (id : Int) : unsE F id ≤ 16 := by
 unfold unsE
 split
 ·omega
 ·split <;> omega
theorem drpE_le (F : Fo) (id : Int) : drpE F id ≤ 16 := by
 unfold drpE
 split <;> omega
theorem hasE_le (F : Fo) (id : Int) : hasE F id ≤ 16 := by
 unfold hasE
 split <;> omega
theorem subEB_le (F : Fo) (id y : Int) : subEB F id y ≤ 16 := by
 unfold subEB
 split
 ·split
  ·omega
  ·split <;> omega
 ·omega
theorem putE_le (F : Fo) (id y : Int) (b : Nat) : putE F id y b ≤ 16 := by
 have := unsE_le F id
 unfold putE
 split
 ·split <;> omega
 ·omega
structure Bq (es : List Addr) (w0 : World) (p q mm : Nat) (F G : Fo) (g : Nat) (cs : Array Value) (w : World) : Prop where
 ex : Ex (sbs (sbs (Pq es w0 p mm F) (Dq w0 q mm G)) (blk g 57 cs)) w
 lo : w0.heap.size ≤ g
 er : Errs w0 gerrs es
structure B2q (es : List Addr) (w0 : World) (p q mm : Nat) (F : Fo) (w : World) : Prop where
 ex : Ex (sbs (Pq es w0 p mm F) (Dq w0 q mm F)) w
 er : Errs w0 gerrs es
variable {es : List Addr} {w0 w w' : World} {p q mm : Nat} {F G F' G' : Fo} {g : Nat} {cs : Array Value}
theorem bq_ft (h : w0.heap.size ≤ g) : Ft w0.heap.size (sbs (sbs (Pq es w0 p mm F) (Dq w0 q mm G)) (blk g 57 cs)) := sbs_ft (sbs_ft (pq_ft _ _ _ _ _) (dq_ft _ _ _ _)) (blk_ft h)
theorem Bq.on (h : Bq es w0 p q mm F G g cs w) (hb : Below w.heap.size w w') : Bq es w0 p q mm F G g cs w' := ⟨h.ex.on (bq_ft h.lo) hb, h.lo, h.er⟩
theorem Bq.drew (h : Bq es w0 p q mm F G g cs w) : Bq es w0 p q mm F G g cs w.drew := h.on (Below.refl _ _).drew
theorem Bq.parts (h : Bq es w0 p q mm F G g cs w) : (∃ X, Pq es w0 p mm F w X) ∧ (∃ Y, Dq w0 q mm G w Y) ∧ w.heap[g]? = some (.cells cs 57 (0, 0)) := by
 obtain ⟨Z, _, _, ⟨X, Y, h1, h2, _⟩, ⟨h3, _⟩, _⟩ := h.ex
 exact ⟨⟨X, h1⟩, ⟨Y, h2⟩, h3⟩
theorem Bq.bel (h : Bq es w0 p q mm F G g cs w) : RowKit.Below w0.heap.size w0 w := by
 obtain ⟨⟨X, h1⟩, _⟩ := h.parts
 exact h1.1
theorem Bq.cell (h : Bq es w0 p q mm F G g cs w) (j : Nat) : w.cell? ⟨g, j, none⟩ = cs[j]? := Lib.cell_of_heap h.parts.2.2 j
theorem Bq.lt (h : Bq es w0 p q mm F G g cs w) : g < w.heap.size := (Array.getElem?_eq_some_iff.1 h.parts.2.2).1
theorem Bq.left {f : Nat} {args : Array Value} {r : Value} (h : Bq es w0 p q mm F G g cs w) (hc : Ct Tryz.prog f args (Pq es w0 p mm F) (Pq es w0 p (mm + 1) F') r) : Calls Tryz.prog f args w fun e w' => e = .returned r ∧ Bq es w0 p q (mm + 1) F' G g cs w' := by
 obtain ⟨Z, hZ⟩ := h.ex
 refine (((hc.left (pq_ft _ _ _ _ _) (dq_ft w0 q mm G)).left (sbs_ft (pq_ft _ _ _ _ _) (dq_ft _ _ _ _)) (blk_ft h.lo)) w Z hZ).mono fun _ _ ⟨h1, Z', h2, _⟩ => ⟨h1, ?_⟩
 obtain ⟨U, V, ⟨X, Y, h3, h4, h5⟩, h6⟩ := h2
 exact ⟨⟨Z', U, V, ⟨X, Y, h3, dq_mono h4 (by omega), h5⟩, h6⟩, h.lo, h.er⟩
theorem Bq.leftq {f : Nat} {args : Array Value} {Q : Ending → World → Prop} (h : Bq es w0 p q mm F G g cs w) (hc : Cq Tryz.prog f args (Pq es w0 p mm F) (Pq es w0 p (mm + 1) F') Q) : Calls Tryz.prog f args w fun e w' => Q e w' ∧ Bq es w0 p q (mm + 1) F' G g cs w' := by
 obtain ⟨Z, hZ⟩ := h.ex
 refine (((hc.left (pq_ft _ _ _ _ _) (dq_ft w0 q mm G)).left (sbs_ft (pq_ft _ _ _ _ _) (dq_ft _ _ _ _)) (blk_ft h.lo)) w Z hZ).mono fun _ _ ⟨h1, Z', h2, _⟩ => ⟨h1, ?_⟩
 obtain ⟨U, V, ⟨X, Y, h3, h4, h5⟩, h6⟩ := h2
 exact ⟨⟨Z', U, V, ⟨X, Y, h3, dq_mono h4 (by omega), h5⟩, h6⟩, h.lo, h.er⟩
theorem Bq.rightq {f : Nat} {args : Array Value} {Q : Ending → World → Prop} (h : Bq es w0 p q mm F G g cs w) (hc : Cq Tryz.prog f args (Dq w0 q mm G) (Dq w0 q (mm + 1) G') Q) : Calls Tryz.prog f args w fun e w' => Q e w' ∧ Bq es w0 p q (mm + 1) F G' g cs w' := by
 obtain ⟨Z, hZ⟩ := h.ex
 refine (((hc.right (pq_ft es w0 p mm F) (dq_ft _ _ _ _)).left (sbs_ft (pq_ft _ _ _ _ _) (dq_ft _ _ _ _)) (blk_ft h.lo)) w Z hZ).mono fun _ _ ⟨h1, Z', h2, _⟩ => ⟨h1, ?_⟩
 obtain ⟨U, V, ⟨X, Y, h3, h4, h5⟩, h6⟩ := h2
 exact ⟨⟨Z', U, V, ⟨X, Y, pq_mono h3 (by omega), h4, h5⟩, h6⟩, h.lo, h.er⟩
theorem Bq.right {f : Nat} {args : Array Value} {r : Value} (h : Bq es w0 p q mm F G g cs w) (hc : Ct Tryz.prog f args (Dq w0 q mm G) (Dq w0 q (mm + 1) G') r) : Calls Tryz.prog f args w fun e w' => e = .returned r ∧ Bq es w0 p q (mm + 1) F G' g cs w' := h.rightq hc.cq
theorem Bq.kind (h : Bq es w0 p q mm F G g cs w) (k : Nat) (hk : k ≤ 16) : Calls Tryz.prog 34 #[erv es k] w fun e w' => e = .returned (.int .i64 (k : Nat)) ∧ Bq es w0 p q mm F G g cs w' :=
 (kind_of (h.er.below h.bel) hk).mono fun _ _ ⟨h2, h3⟩ => ⟨h2, h.on h3⟩
theorem Bq.dat (h : Bq es w0 p q mm F G g cs w) : ∃ Y, Dq w0 q mm G w Y ∧ (∀ b ∈ Y, b ≠ g) ∧ ∀ G' W, Nx (Dq w0 q (mm + 1) G') Y w W → Bq es w0 p q (mm + 1) F G' g cs W := by
 obtain ⟨_, _, V, ⟨X, Y, h1, h2, h3, rfl⟩, h4, h5, rfl⟩ := h.ex
 refine ⟨Y, h2, fun b hb e => h5 b (List.mem_append_right _ hb) (by rw [h4.2, e]; simp), fun G' W hn => ?_⟩
 have n1 := Nx.right (pq_ft es w0 p mm F) (dq_ft w0 q mm G) h1 h2 h3 hn
 obtain ⟨Z', h6, _⟩ := Nx.left (sbs_ft (pq_ft es w0 p mm F) (dq_ft w0 q mm G)) (blk_ft h.lo) ⟨X, Y, h1, h2, h3, rfl⟩ h4 h5 n1
 obtain ⟨U, V', ⟨X', Y', h7, h8, h9⟩, h10⟩ := h6
 exact ⟨⟨Z', U, V', ⟨X', Y', pq_mono h7 (by omega), h8, h9⟩, h10⟩, h.lo, h.er⟩
theorem Bq.two (h : Bq es w0 p q mm F F g cs w) {n : Nat} (hn : mm ≤ n) : B2q es w0 p q n F w := by
 obtain ⟨Z, U, V, ⟨X, Y, h3, h4, h5⟩, h6⟩ := h.ex
 exact ⟨⟨U, X, Y, pq_mono h3 hn, dq_mono h4 hn, h5⟩, h.er⟩
theorem B2q.bel (h : B2q es w0 p q mm F w) : RowKit.Below w0.heap.size w0 w := by
 obtain ⟨Z, X, Y, h1, _⟩ := h.ex
 exact h1.1
theorem B2q.on (h : B2q es w0 p q mm F w) (hb : Below w.heap.size w w') : B2q es w0 p q mm F w' := ⟨h.ex.on (sbs_ft (pq_ft _ _ _ _ _) (dq_ft _ _ _ _)) hb, h.er⟩
theorem B2q.mono (h : B2q es w0 p q mm F w) {n : Nat} (hn : mm ≤ n) : B2q es w0 p q n F w := by
 obtain ⟨Z, X, Y, h3, h4, h5⟩ := h.ex
 exact ⟨⟨Z, X, Y, pq_mono h3 hn, dq_mono h4 hn, h5⟩, h.er⟩
theorem B2q.bo (h : B2q es w0 p q mm F w) (cs : Array Value) : Bq es w0 p q mm F F w.heap.size cs (w.alloc (.cells cs 57)) := by
 have hb := h.bel
 obtain ⟨Z, hZ⟩ := h.ex
 exact ⟨⟨_, sbs_new (sbs_ft (pq_ft _ _ _ _ _) (dq_ft _ _ _ _)) hZ ((Below.refl _ _).alloc (Nat.le_refl _) _) ⟨heap_alloc_new w _, rfl⟩ (fun b hb => by
  obtain rfl := List.mem_singleton.1 hb
  exact Nat.le_refl _)⟩, hb.size, h.er⟩
theorem Bq.inp (h : Bq es w0 p q mm F G g cs w) (id : Int) (hi : Bt id) (a : Bool) (l : Sl) {u : World} (hb : Below w.heap.size w u) (hl : RdM 4 u l.a l.n l.c l.l) (hn : l.n ≤ 20) (hx : ∀ y, l.a = some y → 0 < l.n → w.heap.size ≤ y.block) :
  Calls Tryz.prog 46 #[.pointer (some ⟨p, 0, none⟩), .int .i64 id, .bool a, .slice l.a l.n l.c] u fun e w' => e = .returned (erv es (hasE F id)) ∧ Bq es w0 p q (mm + 1) (upd F id (inpS a l.l)) G g cs w' := by
 obtain ⟨_, _, V, ⟨X, Y, h1, h2, h3, rfl⟩, h4, h5, rfl⟩ := h.ex
 have k1 := (pq_ft es w0 p mm F).on h1 hb
 have k2 := (dq_ft w0 q mm G).on h2 hb
 have k4 := (blk_ft (T := 57) (cs := cs) h.lo).on h4 hb
 refine (pq_inp k1 id hi a l hl hn (fun y hy h0 hm => ?_)).mono fun _ _ ⟨e1, hN⟩ => ⟨e1, ?_⟩
 ·have := hx y hy h0
  have := ((pq_ft es w0 p mm F).lt h1 _ hm).2
  omega
 ·have n1 := Nx.left (pq_ft es w0 p mm F) (dq_ft w0 q mm G) k1 k2 h3 hN
  obtain ⟨Z', h6, _⟩ := Nx.left (sbs_ft (pq_ft es w0 p mm F) (dq_ft w0 q mm G)) (blk_ft h.lo) ⟨X, Y, k1, k2, h3, rfl⟩ k4 h5 n1
  obtain ⟨U, V', ⟨X', Y', h7, h8, h9⟩, h10⟩ := h6
  exact ⟨⟨Z', U, V', ⟨X', Y', h7, dq_mono h8 (by omega), h9⟩, h10⟩, h.lo, h.er⟩
structure Oc17 (x : World) (g : Nat) (o : Oq) : Prop where
 c0 : x.cell? ⟨g, 0, none⟩ = some (.int .i64 o.k)
 c1 : x.cell? ⟨g, 1, none⟩ = some (.int .i64 o.id)
 c2 : x.cell? ⟨g, 2, none⟩ = some (.int .i64 o.a)
 c3 : x.cell? ⟨g, 3, none⟩ = some (.int .i64 o.b)
 c4 : x.cell? ⟨g, 4, none⟩ = some (.int .i64 o.x)
 c5 : x.cell? ⟨g, 5, none⟩ = some (.int .i64 o.y)
 c6 : x.cell? ⟨g, 6, none⟩ = some (.int .i64 o.w)
 c7 : x.cell? ⟨g, 7, none⟩ = some (.int .i64 o.h)
 c8 : x.cell? ⟨g, 8, none⟩ = some (.slice o.l.a o.l.n o.l.c)
 lt : g < x.heap.size
theorem Bq.oc {o : Oq} (h : Bq es w0 p q mm F G g #[.int .i64 o.k, .int .i64 o.id, .int .i64 o.a, .int .i64 o.b, .int .i64 o.x, .int .i64 o.y, .int .i64 o.w, .int .i64 o.h, .slice o.l.a o.l.n o.l.c] w) : Oc17 w g o := ⟨h.cell 0, h.cell 1, h.cell 2, h.cell 3, h.cell 4, h.cell 5, h.cell 6, h.cell 7, h.cell 8, h.lt⟩
def StR (es : List Addr) (w0 : World) (p q mm : Nat) (e : Ending) (w' : World) : Prop := e = .returned (.bool true) ∧ ∃ F', B2q es w0 p q (mm + 2) F' w'
theorem upd_no {f : Sf → Sf} {id : Int} (h : gt F id = none) : upd F id f = F := by rw [upd, h]
theorem hasE_no {id : Int} (h : gt F id = none) : hasE F id = 5 := by rw [hasE, h]
theorem hasE_yes {id : Int} {s : Sf} (h : gt F id = some s) : hasE F id = 0 := by rw [hasE, h]
end
end Go.Proofs.YtkjempffidndeaaGreatDoor
