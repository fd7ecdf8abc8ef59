/- Lemmas that the proof leans on. -/
import Derived.Test.YtpbgbpcdohdecaaGreatDoorB09
import Derived.Shelf.SlIterI.Nil
import Derived.Shelf.SortM.Plain
import Derived.Shelf.SortM.SortNone
namespace Go.Proofs.YtpbgbpcdohdecaaGreatDoor
open Go Go.RowKit
set_option maxRecDepth 100000
set_option maxHeartbeats 1000000
section
structure Pst (base : Nat) (w : World) (p a b : Nat) (P : PL) (B : BL) : Prop where
 lop : base ≤ p
 loa : base ≤ a
 lob : base ≤ b
 npa : p ≠ a
 npb : p ≠ b
 nab : a ≠ b
 var : w.heap[p]? = some (.cells #[.map (some a), .map (some b)] 110 (0, 0))
 pown : ∃ D, w.ownsMap Tryz.prog 3 plR_PolB a P.length D ∧ Rp pld (0, 0) D P
 bown : ∃ D, w.ownsMap Tryz.prog 3 bfR b B.length D ∧ Rp bfd (nf0, false) D B
 ok : Okp P B
theorem pown_kp_PolC {R : Value → Option (DataW Unit × List MemPlace)} {X : List Nat} {w w' : World} {b n : Nat} {D : DataW Unit} (h : w.ownsMap Tryz.prog 3 R b n D) (hk : Kp X w w') (hX : b ∉ X) : w'.ownsMap Tryz.prog 3 R b n D := by
 obtain ⟨es, clock, hb, F, hs, hD⟩ := h
 exact ⟨es, clock, hk.var hb hX, F, hs, hD⟩
variable {base : Nat} {w w' : World} {p a b : Nat} {P : PL} {B : BL} {es : List Addr}
theorem Pst.kept {X : List Nat} (h : Pst base w p a b P B) (hk : Kp X w w') (hp : p ∉ X) (ha : a ∉ X) (hb : b ∉ X) : Pst base w' p a b P B := by
 obtain ⟨D, h1, h2⟩ := h.pown
 obtain ⟨D', h3, h4⟩ := h.bown
 exact ⟨h.lop, h.loa, h.lob, h.npa, h.npb, h.nab, hk.var h.var hp, ⟨D, pown_kp_PolC h1 hk ha, h2⟩, ⟨D', pown_kp_PolC h3 hk hb, h4⟩, h.ok⟩
theorem Pst.lt (h : Pst base w p a b P B) : p < w.heap.size ∧ a < w.heap.size ∧ b < w.heap.size := by
 obtain ⟨D, h1, _⟩ := h.pown
 obtain ⟨D', h2, _⟩ := h.bown
 exact ⟨(Array.getElem?_eq_some_iff.1 h.var).1, h1.lt, h2.lt⟩
theorem pnew_any_PolC (w : World) : Calls Tryz.prog 20 #[] w fun e w' => e = .returned (.pointer (some ⟨w.heap.size + 2, 0, none⟩)) ∧ Below w.heap.size w w' ∧ ∀ base, base ≤ w.heap.size → Pst base w' (w.heap.size + 2) w.heap.size (w.heap.size + 1) [] [] := by
 have H0 := hid (World.ownsMap_made w Tryz.prog 3 plR_PolB)
 have H1 := hid (World.ownsMap_made (w.alloc (.map #[] 0)) Tryz.prog 3 bfR)
 have hmm := @run_makeMap Tryz.prog
 go_enter Tryz.func20, Tryz.ntmps20
 go_wp2
 go_ret
 have hb : Below w.heap.size w (w.alloc (.map #[] 0)) := (Below.refl w.heap.size w).alloc (Nat.le_refl _) _
 have hb2 : Below w.heap.size w ((w.alloc (.map #[] 0)).alloc (.map #[] 0)) := hb.alloc hb.size _
 have hs1 : (w.alloc (.map #[] 0)).heap.size = w.heap.size + 1 := by simp
 have h1 := H1.out
 rw [hs1] at h1
 refine ⟨by simp, hb2.alloc hb2.size _, fun base hbase => ⟨by omega, hbase, by omega, by omega, by omega, by omega, ?_, ⟨_, (H0.out.alloc _).alloc _, rp_empty _ _⟩, ⟨_, h1.alloc _, rp_empty _ _⟩, okp0⟩⟩
 have := heap_alloc_new ((w.alloc (.map #[] 0)).alloc (.map #[] 0)) (.cells #[.map (some w.heap.size), .map (some (w.heap.size + 1))] 110 (0, 0))
 simpa using this
end
section
section
variable {es : List Addr} {w0 w w' : World} {p : Nat} {X : List Nat}
theorem e2_errs (h : Errs w gerrs es) : E2 w es := by
 obtain ⟨x0, x1, x2, x3, x4, x5, x6, x7, x8, x9, x10, x11, x12, x13, x14, x15, rfl⟩ := len16 h.len
 exact ⟨(h.each 0 _ _ rfl rfl).1, (h.each 4 _ _ rfl rfl).1⟩
def Ti (w0 : World) (p : Nat) (s : Int → Int × Int) : Th := fun w X => RowKit.Below w0.heap.size w0 w ∧ ∃ b, Tb w0.heap.size w p b s ∧ X = [p, b]
variable {s : Int → Int × Int}
theorem ti_ft (w0 : World) (p : Nat) (s : Int → Int × Int) : Ft w0.heap.size (Ti w0 p s) := by
 refine ⟨fun {w X} h b hb => ?_, fun {w w' X Y} h hk hY hX => ?_⟩
 ·obtain ⟨_, c, h1, rfl⟩ := h
  simp only [List.mem_cons, List.not_mem_nil, or_false] at hb
  rcases hb with rfl | rfl
  ·exact ⟨h1.lop, h1.lt.1⟩
  ·exact ⟨h1.lob, h1.lt.2⟩
 ·obtain ⟨h0, c, h1, rfl⟩ := h
  exact ⟨h0.trans (hk.below h0.size hY), c, h1.kept hk (hX p (by simp)) (hX c (by simp)), rfl⟩
theorem ti_nx {b : Nat} {s' : Int → Int × Int} (h0 : RowKit.Below w0.heap.size w0 w) (h : Tb w0.heap.size w p b s) (h1 : Tb w0.heap.size w' p b s') (hk : Kp [b] w w') : Nx (Ti w0 p s') [p, b] w w' :=
 ⟨[p, b], ⟨h0.trans (hk.below h0.size (fun k hk => by
  simp only [List.mem_cons, List.not_mem_nil, or_false] at hk
  rw [hk]
  exact h.lob)), b, h1, rfl⟩, hk.mono (by simp), fun _ h => .inl h⟩
theorem ti_new (hb : RowKit.Below w0.heap.size w0 w) : Calls Tryz.prog 39 #[] w fun e w' => ∃ p X, e = .returned (.pointer (some ⟨p, 0, none⟩)) ∧ Ti w0 p s0 w' X ∧ RowKit.Below w.heap.size w w' ∧ ∀ b ∈ X, w.heap.size ≤ b :=
 (new_any_IdsB w).mono fun _ _ ⟨h1, h2, h3⟩ => ⟨_, _, h1, ⟨Below.on hb h2, _, h3 _ hb.size, rfl⟩, h2, fun b hb => by
  simp only [List.mem_cons, List.not_mem_nil, or_false] at hb
  omega⟩
theorem ti_add (hE : Errs w0 gerrs es) (id f v : Int) (hi : -9223372036854775808 ≤ id ∧ id ≤ 9223372036854775807) : Ct_LibY Tryz.prog 78 #[.pointer (some ⟨p, 0, none⟩), .int .i64 id, .int .i64 f, .int .i64 v] (Ti w0 p s) (Ti w0 p (addS s id f v)) (erv es (addE_IdsA s id f v)) := fun w X h => by
 obtain ⟨h0, b, h1, rfl⟩ := h
 exact (add_any _ w es (e2_errs (hE.below h0)) p b s h1 id f v hi).mono fun _ _ ⟨h2, h3, h4⟩ => ⟨h2, ti_nx h0 h1 h3 h4⟩
theorem Ti.face (h : Ti w0 p s w X) (id : Int) (hi : -9223372036854775808 ≤ id ∧ id ≤ 9223372036854775807) : Calls Tryz.prog 33 #[.pointer (some ⟨p, 0, none⟩), .int .i64 id] w fun e w' => e = .returned (.int .i64 (s id).1) ∧ w' = w := by
 obtain ⟨h0, b, h1, rfl⟩ := h
 exact face_any _ w p b s h1 id hi
theorem Ti.ver (h : Ti w0 p s w X) (id : Int) (hi : -9223372036854775808 ≤ id ∧ id ≤ 9223372036854775807) : Calls Tryz.prog 75 #[.pointer (some ⟨p, 0, none⟩), .int .i64 id] w fun e w' => e = .returned (.int .i64 (s id).2) ∧ w' = w := by
 obtain ⟨h0, b, h1, rfl⟩ := h
 exact version_any _ w p b s h1 id hi
def mbl (s : Int → Mo) : List Nat := idl_MemA.filterMap fun k => (s k).map (·.1)
theorem mem_mbl {s : Int → Mo} (hd : Mdom s) {b : Nat} : b ∈ mbl s ↔ ∃ k q, s k = some q ∧ q.1 = b := by
 rw [mbl, List.mem_filterMap]
 constructor
 ·rintro ⟨k, _, h⟩
  obtain ⟨q, h1, h2⟩ := Option.map_eq_some_iff.1 h
  exact ⟨k, q, h1, h2⟩
 ·rintro ⟨k, q, h1, h2⟩
  exact ⟨k, mem_idl_MemA.2 (hd k (by rw [h1]; simp)), by rw [h1]; exact congrArg some h2⟩
theorem mbl_none : mbl (fun _ => none) = [] := by
 rw [mbl]
 exact List.filterMap_eq_nil_iff.2 fun _ _ => rfl
def Tm (w0 : World) (p : Nat) (c : Kb_MemP) : Th := fun w X => RowKit.Below w0.heap.size w0 w ∧ ∃ b s, Mm w0.heap.size w p b s ∧ ctS s = c ∧ X = p :: b :: mbl s
variable {c : Kb_MemP}
theorem tm_ft (w0 : World) (p : Nat) (c : Kb_MemP) : Ft w0.heap.size (Tm w0 p c) := by
 refine ⟨fun {w X} h b hb => ?_, fun {w w' X Y} h hk hY hX => ?_⟩
 ·obtain ⟨_, g, s, h1, _, rfl⟩ := h
  simp only [List.mem_cons] at hb
  rcases hb with rfl | rfl | hb
  ·exact ⟨h1.lop, h1.lt.1⟩
  ·exact ⟨h1.lob, h1.lt.2⟩
  ·obtain ⟨k, q, h2, rfl⟩ := (mem_mbl h1.dom).1 hb
   exact ⟨(h1.row k q h2).1, h1.rlt h2⟩
 ·obtain ⟨h0, g, s, h1, h2, rfl⟩ := h
  exact ⟨h0.trans (hk.below h0.size hY), g, s, h1.kept hk (hX p (by simp)) (hX g (by simp)) (fun k q h3 => hX q.1 (by simp only [List.mem_cons]; exact .inr (.inr ((mem_mbl h1.dom).2 ⟨k, q, h3, rfl⟩)))), h2, rfl⟩
theorem tm_new (hb : RowKit.Below w0.heap.size w0 w) : Calls Tryz.prog 40 #[] w fun e w' => ∃ p X, e = .returned (.pointer (some ⟨p, 0, none⟩)) ∧ Tm w0 p (fun _ => none) w' X ∧ RowKit.Below w.heap.size w w' ∧ ∀ b ∈ X, w.heap.size ≤ b :=
 (mnew_any w).mono fun _ _ ⟨h1, h2, h3⟩ => ⟨_, _, h1, ⟨Below.on hb h2, _, _, h3 _ hb.size, rfl, rfl⟩, h2, fun b hb => by
  simp only [mbl_none, List.mem_cons, List.not_mem_nil, or_false] at hb
  omega⟩
def Tp (w0 : World) (p : Nat) (P : PL) (B : BL) : Th := fun w X => RowKit.Below w0.heap.size w0 w ∧ ∃ a b, Pst w0.heap.size w p a b P B ∧ X = [p, a, b]
variable {P P' : PL} {B B' : BL}
theorem tp_ft (w0 : World) (p : Nat) (P : PL) (B : BL) : Ft w0.heap.size (Tp w0 p P B) := by
 refine ⟨fun {w X} h g hg => ?_, fun {w w' X Y} h hk hY hX => ?_⟩
 ·obtain ⟨_, a, b, h1, rfl⟩ := h
  simp only [List.mem_cons, List.not_mem_nil, or_false] at hg
  rcases hg with rfl | rfl | rfl
  ·exact ⟨h1.lop, h1.lt.1⟩
  ·exact ⟨h1.loa, h1.lt.2.1⟩
  ·exact ⟨h1.lob, h1.lt.2.2⟩
 ·obtain ⟨h0, a, b, h1, rfl⟩ := h
  exact ⟨h0.trans (hk.below h0.size hY), a, b, h1.kept hk (hX p (by simp)) (hX a (by simp)) (hX b (by simp)), rfl⟩
theorem tp_new (hb : RowKit.Below w0.heap.size w0 w) : Calls Tryz.prog 20 #[] w fun e w' => ∃ p X, e = .returned (.pointer (some ⟨p, 0, none⟩)) ∧ Tp w0 p [] [] w' X ∧ RowKit.Below w.heap.size w w' ∧ ∀ b ∈ X, w.heap.size ≤ b :=
 (pnew_any_PolC w).mono fun _ _ ⟨h1, h2, h3⟩ => ⟨_, _, h1, ⟨Below.on hb h2, _, _, h3 _ hb.size, rfl⟩, h2, fun b hb => by
  simp only [List.mem_cons, List.not_mem_nil, or_false] at hb
  omega⟩
end
end
section
open Go Go.RowKit Go.Maps Go.Sort Go.Shelf
def keysA_ren_ShlU : Go.Shelf.Ren := ⟨fun | 7 => 159 | 10 => 219 | n => n, fun | 23 => 111 | 26 => 3 | 3 => 204 | 28 => 271 | 0 => 0 | 27 => 270 | 33 => 144 | 4 => 4 | n => n, fun | n => n⟩
theorem keysA_ShlU : Go.Proofs.SlLaysZI.n7 Tryz.prog keysA_ren_ShlU := {
 mixed := by kernel_rfl
 f7 := ⟨Tryz.f159.name, by decide, Tryz.func159.trans (congrArg some (by kernel_rfl))⟩
 f10 := ⟨Tryz.f219.name, by decide, Tryz.func219.trans (congrArg some (by kernel_rfl))⟩
 t0 := Tryz.underlying0
 a0 := Tryz.isAgg0
 z0 := Tryz.sizeOf0
 v0 := Tryz.zeroValue0
 t4 := Tryz.underlying4
 a4 := Tryz.isAgg4
 z4 := Tryz.sizeOf4
 v4 := Tryz.zeroValue4
 t23 := Tryz.underlying111
 a23 := Tryz.isAgg111
 z23 := Tryz.sizeOf111
 v23 := Tryz.zeroValue111
 t26 := Tryz.underlying3
 a26 := Tryz.isAgg3
 z26 := Tryz.sizeOf3
 v26 := Tryz.zeroValue3
 t27 := Tryz.underlying270
 a27 := Tryz.isAgg270
 z27 := Tryz.sizeOf270
 v27 := Tryz.zeroValue270
 t28 := Tryz.underlying271
 a28 := Tryz.isAgg271
 z28 := Tryz.sizeOf271
 v28 := Tryz.zeroValue271
 t33 := Tryz.underlying144
 a33 := Tryz.isAgg144
 z33 := Tryz.sizeOf144
 v33 := Tryz.zeroValue144 }
def sortedA_ren_ShlU : Go.Shelf.Ren := ⟨fun | 6 => 158 | 8 => 218 | 9 => 99 | 11 => 275 | 13 => 161 | 12 => 160 | 23 => 229 | 24 => 230 | 14 => 220 | 15 => 221 | 16 => 222 | 17 => 223 | 18 => 224 | 19 => 225 | 20 => 226 | 21 => 227 | 22 => 228 | 25 => 276 | 26 => 277 | 27 => 278 | 28 => 279 | 29 => 280 | 30 => 281 | 31 => 303 | n => n, fun | 26 => 3 | 28 => 271 | 24 => 120 | 0 => 0 | 3 => 3 | 37 => 221 | 48 => 55 | 50 => 330 | 4 => 4 | 40 => 323 | 39 => 322 | 45 => 258 | 5 => 5 | 9 => 9 | 51 => 365 | 55 => 369 | 57 => 385 | 58 => 94 | 33 => 144 | n => n, fun | n => n⟩
theorem sortedA_ShlU : Go.Proofs.SlLaysZI.n6 Tryz.prog sortedA_ren_ShlU := {
 mixed := by kernel_rfl
 f6 := ⟨Tryz.f158.name, by decide, Tryz.func158.trans (congrArg some (by kernel_rfl))⟩
 f8 := ⟨Tryz.f218.name, by decide, Tryz.func218.trans (congrArg some (by kernel_rfl))⟩
 f11 := ⟨Tryz.f275.name, by decide, Tryz.func275.trans (congrArg some (by kernel_rfl))⟩
 t0 := Tryz.underlying0
 a0 := Tryz.isAgg0
 z0 := Tryz.sizeOf0
 v0 := Tryz.zeroValue0
 t24 := Tryz.underlying120
 a24 := Tryz.isAgg120
 z24 := Tryz.sizeOf120
 v24 := Tryz.zeroValue120
 t26 := Tryz.underlying3
 a26 := Tryz.isAgg3
 z26 := Tryz.sizeOf3
 v26 := Tryz.zeroValue3
 t28 := Tryz.underlying271
 a28 := Tryz.isAgg271
 z28 := Tryz.sizeOf271
 v28 := Tryz.zeroValue271
 i26 := by kernel_rfl }
def sortA_ren_ShlU : Go.Shelf.Ren := ⟨fun | 5 => 99 | 8 => 161 | 7 => 160 | 19 => 229 | 20 => 230 | 10 => 220 | 11 => 221 | 12 => 222 | 13 => 223 | 14 => 224 | 15 => 225 | 16 => 226 | 17 => 227 | 18 => 228 | 30 => 276 | 31 => 277 | 32 => 278 | 33 => 279 | 34 => 280 | 35 => 281 | 40 => 303 | n => n, fun | 23 => 120 | 25 => 3 | 3 => 3 | 32 => 221 | 22 => 120 | 0 => 0 | 44 => 55 | 46 => 330 | 4 => 4 | 36 => 323 | 35 => 322 | 41 => 258 | 5 => 5 | 9 => 9 | 53 => 365 | 57 => 369 | 63 => 385 | 64 => 94 | n => n, fun | n => n⟩
theorem sortA_ShlU : Go.Proofs.SlLaysM.n5 Tryz.prog sortA_ren_ShlU := {
 mixed := by kernel_rfl
 f5 := ⟨Tryz.f99.name, by decide, Tryz.func99.trans (congrArg some (by kernel_rfl))⟩
 f7 := ⟨Tryz.f160.name, by decide, Tryz.func160.trans (congrArg some (by kernel_rfl))⟩
 f8 := Tryz.func161.trans (congrArg some (by kernel_rfl))
 f10 := ⟨Tryz.f220.name, by decide, Tryz.func220.trans (congrArg some (by kernel_rfl))⟩
 f11 := ⟨Tryz.f221.name, by decide, Tryz.func221.trans (congrArg some (by kernel_rfl))⟩
 f12 := ⟨Tryz.f222.name, by decide, Tryz.func222.trans (congrArg some (by kernel_rfl))⟩
 f13 := ⟨Tryz.f223.name, by decide, Tryz.func223.trans (congrArg some (by kernel_rfl))⟩
 f14 := ⟨Tryz.f224.name, by decide, Tryz.func224.trans (congrArg some (by kernel_rfl))⟩
 f15 := ⟨Tryz.f225.name, by decide, Tryz.func225.trans (congrArg some (by kernel_rfl))⟩
 f16 := ⟨Tryz.f226.name, by decide, Tryz.func226.trans (congrArg some (by kernel_rfl))⟩
 f17 := ⟨Tryz.f227.name, by decide, Tryz.func227.trans (congrArg some (by kernel_rfl))⟩
 f18 := ⟨Tryz.f228.name, by decide, Tryz.func228.trans (congrArg some (by kernel_rfl))⟩
 f19 := Tryz.func229.trans (congrArg some (by kernel_rfl))
 f20 := Tryz.func230.trans (congrArg some (by kernel_rfl))
 f30 := ⟨Tryz.f276.name, by decide, Tryz.func276.trans (congrArg some (by kernel_rfl))⟩
 f31 := Tryz.func277.trans (congrArg some (by kernel_rfl))
 f32 := Tryz.func278.trans (congrArg some (by kernel_rfl))
 f33 := ⟨Tryz.f279.name, by decide, Tryz.func279.trans (congrArg some (by kernel_rfl))⟩
 f34 := ⟨Tryz.f280.name, by decide, Tryz.func280.trans (congrArg some (by kernel_rfl))⟩
 f35 := ⟨Tryz.f281.name, by decide, Tryz.func281.trans (congrArg some (by kernel_rfl))⟩
 f40 := ⟨Tryz.f303.name, by decide, Tryz.func303.trans (congrArg some (by kernel_rfl))⟩
 t0 := Tryz.underlying0
 a0 := Tryz.isAgg0
 z0 := Tryz.sizeOf0
 v0 := Tryz.zeroValue0
 t3 := Tryz.underlying3
 a3 := Tryz.isAgg3
 z3 := Tryz.sizeOf3
 v3 := Tryz.zeroValue3
 t4 := Tryz.underlying4
 a4 := Tryz.isAgg4
 z4 := Tryz.sizeOf4
 v4 := Tryz.zeroValue4
 t5 := Tryz.underlying5
 a5 := Tryz.isAgg5
 z5 := Tryz.sizeOf5
 v5 := Tryz.zeroValue5
 t9 := Tryz.underlying9
 a9 := Tryz.isAgg9
 z9 := Tryz.sizeOf9
 v9 := Tryz.zeroValue9
 t22 := Tryz.underlying120
 a22 := Tryz.isAgg120
 z22 := Tryz.sizeOf120
 v22 := Tryz.zeroValue120
 t23 := Tryz.underlying120
 a23 := Tryz.isAgg120
 z23 := Tryz.sizeOf120
 v23 := Tryz.zeroValue120
 t25 := Tryz.underlying3
 a25 := Tryz.isAgg3
 z25 := Tryz.sizeOf3
 v25 := Tryz.zeroValue3
 t32 := Tryz.underlying221
 a32 := Tryz.isAgg221
 z32 := Tryz.sizeOf221
 v32 := Tryz.zeroValue221
 t35 := Tryz.underlying322
 a35 := Tryz.isAgg322
 z35 := Tryz.sizeOf322
 v35 := Tryz.zeroValue322
 t36 := Tryz.underlying323
 a36 := Tryz.isAgg323
 z36 := Tryz.sizeOf323
 v36 := Tryz.zeroValue323
 t41 := Tryz.underlying258
 a41 := Tryz.isAgg258
 z41 := Tryz.sizeOf258
 v41 := Tryz.zeroValue258
 t44 := Tryz.underlying55
 a44 := Tryz.isAgg55
 z44 := Tryz.sizeOf55
 v44 := Tryz.zeroValue55
 t46 := Tryz.underlying330
 a46 := Tryz.isAgg330
 z46 := Tryz.sizeOf330
 v46 := Tryz.zeroValue330
 t53 := Tryz.underlying365
 a53 := Tryz.isAgg365
 z53 := Tryz.sizeOf365
 v53 := Tryz.zeroValue365
 t57 := Tryz.underlying369
 a57 := Tryz.isAgg369
 z57 := Tryz.sizeOf369
 v57 := Tryz.zeroValue369
 t63 := Tryz.underlying385
 a63 := Tryz.isAgg385
 z63 := Tryz.sizeOf385
 v63 := Tryz.zeroValue385
 t64 := Tryz.underlying94
 a64 := Tryz.isAgg94
 z64 := Tryz.sizeOf94
 v64 := Tryz.zeroValue94 }
end
section
open Go Go.RowKit Go.Maps Go.Sort Go.Shelf
abbrev I64_UseB (x : Int) : Prop := -9223372036854775808 ≤ x ∧ x ≤ 9223372036854775807
def uR : Value → Option (DataW Unit × List MemPlace)
 | .agg _ => some (.agg [], [])
 | _ => none
def ud (_ : Unit) : DataW Unit := .agg []
def iR : Value → Option (DataW Unit × List MemPlace)
 | .int .i64 n => some (.lit (.int .i64 n), [])
 | _ => none
def idt (n : Int) : DataW Unit := .lit (.int .i64 n)
theorem iR_mk (n : Int) : iR (.int .i64 n) = some (idt n, []) := rfl
theorem iR_inv {x : Value} {n : Int} {ps : List MemPlace} (h : iR x = some (idt n, ps)) : x = .int .i64 n := by
 unfold iR at h
 split at h
 ·simp only [Option.some.injEq, Prod.mk.injEq, idt, DataW.lit.injEq, Lit.int.injEq, true_and] at h
  rw [h.1]
 ·cases h
structure Ust (w : World) (p a b : Nat) (L told : List Int) : Prop where
 npa : p ≠ a
 npb : p ≠ b
 nab : a ≠ b
 var : w.heap[p]? = some (.cells #[.map (some a), .map (some b)] 113 (0, 0))
 hown : ∃ D, w.ownsMap Tryz.prog 3 uR a L.length D ∧ Rp ud () D (un L)
 town : ∃ D T, w.ownsMap Tryz.prog 3 iR b T.length D ∧ Rp idt 0 D T ∧ Cnt T told
 ris : Ris L
 pos : ∀ x ∈ L, 0 < x ∧ x ≤ 9223372036854775807
theorem own_kp_UseB {R : Value → Option (DataW Unit × List MemPlace)} {X : List Nat} {w w' : World} {b n : Nat} {D : DataW Unit} (h : w.ownsMap Tryz.prog 3 R b n D) (hk : Kp X w w') (hX : b ∉ X) : w'.ownsMap Tryz.prog 3 R b n D := by
 obtain ⟨es, clock, hb, F, hs, hD⟩ := h
 exact ⟨es, clock, hk.var hb hX, F, hs, hD⟩
variable {w w' : World} {p a b : Nat} {L told : List Int}
theorem Ust.kept {X : List Nat} (h : Ust w p a b L told) (hk : Kp X w w') (hp : p ∉ X) (ha : a ∉ X) (hb : b ∉ X) : Ust w' p a b L told := by
 obtain ⟨D, h1, h2⟩ := h.hown
 obtain ⟨D', T, h3, h4, h5⟩ := h.town
 exact ⟨h.npa, h.npb, h.nab, hk.var h.var hp, ⟨D, own_kp_UseB h1 hk ha, h2⟩, ⟨D', T, own_kp_UseB h3 hk hb, h4, h5⟩, h.ris, h.pos⟩
theorem Ust.lt (h : Ust w p a b L told) : p < w.heap.size ∧ a < w.heap.size ∧ b < w.heap.size := by
 obtain ⟨D, h1, _⟩ := h.hown
 obtain ⟨D', T, h2, _⟩ := h.town
 exact ⟨(Array.getElem?_eq_some_iff.1 h.var).1, h1.lt, h2.lt⟩
theorem Ust.c0 (h : Ust w p a b L told) : w.cell? ⟨p, 0, none⟩ = some (.map (some a)) := by rw [Lib.cell_of_heap h.var]; rfl
theorem Ust.c1 (h : Ust w p a b L told) : w.cell? ⟨p, 1, none⟩ = some (.map (some b)) := by rw [Lib.cell_of_heap h.var]; rfl
theorem kInt_UseB (id : Int) (h : I64_UseB id) : keyOf Tryz.prog 3 (.int .i64 id) = some (.int .i64 id) :=
 Maps.keyOf_int_mk Tryz.underlying3 (by simp [Lit.wf, IntKind.min, IntKind.max, IntKind.signed, IntKind.bits]; omega)
theorem zInt (w : World) : (zeroValue 3).run Tryz.prog w = .ok (.int .i64 0) w := by kernel_rfl
section
variable {H : Type} {P : Program} {ops : Array Oper} {rest : List Oper} {o : Oper} {a : Act} (w : World) {Q : Exit → Act → World → Prop}
theorem wpList_lookup_own_UseB (hg : o.guard = none) (m x : Operand) (t : TypeId) (hop : o.op = Op.lookup t m x false)
  (k e : TypeId) (K : Maps.Keyed P k) (ht : P.underlying t = some (.map k e)) (R : Value → Option (DataW H × List MemPlace)) {z : Value} (hz : (zeroValue e).run P w = .ok z w) (zd : DataW H) (zp : List MemPlace) (hzd : R z = some (zd, zp)) (b n : Nat) (D : DataW H)
  (hm : a.eval m = .map (some b)) (hown : w.ownsMap P k R b n D) (key : Value) (kl : Lit) (hx : a.eval x = key) (hkey : keyOf P k key = some kl)
  (hK : ∀ v ps, R v = some (D.atKey kl zd, ps) → wpList P ops Q rest (a.put o.dst v) w) :
  wpList P ops Q (o :: rest) a w := by
 refine wpList_plain hg fun K' hK' => ?_
 obtain ⟨v, ps, hrun, hv⟩ := hown.lookup K ht hz hzd hkey
 unfold Oper.wp
 simp [execOp, hop, hm, hx, hrun, Result.andThen]
 exact hK' _ _ (hK v ps hv)
end
theorem unew_any (w : World) : Calls Tryz.prog 21 #[] w fun e w' => e = .returned (.pointer (some ⟨w.heap.size + 2, 0, none⟩)) ∧ Below w.heap.size w w' ∧ Ust w' (w.heap.size + 2) w.heap.size (w.heap.size + 1) [] [] := by
 have H0 := hid (World.ownsMap_made w Tryz.prog 3 uR)
 have H1 := hid (World.ownsMap_made (w.alloc (.map #[] 0)) Tryz.prog 3 iR)
 have hmm := @run_makeMap Tryz.prog
 go_enter Tryz.func21, Tryz.ntmps21
 go_wp2
 go_ret
 have hb : Below w.heap.size w (w.alloc (.map #[] 0)) := (Below.refl w.heap.size w).alloc (Nat.le_refl _) _
 have hb2 : Below w.heap.size w ((w.alloc (.map #[] 0)).alloc (.map #[] 0)) := hb.alloc hb.size _
 have hs1 : (w.alloc (.map #[] 0)).heap.size = w.heap.size + 1 := by simp
 have h1 := H1.out
 rw [hs1] at h1
 refine ⟨by simp, hb2.alloc hb2.size _, ⟨by omega, by omega, by omega, ?_, ⟨_, (H0.out.alloc _).alloc _, rp_empty _ _⟩, ⟨_, [], h1.alloc _, rp_empty _ _, cnt0⟩, List.Pairwise.nil, fun _ h => by cases h⟩⟩
 have := heap_alloc_new ((w.alloc (.map #[] 0)).alloc (.map #[] 0)) (.cells #[.map (some w.heap.size), .map (some (w.heap.size + 1))] 113 (0, 0))
 simpa using this
theorem sortsA_UseB (m : Nat) : AnyZI.SortsIn Tryz.prog sortedA_ren_ShlU Fence.wide m :=
 ⟨fun blk off cap ss W hH hblk hsz => callsIn_wide.2 (AnyM.slices_Sort_int sortA_ShlU blk off cap ss W hH hblk hsz),
  fun p cap W => callsIn_wide.2 (AnyM.slices_Sort_int_none sortA_ShlU p cap W)⟩
theorem uheld_map (hv : w.cell? ⟨p, 0, none⟩ = some (.map (some a))) {D0 : DataW Unit} (hown : w.ownsMap Tryz.prog 3 uR a L.length D0) (hR : Rp ud () D0 (un L)) (hr : Ris L) (hn : L.length ≤ 1000000) :
  Calls Tryz.prog 98 #[.pointer (some ⟨p, 0, none⟩)] w fun e w' => ∃ v, e = .returned v ∧ w'.ownsRow w.heap.size 3 1 v L.length (L.map encZ) ∧ Below w.heap.size w w' := by
 have hnd : (keys (un L)).Nodup := by rw [keys_un]; exact ris_nodup hr
 have c0 := hv
 have l0 := World.block_lt_of_cell? _ _ hv
 have hsz : Maps.size D0 ≤ 1000000 := by rw [psize hown Tryz.underlying3 hR hnd, un_length]; exact hn
 have HK : Hid (∀ ss : List Int, ss.Perm (intKeys D0) → ss.mergeSort leI = L) := fun ss hp => by
  rw [psorted hown Tryz.underlying3 hR hnd hp, keys_un]
  exact sorted_merge_UseA (ris_le hr)
 refine (callsIn_wide (n := 6)).1 ?_
 have hbl := hown.lt
 have hseq : SeqGives Fence.wide 2 Tryz.prog 219 #[.pointer (some ⟨w.heap.size, 0, none⟩)] encZ (fun ss => ss.Perm (intKeys D0)) (Maps.size D0) (w.alloc (.cells #[.map (some a)] 111)) :=
  AnyZI.keys_gives (ρ := keysA_ren_ShlU) { keysA_ShlU with } Fence.wide _ trivial rfl (by omega) w.heap.size a _ D0 _ (by simp) (by simp) (by
   obtain ⟨es, clock, hb, Ft, hs, hD⟩ := hown
   exact ⟨es, clock, (Below.heap_alloc _ _ a hbl).trans hb, Ft, hs, hD⟩)
 have cK : ∀ mb W, CallsIn Fence.wide 5 Tryz.prog 159 #[.map mb] W fun e w' => e = .returned (.func (.func 219) #[] #[.pointer (some ⟨W.heap.size, 0, none⟩)]) ∧ w' = W.alloc (.cells #[.map mb] 111) := fun mb W => AnyZI.keys_in keysA_ShlU Fence.wide 5 trivial rfl mb W
 have cS := AnyZI.sorted_in sortedA_ShlU Fence.wide 5 trivial trivial trivial trivial rfl (by omega) (sortsA_UseB _) (enters_of Tryz.func99 (by kernel_rfl) rfl) 219 #[.pointer (some ⟨w.heap.size, 0, none⟩)] trivial (enters_of Tryz.func219 (by kernel_rfl) rfl) _ _ (Nat.le_trans hsz (by decide)) (by omega) _ hseq
 change CallsIn _ _ Tryz.prog 158 _ _ _ at cS
 have hfK : Fence.wide.fn 159 := trivial
 have hfS : Fence.wide.fn 158 := trivial
 clear hv hown hR hseq
 refine callsIn_of_wp Tryz.func98 rfl trivial ?_ rfl
 simp only [Tryz.ntmps98, List.size_toArray, List.length_cons, List.length_nil, Nat.reduceAdd, Nat.reduceSub, Array.replicate_succ, Array.replicate_zero, List.push_toArray, List.append_toArray, List.nil_append, List.cons_append]
 gi_wp2_with (first
  | (gi_at_call 159; refine (cK _ _).mono ?_; rintro e w' ⟨rfl, rfl⟩)
  | (gi_at_call 158; refine cS.mono ?_; rintro e w' ⟨v, ss, rfl, hS, hrow, hnil, hb⟩))
 go_ret
 have hk := HK.out ss hS
 have hlen : ss.length = L.length := by rw [← hk, List.length_mergeSort]
 rw [hlen, hk] at hrow
 exact ⟨v, rfl, ownsRow_base_a hrow (by simp), ((Below.refl _ w).alloc (Nat.le_refl _) _).trans (hb.mono (by simp))⟩
end
end Go.Proofs.YtpbgbpcdohdecaaGreatDoor
