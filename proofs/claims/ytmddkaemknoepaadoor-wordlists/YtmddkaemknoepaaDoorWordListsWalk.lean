/- WordLists' walk: the closed law returns true; nothing that was there is turned. -/
import Derived.Test.YtmddkaemknoepaaDoorWordC
import Derived.Test.YtmddkaemknoepaaDoorWordT
import Derived.Test.YtmddkaemknoepaaDoorKindA
namespace Go.Proofs.YtmddkaemknoepaaDoor.wordLists
open Go Go.RowKit

theorem rd_alloc (w : World) (l : List UInt8) (cs : Array Value) (e : TypeId) (h : cs.toList = bc l) (n : Nat) (hn : l.length = n) (hm : n ≤ maxLen) : Rd (w.alloc (.cells cs e)) (some ⟨w.heap.size, 0, none⟩) n n l := by
  refine ⟨hn, Nat.le_refl _, hm, (fun h => by cases h), fun x hx j u hu => ?_⟩
  cases hx
  rw [Go.WideShapes.add_plain, Nat.zero_add, World.cell?_alloc_at _ _ _ _ rfl, ← hu, ← h, Array.getElem?_toList]

theorem below_drew {u v : World} {B : Nat} (h : Below B u v) {w' : World} (hq : ∃ q, w' = v.drewN q) : Below B u w' := by
  obtain ⟨q, rfl⟩ := hq
  exact ⟨h.os, h.tape, h.output, h.size, h.block⟩

theorem list_lit (u : World) (es : List Addr) (hE : E4 u es) (l : List UInt8) (cs : Array Value) (n : Nat) (hcs : cs.toList = bc l) (hn : l.length = n) (hm : n ≤ 1000) (S : List UInt8) (N E : Nat) (V : Value) (h1 : lstS l 0 = S) (h2 : lstN l 0 = N) (h3 : lstE l 0 = E) (hV : erv es E = V) :
    Calls Tryd.prog 23 #[.slice (some ⟨u.heap.size, 0, none⟩) n n, .int .i64 0] (u.alloc (.cells cs 5)) fun e w' => e = .returned (.tuple #[.string ⟨S.toArray⟩, .int .i64 N, V]) ∧ Below u.heap.size u w' := by
  subst h1 h2 h3 hV
  have hb : Below u.heap.size u (u.alloc (.cells cs 5)) := (Below.refl _ _).alloc (Nat.le_refl _) _
  refine (getList_any _ _ n n l (rd_alloc u l cs _ hcs n hn (by unfold maxLen; omega)) (by omega) es (hE.below hb) 0).mono ?_
  rintro e w' ⟨rfl, hq⟩
  exact ⟨rfl, below_drew hb hq⟩

theorem text_lit (u : World) (es : List Addr) (hE : E4 u es) (l : List UInt8) (cs : Array Value) (n : Nat) (hcs : cs.toList = bc l) (hn : l.length = n) (hm : n ≤ 1000) (S : List UInt8) (N E : Nat) (V : Value) (h1 : txtS l 0 = S) (h2 : txtN l 0 = N) (h3 : txtE l 0 = E) (hV : erv es E = V) :
    Calls Tryd.prog 21 #[.slice (some ⟨u.heap.size, 0, none⟩) n n, .int .i64 0] (u.alloc (.cells cs 5)) fun e w' => e = .returned (.tuple #[.string ⟨S.toArray⟩, .int .i64 N, V]) ∧ Below u.heap.size u w' := by
  subst h1 h2 h3 hV
  have hb : Below u.heap.size u (u.alloc (.cells cs 5)) := (Below.refl _ _).alloc (Nat.le_refl _) _
  refine (getText_any _ _ n n l (rd_alloc u l cs _ hcs n hn (by unfold maxLen; omega)) (by omega) es (hE.below hb) 0).mono ?_
  rintro e w' ⟨rfl, hq⟩
  exact ⟨rfl, below_drew hb hq⟩

theorem f1 : lstS [0, 0, 0, 0] 0 = [] ∧ lstN [0, 0, 0, 0] 0 = 4 ∧ lstE [0, 0, 0, 0] 0 = 0 := by decide
theorem f2 : lstS [2, 0, 0, 0, 0, 255, 0, 0] 0 = [0, 255] ∧ lstN [2, 0, 0, 0, 0, 255, 0, 0] 0 = 8 ∧ lstE [2, 0, 0, 0, 0, 255, 0, 0] 0 = 0 := by decide
theorem f3 : txtS [1, 0, 0, 0, 0, 0, 0, 0] 0 = [] ∧ txtN [1, 0, 0, 0, 0, 0, 0, 0] 0 = 8 ∧ txtE [1, 0, 0, 0, 0, 0, 0, 0] 0 = 0 := by decide
theorem f4 : txtS [0, 0, 0, 0] 0 = [] ∧ txtN [0, 0, 0, 0] 0 = 0 ∧ txtE [0, 0, 0, 0] 0 = 3 := by decide
theorem f5 : lstS [2, 0, 0, 0, 0, 255, 0, 1] 0 = [] ∧ lstN [2, 0, 0, 0, 0, 255, 0, 1] 0 = 0 ∧ lstE [2, 0, 0, 0, 0, 255, 0, 1] 0 = 3 := by decide
theorem f6 : lstS [1, 16, 0, 0] 0 = [] ∧ lstN [1, 16, 0, 0] 0 = 0 ∧ lstE [1, 16, 0, 0] 0 = 4 := by decide

set_option maxRecDepth 100000 in
set_option maxHeartbeats 1000000 in
theorem walk (w : World) (hL : laidMetH Tryd.prog Rows.wordListsRow.laid w) :
    Calls Tryd.prog 7 #[] w fun e w' => e = .returned (.bool true) ∧ Below w.heap.size w w' := by
  obtain ⟨es, hF0⟩ := errs16 hL
  have hE0 : E4 w es := E4.of hF0 rfl
  have HF : Hid (Errs w gerrs es) := hF0
  have HE : Hid (E4 w es) := hE0
  clear hE0 hF0 hL
  go_enter Tryd.func7, Tryd.ntmps7
  go_wp2_with fail
  refine (list_lit w es HE.out [0, 0, 0, 0] _ 4 rfl rfl (by decide) [] 4 0 .nilIface f1.1 f1.2.1 f1.2.2 rfl).mono ?_
  rintro e w1 ⟨rfl, b1⟩
  go_wp2_with fail
  refine (list_lit w1 es (HE.out.below b1) [2, 0, 0, 0, 0, 255, 0, 0] _ 8 rfl rfl (by decide) [0, 255] 8 0 .nilIface f2.1 f2.2.1 f2.2.2 rfl).mono ?_
  rintro e w2 ⟨rfl, b2⟩
  have b2 : Below w.heap.size w w2 := b1.trans (b2.mono b1.size)
  go_wp2_with fail
  refine (text_lit w2 es (HE.out.below b2) [1, 0, 0, 0, 0, 0, 0, 0] _ 8 rfl rfl (by decide) [] 8 0 .nilIface f3.1 f3.2.1 f3.2.2 rfl).mono ?_
  rintro e w3 ⟨rfl, b3⟩
  have b3 : Below w.heap.size w w3 := b2.trans (b3.mono b2.size)
  go_wp2_with fail
  refine (text_lit w3 es (HE.out.below b3) [0, 0, 0, 0] _ 4 rfl rfl (by decide) [] 0 3 (erv es 3) f4.1 f4.2.1 f4.2.2 rfl).mono ?_
  rintro e w4 ⟨rfl, b4⟩
  have b4 : Below w.heap.size w w4 := b3.trans (b4.mono b3.size)
  go_wp2_with fail
  refine (list_lit w4 es (HE.out.below b4) [2, 0, 0, 0, 0, 255, 0, 1] _ 8 rfl rfl (by decide) [] 0 3 (erv es 3) f5.1 f5.2.1 f5.2.2 rfl).mono ?_
  rintro e w5 ⟨rfl, b5⟩
  have b5 : Below w.heap.size w w5 := b4.trans (b5.mono b4.size)
  go_wp2_with fail
  refine (list_lit w5 es (HE.out.below b5) [1, 16, 0, 0] _ 4 rfl rfl (by decide) [] 0 4 (erv es 4) f6.1 f6.2.1 f6.2.2 rfl).mono ?_
  rintro e w6 ⟨rfl, b6⟩
  have b6 : Below w.heap.size w w6 := b5.trans (b6.mono b5.size)
  go_wp2_with fail
  refine (kind_erv w6 es (HF.out.below b6) 3 (by decide)).mono ?_
  rintro e w7 ⟨rfl, b7⟩
  have b7 : Below w.heap.size w w7 := b6.trans (b7.mono b6.size)
  go_wp2_with fail
  refine (kind_erv w7 es (HF.out.below b7) 3 (by decide)).mono ?_
  rintro e w8 ⟨rfl, b8⟩
  have b8 : Below w.heap.size w w8 := b7.trans (b8.mono b7.size)
  go_wp2_with fail
  refine (kind_erv w8 es (HF.out.below b8) 4 (by decide)).mono ?_
  rintro e w9 ⟨rfl, b9⟩
  have b9 : Below w.heap.size w w9 := b8.trans (b9.mono b8.size)
  go_wp2_with fail
  refine (awake_any _).mono ?_
  rintro e w10 ⟨rfl, b10⟩
  go_wp2
  go_ret
  exact ⟨rfl, b9.trans (b10.mono b9.size)⟩
end Go.Proofs.YtmddkaemknoepaaDoor.wordLists
