/- Same. Written by state/mk_staf.py. -/
import Derived.Test.YtcdflegfjannmaaStaF
namespace Go.Proofs.Ytcdflegfjannmaa
open Go Go.RowKit

theorem bel2 (w : World) (o o' : Obj) : Below w.heap.size w ((w.alloc o).alloc o') := Below.on (bel_new _ _) (bel_new _ _)
theorem smx_eq (x y : Sx) : sm x.q y.q = (x.at_ == y.at_ && (x.buf == y.buf && (x.inp == y.inp && (x.all == y.all && (x.ord == y.ord && (leqs x.dm.l y.dm.l && (leqs x.fr.l y.fr.l && (leqs x.rg.l y.rg.l && (leqs x.od.l y.od.l && leqs x.pl.l y.pl.l))))))))) := sm_eq _ _

set_option maxRecDepth 100000 in
set_option maxHeartbeats 4000000 in
theorem same_any (x y : Sx) (w : World) (okx : x.Ok w) (oky : y.Ok w) : Calls Try.prog 19 #[.agg #[.bool x.at_, .int .i64 x.buf, .slice x.dm.a x.dm.n x.dm.c, .slice x.fr.a x.fr.n x.fr.c, .bool x.inp, .bool x.all, .slice x.rg.a x.rg.n x.rg.c, .bool x.ord, .slice x.od.a x.od.n x.od.c, .slice x.pl.a x.pl.n x.pl.c], .agg #[.bool y.at_, .int .i64 y.buf, .slice y.dm.a y.dm.n y.dm.c, .slice y.fr.a y.fr.n y.fr.c, .bool y.inp, .bool y.all, .slice y.rg.a y.rg.n y.rg.c, .bool y.ord, .slice y.od.a y.od.n y.od.c, .slice y.pl.a y.pl.n y.pl.c]] w fun e w' => e = .returned (.bool (sm x.q y.q)) ∧ Below w.heap.size w w' := by
  have Ef := hid (smx_eq x y)
  have Cdm := hid (fun u (hb : RowKit.Below w.heap.size w u) => equal4_any _ _ _ _ _ _ _ _ u (okx.dm.on hb) (oky.dm.on hb))
  have Cfr := hid (fun u (hb : RowKit.Below w.heap.size w u) => equal1_any _ _ _ _ _ _ _ _ u (okx.fr.on hb) (oky.fr.on hb))
  have Crg := hid (fun u (hb : RowKit.Below w.heap.size w u) => equal4_any _ _ _ _ _ _ _ _ u (okx.rg.on hb) (oky.rg.on hb))
  have Cod := hid (fun u (hb : RowKit.Below w.heap.size w u) => equal1_any _ _ _ _ _ _ _ _ u (okx.od.on hb) (oky.od.on hb))
  have Cpl := hid (fun u (hb : RowKit.Below w.heap.size w u) => equal3_any _ _ _ _ _ _ _ _ u (okx.pl.on hb) (oky.pl.on hb))
  clear okx oky
  go_enter Try.func19, Try.ntmps19
  cases h0 : (x.at_ == y.at_)
  · go_wp2
    go_ret
    exact ⟨ret_bool (by simp only [Ef.out, h0]; rfl), bel2 _ _ _⟩
  · cases h1 : (x.buf == y.buf)
    · go_wp2
      go_ret
      exact ⟨ret_bool (by simp only [Ef.out, h0, h1]; rfl), bel2 _ _ _⟩
    · cases h4 : (x.inp == y.inp)
      · go_wp2
        go_ret
        exact ⟨ret_bool (by simp only [Ef.out, h0, h1, h4]; rfl), bel2 _ _ _⟩
      · cases h5 : (x.all == y.all)
        · go_wp2
          go_ret
          exact ⟨ret_bool (by simp only [Ef.out, h0, h1, h4, h5]; rfl), bel2 _ _ _⟩
        · cases h7 : (x.ord == y.ord)
          · go_wp2
            go_ret
            exact ⟨ret_bool (by simp only [Ef.out, h0, h1, h4, h5, h7]; rfl), bel2 _ _ _⟩
          · go_wp2_with fail
            refine (Cdm.out _ (bel2 _ _ _)).mono ?_
            rintro e w3 ⟨rfl, q0, rfl⟩
            cases h2 : leqs x.dm.l y.dm.l
            · go_wp2
              go_ret
              exact ⟨ret_bool (by simp only [Ef.out, h0, h1, h4, h5, h7, h2]; rfl), below_drewN (bel2 _ _ _) _⟩
            · go_wp2_with fail
              refine (Cfr.out _ (below_drewN (bel2 _ _ _) _)).mono ?_
              rintro e w4 ⟨rfl, q1, rfl⟩
              cases h3 : leqs x.fr.l y.fr.l
              · go_wp2
                go_ret
                exact ⟨ret_bool (by simp only [Ef.out, h0, h1, h4, h5, h7, h2, h3]; rfl), below_drewN (bel2 _ _ _) _⟩
              · go_wp2_with fail
                refine (Crg.out _ (below_drewN (bel2 _ _ _) _)).mono ?_
                rintro e w5 ⟨rfl, q2, rfl⟩
                cases h6 : leqs x.rg.l y.rg.l
                · go_wp2
                  go_ret
                  exact ⟨ret_bool (by simp only [Ef.out, h0, h1, h4, h5, h7, h2, h3, h6]; rfl), below_drewN (bel2 _ _ _) _⟩
                · go_wp2_with fail
                  refine (Cod.out _ (below_drewN (bel2 _ _ _) _)).mono ?_
                  rintro e w6 ⟨rfl, q3, rfl⟩
                  cases h8 : leqs x.od.l y.od.l
                  · go_wp2
                    go_ret
                    exact ⟨ret_bool (by simp only [Ef.out, h0, h1, h4, h5, h7, h2, h3, h6, h8]; rfl), below_drewN (bel2 _ _ _) _⟩
                  · go_wp2_with fail
                    refine (Cpl.out _ (below_drewN (bel2 _ _ _) _)).mono ?_
                    rintro e w7 ⟨rfl, q4, rfl⟩
                    cases h9 : leqs x.pl.l y.pl.l
                    · go_wp2
                      go_ret
                      exact ⟨ret_bool (by simp only [Ef.out, h0, h1, h4, h5, h7, h2, h3, h6, h8, h9]; rfl), below_drewN (bel2 _ _ _) _⟩
                    · go_wp2
                      go_ret
                      exact ⟨ret_bool (by simp only [Ef.out, h0, h1, h4, h5, h7, h2, h3, h6, h8, h9]; rfl), below_drewN (bel2 _ _ _) _⟩
end Go.Proofs.Ytcdflegfjannmaa
