/- The contract of the reference's question of three numbers: is one none. -/
import Derived.Test.YtkaoppmighinbaaNans
namespace Go.Proofs.Ytkaoppmighinbaa
open Go.RowKit
set_option linter.unusedVariables false
set_option linter.unusedSimpArgs false

set_option maxRecDepth 100000 in
set_option maxHeartbeats 4000000 in
theorem nans3_any (f a c d : Int) (b : Nat) (w : World) (h0 : 0 ≤ a) (h1 : a ≤ 4294967295) (g0 : 0 ≤ c) (g1 : c ≤ 4294967295) (k0 : 0 ≤ d) (k1 : d ≤ 4294967295) (hc : w.cell? ⟨b, 0, none⟩ = some (.int .u32 a)) (hd : w.cell? ⟨b, 1, none⟩ = some (.int .u32 c)) (he : w.cell? ⟨b, 2, none⟩ = some (.int .u32 d)) :
    Calls Try.prog 31 #[.int .i64 f, .slice (some ⟨b, 0, none⟩) 3 3] w fun e w' => e = .returned (.tuple #[.bool (nanB f a || nanB f c || nanB f d), .bool (sigB f a || sigB f c || sigB f d)]) ∧ ∃ m, w' = w.drewN m := by
  obtain ⟨C, hC⟩ : ∃ C, clsI f a = C := ⟨_, rfl⟩
  obtain ⟨D, hD⟩ : ∃ D, clsI f c = D := ⟨_, rfl⟩
  obtain ⟨E, hE⟩ : ∃ E, clsI f d = E := ⟨_, rfl⟩
  have HC := Lib.hid hC
  have HD := Lib.hid hD
  have HE := Lib.hid hE
  have HW := cls_three f a
  have HX := cls_three f c
  have HY := cls_three f d
  rw [hC] at HW
  rw [hD] at HX
  rw [hE] at HY
  clear hC hD hE
  rcases HW with ⟨rfl, n1, n2⟩ | ⟨rfl, n1, n2⟩ | ⟨c4, c5, n1, n2⟩
  all_goals
    rcases HX with ⟨rfl, n3, n4⟩ | ⟨rfl, n3, n4⟩ | ⟨d4, d5, n3, n4⟩
    all_goals
      rcases HY with ⟨rfl, n5, n6⟩ | ⟨rfl, n5, n6⟩ | ⟨e4, e5, n5, n6⟩
      all_goals
        have N1 := Lib.hid n1
        have N2 := Lib.hid n2
        have N3 := Lib.hid n3
        have N4 := Lib.hid n4
        have N5 := Lib.hid n5
        have N6 := Lib.hid n6
        clear n1 n2 n3 n4 n5 n6
        go_enter Try.func31, Try.ntmps31
        go_wp2
        refine wp_loop_rounds 4 ?_
        repeat any_goals (rw [rounds_succ]; go_wp2_with (go_at_call 20; refine (rclass_any _ _ _ (by omega) (by omega)).mono ?_; rintro e w' ⟨he, m, rfl⟩; (first | rw [HC.out] at he | rw [HD.out] at he | rw [HE.out] at he); subst he))
        go_ret2
        refine ⟨ret_bb (by rw [N1.out, N3.out, N5.out]; rfl) (by rw [N2.out, N4.out, N6.out]; rfl), ?_⟩
        first | exact ⟨_, rfl⟩ | exact ⟨_, World.drewN_drewN _ _ _⟩
end Go.Proofs.Ytkaoppmighinbaa
