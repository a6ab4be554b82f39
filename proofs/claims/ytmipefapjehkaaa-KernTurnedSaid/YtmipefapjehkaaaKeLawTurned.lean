/- The walk of KernTurned. (Written by gen52.py.) -/
import Derived.Test.YtmipefapjehkaaaFrame
import Derived.Test.YtmipefapjehkaaaSeatT
import Derived.Test.YtmipefapjehkaaaKern
import Derived.Test.YtmipefapjehkaaaKeTurn
namespace Go.Proofs.Ytmipefapjehkaaa
open Go Go.RowKit
set_option linter.unusedVariables false
set_option linter.unusedSimpArgs false

set_option maxRecDepth 100000 in
set_option maxHeartbeats 8000000 in
theorem kturned_go (w : World) (m k n f g : Int) (ld rd : Option Addr) (ln lc rn rc : Nat) (lg rg : Nat → Int) (hl : ln ≤ 30) (hr : rn ≤ 30) (Rl : Reads ld ln lg w) (Rr : Reads rd rn rg w)
    (m0 : 0 ≤ m) (m1 : m ≤ 255) (k0 : 0 ≤ k) (k1 : k ≤ 255) (n0 : 0 ≤ n) (n1 : n ≤ 255) (f0 : 0 ≤ f) (f1 : f ≤ 255) (g0 : 0 ≤ g) (g1 : g ≤ 255) :
    Calls Try.prog 5 #[.int .u8 m, .int .u8 k, .int .u8 n, .int .u8 f, .int .u8 g, .slice ld ln lc, .slice rd rn rc] w fun e w' => e = .returned (.bool true) ∧ Grown w w' := by
  have t1 : ¬ (30 : Int) < (ln : Int) := by omega
  have t2 : ¬ (30 : Int) < (rn : Int) := by omega
  have HK := Lib.hid ((((Lot.nil w).add (f := .gr w) (Grown.refl w)).add (f := .rd ld ln lg) Rl).add (f := .rd rd rn rg) Rr)
  obtain ⟨x, hx⟩ : ∃ x : Nat, m % 5 = (x : Int) := ⟨(m % 5).toNat, by omega⟩
  obtain ⟨y, hy⟩ : ∃ y : Nat, k % 5 = (y : Int) := ⟨(k % 5).toNat, by omega⟩
  obtain ⟨z, hz⟩ : ∃ z : Nat, n % 5 = (z : Int) := ⟨(n % 5).toNat, by omega⟩
  have kF := Lib.hid (known_rem (f := f % 3) (by omega) (by omega))
  have kG := Lib.hid (known_rem (f := g % 3) (by omega) (by omega))
  obtain ⟨F, hF⟩ : ∃ F, f % 3 = F := ⟨_, rfl⟩
  obtain ⟨G, hG⟩ : ∃ G, g % 3 = G := ⟨_, rfl⟩
  rw [hF] at kF
  rw [hG] at kG
  have lx : x ≤ 4 := by omega
  have ly : y ≤ 4 := by omega
  have lz : z ≤ 4 := by omega
  obtain ⟨M1, hM1⟩ : ∃ M1, x * y = M1 := ⟨_, rfl⟩
  obtain ⟨M2, hM2⟩ : ∃ M2, y * z = M2 := ⟨_, rfl⟩
  have X1 : Hid ((x : Int) * (y : Int) = (M1 : Int)) := Lib.hid (by rw [← hM1, Int.natCast_mul])
  have X2 : Hid ((y : Int) * (z : Int) = (M2 : Int)) := Lib.hid (by rw [← hM2, Int.natCast_mul])
  have B1 : Hid (M1 ≤ 16 ∧ M2 ≤ 16) := Lib.hid ⟨by have := Nat.mul_le_mul lx ly; omega, by have := Nat.mul_le_mul ly lz; omega⟩
  have HM1 := Lib.hid hM1.symm
  have HM2 := Lib.hid hM2.symm
  clear hM1 hM2 Rl Rr
  go_enter Try.func5, Try.ntmps5
  go_wp2_with fail
  refine (known14_any _).mono ?_
  rintro e W1 ⟨rfl, hW1⟩
  replace HK := Lib.hid (HK.out.grown hW1)
  clear hW1
  go_wp2_with fail
  refine (seatt_any x y F M1 ld ln lc lg true _ (by omega) (HK.out.rd 1 rfl) (by omega) (by omega) (by omega) (by omega) X1.out).mono ?_
  rintro e Wa ⟨da, ca, ga, rfl, hR, hf, hW, hm, hs⟩
  have Sa := Lib.hid hs
  have Va : Hid (∀ i, i < M1 → ga i ≤ msk F) := Lib.hid fun i hi => by
    obtain ⟨q, q0, _, hq⟩ := hm rfl i hi
    rw [hq]; exact mil_le F q q0
  replace HK := Lib.hid ((HK.out.grown hW).add (f := .rd da M1 ga) hR)
  clear hR hf hW hm hs
  go_wp2_with fail
  replace HK := Lib.hid ((HK.out.grown (Grown.alloc (Grown.refl Wa) #[.int .i64 x, .int .i64 y, .int .i64 F, .slice da M1 ca] 24)).add (f := .ten Wa.heap.size (.int .i64 x) (.int .i64 y) (.int .i64 F) (.slice da M1 ca)) (ten_new Wa _ _ _ _ _))
  generalize Wa.alloc _ = Ua at HK ⊢
  generalize Wa.heap.size = oa at HK ⊢
  refine (seatt_any y z G M2 rd rn rc rg true _ (by omega) (HK.out.rd 2 rfl) (by omega) (by omega) (by omega) (by omega) X2.out).mono ?_
  rintro e Wb ⟨db, cb, gb, rfl, hR, hf, hW, hm, hs⟩
  have Sb := Lib.hid hs
  have Vb : Hid (∀ i, i < M2 → gb i ≤ msk G) := Lib.hid fun i hi => by
    obtain ⟨q, q0, _, hq⟩ := hm rfl i hi
    rw [hq]; exact mil_le G q q0
  replace HK := Lib.hid ((HK.out.grown hW).add (f := .rd db M2 gb) hR)
  clear hR hf hW hm hs
  obtain ⟨p0, p1, p2, p3, p4, _, _, _, _⟩ := (HK.out.ten 1 rfl)
  go_wp2_with fail
  clear p0 p1 p2 p3 p4
  replace HK := Lib.hid ((HK.out.grown (Grown.alloc (Grown.refl Wb) #[.int .i64 y, .int .i64 z, .int .i64 G, .slice db M2 cb] 24)).add (f := .ten Wb.heap.size (.int .i64 y) (.int .i64 z) (.int .i64 G) (.slice db M2 cb)) (ten_new Wb _ _ _ _ _))
  generalize Wb.alloc _ = Ub at HK ⊢
  generalize Wb.heap.size = ob at HK ⊢
  obtain ⟨N, G1, G2, G3, ⟨hT1, hX1⟩, ⟨hT2, hX2⟩, ⟨hT3, hX3⟩, hE2, hE3, hTB, hTA⟩ := prod_three x y z F G M1 M2 ga gb (by omega) (by omega) (by omega) kF.out kG.out HM1.out HM2.out Va.out Vb.out
  rw [hTB] at hT2 hX2
  rw [hTA] at hT3 hX3
  have hYA : rturX ⟨x, y, F, M1, ga⟩ = 0 := by unfold rturX PT.right; rw [if_pos (ten_right (by omega) (by omega) kF.out HM1.out Va.out)]
  have hYB : rturX ⟨y, z, G, M2, gb⟩ = 0 := by unfold rturX PT.right; rw [if_pos (ten_right (by omega) (by omega) kG.out HM2.out Vb.out)]
  have HT1 := Lib.hid hT1
  have HX1 := Lib.hid hX1
  have HT2 := Lib.hid hT2
  have HX2 := Lib.hid hX2
  have HT3 := Lib.hid hT3
  have HX3 := Lib.hid hX3
  have HE2 := Lib.hid hE2
  have HE3 := Lib.hid hE3
  have HTB := Lib.hid hTB
  have HTA := Lib.hid hTA
  have HYA := Lib.hid hYA
  have HYB := Lib.hid hYB
  clear hT1 hX1 hT2 hX2 hT3 hX3 hE2 hE3 hTB hTA hYA hYB
  refine (rturn_any x y F da M1 ca ga _ (by have := B1.out; omega) (HK.out.rd 3 rfl)).mono ?_
  rw [HTA.out, HYA.out]
  rintro e Wc ⟨dc, cc, rfl, hR, hn, hf, hW, hs⟩
  dsimp only at hR hn hs ⊢
  have Sc := Lib.hid hs
  have Nc := Lib.hid hn
  replace HK := Lib.hid ((HK.out.grown hW).add (f := .rd dc M1 (fun t => ga (turP x y t))) hR)
  clear hR hn hf hW hs
  obtain ⟨p0, p1, p2, p3, p4, _, _, _, _⟩ := (HK.out.ten 1 rfl)
  go_wp2_with fail
  clear p0 p1 p2 p3 p4
  replace HK := Lib.hid ((HK.out.grown (Grown.alloc (Grown.refl Wc) #[.int .i64 y, .int .i64 x, .int .i64 F, .slice dc M1 cc] 24)).add (f := .ten Wc.heap.size (.int .i64 y) (.int .i64 x) (.int .i64 F) (.slice dc M1 cc)) (ten_new Wc _ _ _ _ _))
  generalize Wc.alloc _ = Uc at HK ⊢
  generalize Wc.heap.size = oc at HK ⊢
  refine (rturn_any y z G db M2 cb gb _ (by have := B1.out; omega) (HK.out.rd 3 rfl)).mono ?_
  rw [HTB.out, HYB.out]
  rintro e Wd ⟨dd, cd, rfl, hR, hn, hf, hW, hs⟩
  dsimp only at hR hn hs ⊢
  have Sd := Lib.hid hs
  have Nd := Lib.hid hn
  replace HK := Lib.hid ((HK.out.grown hW).add (f := .rd dd M2 (fun t => gb (turP y z t))) hR)
  clear hR hn hf hW hs
  obtain ⟨p0, p1, p2, p3, p4, _, _, _, _⟩ := (HK.out.ten 5 rfl)
  obtain ⟨q0, q1, q2, q3, q4, _, _, _, _⟩ := (HK.out.ten 3 rfl)
  go_wp2_with fail
  clear p0 p1 p2 p3 p4 q0 q1 q2 q3 q4
  replace HK := Lib.hid ((HK.out.grown (Grown.alloc (Grown.refl Wd) #[.int .i64 z, .int .i64 y, .int .i64 G, .slice dd M2 cd] 24)).add (f := .ten Wd.heap.size (.int .i64 z) (.int .i64 y) (.int .i64 G) (.slice dd M2 cd)) (ten_new Wd _ _ _ _ _))
  generalize Wd.alloc _ = Ud at HK ⊢
  generalize Wd.heap.size = od at HK ⊢
  refine (kplain_any x y F y z G da db M1 M2 ca cb ga gb _ (by have := B1.out; omega) (by have := B1.out; omega) (HK.out.rd 7 rfl) (HK.out.rd 5 rfl)).mono ?_
  rw [HT1.out, HX1.out]
  rintro e Wp ⟨dp, cp, rfl, hR, hn, hf, hW⟩
  dsimp only at hR hn ⊢
  have NN := Lib.hid hn
  replace HK := Lib.hid ((HK.out.grown hW).add (f := .rd dp N G1) hR)
  clear hR hn hf hW
  obtain ⟨p0, p1, p2, p3, p4, _, _, _, _⟩ := (HK.out.ten 7 rfl)
  obtain ⟨q0, q1, q2, q3, q4, _, _, _, _⟩ := (HK.out.ten 1 rfl)
  go_wp2_with fail
  clear p0 p1 p2 p3 p4 q0 q1 q2 q3 q4
  replace HK := Lib.hid ((HK.out.grown (Grown.alloc (Grown.refl Wp) #[.int .i64 x, .int .i64 z, .int .i64 2, .slice dp N cp] 24)).add (f := .ten Wp.heap.size (.int .i64 x) (.int .i64 z) (.int .i64 2) (.slice dp N cp)) (ten_new Wp _ _ _ _ _))
  generalize Wp.alloc _ = Up at HK ⊢
  generalize Wp.heap.size = op at HK ⊢
  refine (krows_any x y F z y G da dd M1 M2 ca cd ga (fun t => gb (turP y z t)) _ (by have := B1.out; omega) (by have := B1.out; omega) (HK.out.rd 9 rfl) (HK.out.rd 3 rfl)).mono ?_
  rw [HT2.out, HX2.out]
  rintro e Wq ⟨dq, cq, rfl, hR, hn, hf, hW⟩
  dsimp only at hR hn ⊢
  replace HK := Lib.hid ((HK.out.grown hW).add (f := .rd dq N G1) (hR.congr HE2.out))
  clear hR hn hf hW
  obtain ⟨p0, p1, p2, p3, p4, _, _, _, _⟩ := (HK.out.ten 5 rfl)
  obtain ⟨q0, q1, q2, q3, q4, _, _, _, _⟩ := (HK.out.ten 7 rfl)
  go_wp2_with fail
  clear p0 p1 p2 p3 p4 q0 q1 q2 q3 q4
  replace HK := Lib.hid ((HK.out.grown (Grown.alloc (Grown.refl Wq) #[.int .i64 x, .int .i64 z, .int .i64 2, .slice dq N cq] 24)).add (f := .ten Wq.heap.size (.int .i64 x) (.int .i64 z) (.int .i64 2) (.slice dq N cq)) (ten_new Wq _ _ _ _ _))
  generalize Wq.alloc _ = Uq at HK ⊢
  generalize Wq.heap.size = oq at HK ⊢
  refine (kcols_any y x F y z G dc db M1 M2 cc cb (fun t => ga (turP x y t)) gb _ (by have := B1.out; omega) (by have := B1.out; omega) (HK.out.rd 7 rfl) (HK.out.rd 9 rfl)).mono ?_
  rw [HT3.out, HX3.out]
  rintro e Ws ⟨ds, cs, rfl, hR, hn, hf, hW⟩
  dsimp only at hR hn ⊢
  replace HK := Lib.hid ((HK.out.grown hW).add (f := .rd ds N G1) (hR.congr HE3.out))
  clear hR hn hf hW
  obtain ⟨p0, p1, p2, p3, p4, _, _, _, _⟩ := (HK.out.ten 3 rfl)
  obtain ⟨q0, q1, q2, q3, q4, _, _, _, _⟩ := (HK.out.ten 1 rfl)
  go_wp2_with fail
  clear p0 p1 p2 p3 p4 q0 q1 q2 q3 q4
  replace HK := Lib.hid ((HK.out.grown (Grown.alloc (Grown.refl Ws) #[.int .i64 x, .int .i64 z, .int .i64 2, .slice ds N cs] 24)).add (f := .ten Ws.heap.size (.int .i64 x) (.int .i64 z) (.int .i64 2) (.slice ds N cs)) (ten_new Ws _ _ _ _ _))
  generalize Ws.alloc _ = Us at HK ⊢
  generalize Ws.heap.size = os at HK ⊢
  refine (htensor_any x z 2 dp dq N cp cq G1 _ NN.out (HK.out.rd 5 rfl) (HK.out.rd 3 rfl)).mono ?_
  rintro e Y1 ⟨rfl, hY⟩
  replace HK := Lib.hid (HK.out.grown hY)
  clear hY
  obtain ⟨p0, p1, p2, p3, p4, _, _, _, _⟩ := (HK.out.ten 4 rfl)
  obtain ⟨q0, q1, q2, q3, q4, _, _, _, _⟩ := (HK.out.ten 0 rfl)
  go_wp2_with fail
  clear p0 p1 p2 p3 p4 q0 q1 q2 q3 q4
  refine (htensor_any x z 2 dp ds N cp cs G1 _ NN.out (HK.out.rd 5 rfl) (HK.out.rd 1 rfl)).mono ?_
  rintro e Y2 ⟨rfl, hY⟩
  replace HK := Lib.hid (HK.out.grown hY)
  clear hY
  have HG := Lib.hid (HK.out.gr 16 rfl)
  go_wp2
  go_ret
  exact ⟨rfl, HG.out⟩

theorem kturned_end (w : World) (m k n f g : Int) (ld rd : Option Addr) (ln lc rn rc : Nat) (h : (30 : Int) < (ln : Int) ∨ (¬ (30 : Int) < (ln : Int) ∧ (30 : Int) < (rn : Int))) :
    Calls Try.prog 5 #[.int .u8 m, .int .u8 k, .int .u8 n, .int .u8 f, .int .u8 g, .slice ld ln lc, .slice rd rn rc] w fun e w' => e = .returned (.bool true) ∧ Grown w w' := by
  rcases h with h | ⟨h, h2⟩
  all_goals
    go_enter Try.func5, Try.ntmps5
    go_wp2_with fail
    refine (known14_any _).mono ?_
    rintro e W1 ⟨rfl, hW1⟩
    have HG := Lib.hid hW1
    clear hW1
    go_wp2
    go_ret
    exact ⟨rfl, HG.out⟩

theorem kturned_walk (W : World) (m : Int) (wm : (Lit.int .u8 m).wf = true) (k : Int) (wk : (Lit.int .u8 k).wf = true) (n : Int) (wn : (Lit.int .u8 n).wf = true) (f : Int) (wf : (Lit.int .u8 f).wf = true) (g : Int) (wg : (Lit.int .u8 g).wf = true) (l : Value) (Ll : ListIn l W) (r : Value) (Lr : ListIn r W) :
    Calls Try.prog 5 #[.int .u8 m, .int .u8 k, .int .u8 n, .int .u8 f, .int .u8 g, l, r] W fun e w' => e = .returned (.bool true) ∧ Grown W w' := by
  obtain ⟨ld, ln, lc, lg, rfl, _, _, _, l4⟩ := Ll
  obtain ⟨rd, rn, rc, rg, rfl, _, _, _, r4⟩ := Lr
  obtain ⟨m0, m1⟩ := bounds_u8 wm
  obtain ⟨k0, k1⟩ := bounds_u8 wk
  obtain ⟨n0, n1⟩ := bounds_u8 wn
  obtain ⟨f0, f1⟩ := bounds_u8 wf
  obtain ⟨g0, g1⟩ := bounds_u8 wg
  by_cases h1 : ln ≤ 30
  · by_cases h2 : rn ≤ 30
    · exact kturned_go W m k n f g ld rd ln lc rn rc lg rg h1 h2 l4 r4 m0 m1 k0 k1 n0 n1 f0 f1 g0 g1
    · exact kturned_end W m k n f g ld rd ln lc rn rc (.inr ⟨by omega, by omega⟩)
  · exact kturned_end W m k n f g ld rd ln lc rn rc (.inl (by omega))
end Go.Proofs.Ytmipefapjehkaaa
