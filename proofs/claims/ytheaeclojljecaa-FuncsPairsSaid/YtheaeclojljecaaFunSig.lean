/- Tanh and Sigmoid: what is odd, and their bounds (no program here). -/
import Derived.Test.YtheaeclojljecaaFunExp
namespace Go.Proofs.Ytheaeclojljecaa
open Go.RowKit
set_option linter.unusedVariables false
set_option linter.unusedSimpArgs false

theorem mag_one (T : Nat) (hT : T = 10100) : magN 2 0 false (2 ^ T + 1) = 1065353216 := by subst hT; kernel_rfl

/-- A quotient by what isn't less is at most 1. -/
theorem div_le (a D : Int) (a0 : 0 < a) (a1 : a < 2139095040) (d1 : D < 2139095040) (h : a ≤ D) : 0 ≤ divV a D ∧ divV a D ≤ 1065353216 := by
  have fa : finI 2 a = true := fin_of_kz a (by omega) (by omega) (by unfold kz; rw [if_neg (by omega)]; omega) (by unfold kz; rw [if_neg (by omega)]; omega)
  have fD : finI 2 D = true := fin_of_kz D (by omega) (by omega) (by unfold kz; rw [if_neg (by omega)]; omega) (by unfold kz; rw [if_neg (by omega)]; omega)
  obtain ⟨a2, a3⟩ := fin_kinds a fa
  obtain ⟨d2, d3⟩ := fin_kinds D fD
  have na : nouB 2 a = false := by
    cases h' : nouB 2 a
    · rfl
    · have := (nou_a 2 a).1 h'; rw [a_two] at this; omega
  have nD : nouB 2 D = false := by
    cases h' : nouB 2 D
    · rfl
    · have := (nou_a 2 D).1 h'; rw [a_two] at this; omega
  have hs : sgP 2 a D = false := by unfold sgP; rw [fS_two a (by omega) (by omega), fS_two D (by omega) (by omega), decide_eq_false (by omega), decide_eq_false (by omega)]; rfl
  have hnum := num_mono a D (by omega) (by omega) (by omega) (by omega) fa fD h
  obtain ⟨u0, u1⟩ := unE_bd 2 a
  obtain ⟨v0, v1⟩ := unE_bd 2 D
  have hN : 0 < (unM 2 D).toNat := by have := num_pos 2 D d2 nD d3; omega
  obtain ⟨T, hT⟩ : ∃ T : Nat, T = 10100 := ⟨_, rfl⟩
  obtain ⟨V, hV⟩ : ∃ V, V = quoN (unM 2 a).toNat (unM 2 D).toNat 100 * 2 ^ (unE 2 a - unE 2 D - 100 + 10100).toNat := ⟨_, rfl⟩
  have hVle : V ≤ 2 ^ T := by
    unfold numN at hnum
    have hq : quoN (unM 2 a).toNat (unM 2 D).toNat 100 * (unM 2 D).toNat ≤ (unM 2 a).toNat * 2 ^ 100 := by unfold quoN; exact Nat.div_mul_le_self _ _
    generalize quoN (unM 2 a).toNat (unM 2 D).toNat 100 = q at hq hV
    obtain ⟨A, hA⟩ : ∃ A : Nat, A = (unE 2 a + 10100).toNat := ⟨_, rfl⟩
    obtain ⟨B, hB⟩ : ∃ B : Nat, B = (unE 2 D + 10100).toNat := ⟨_, rfl⟩
    obtain ⟨S, hS⟩ : ∃ S : Nat, S = (unE 2 a - unE 2 D - 100 + 10100).toNat := ⟨_, rfl⟩
    rw [← hA, ← hB] at hnum
    rw [← hS] at hV
    generalize (unM 2 a).toNat = M at hq hnum
    generalize (unM 2 D).toNat = N at hq hnum hN
    have hSB : S + B + 100 = A + T := by omega
    have e1 : q * N * 2 ^ (S + B) ≤ M * 2 ^ 100 * 2 ^ (S + B) := Nat.mul_le_mul_right _ hq
    have e2 : M * 2 ^ 100 * 2 ^ (S + B) = M * 2 ^ A * 2 ^ T := by
      rw [Nat.mul_assoc, ← Nat.pow_add, Nat.mul_assoc, ← Nat.pow_add, show 100 + (S + B) = A + T by omega]
    have e3 : M * 2 ^ A * 2 ^ T ≤ N * 2 ^ B * 2 ^ T := Nat.mul_le_mul_right _ hnum
    have e4 : q * N * 2 ^ (S + B) = V * (N * 2 ^ B) := by
      rw [hV, Nat.pow_add]
      generalize (2 : Nat) ^ S = x
      generalize (2 : Nat) ^ B = y
      grind
    have e5 : V * (N * 2 ^ B) ≤ 2 ^ T * (N * 2 ^ B) := by rw [← e4, Nat.mul_comm (2 ^ T)]; omega
    exact Nat.le_of_mul_le_mul_right e5 (Nat.mul_pos hN (p2 B))
  have hb := Bool.toNat_le (quoB (unM 2 a).toNat (unM 2 D).toNat 100)
  have hval : divV a D = (magN 2 0 false (V + (quoB (unM 2 a).toNat (unM 2 D).toNat 100).toNat) : Int) := by
    unfold divV divE quoE
    rw [a2, d2, na, nD, a3, d3, hs, ← hV, if_neg (by decide), if_neg (by decide), if_neg (by decide), if_neg (by decide), if_neg (by decide)]
    show zerI 2 false + _ = _
    rw [show zerI 2 false = 0 by rfl, Int.zero_add]
  have hm := mag_mono 2 0 false (show V + (quoB (unM 2 a).toNat (unM 2 D).toNat 100).toNat ≤ 2 ^ T + 1 by omega)
  rw [mag_one T hT] at hm
  rw [hval]; omega

/-- A difference of what isn't less has no sign. -/
theorem dif_pos' (V W : Nat) (h : W ≤ V) : 0 ≤ valI (finE 2 0 false V true W) ∧ valI (finE 2 0 false V true W) < 2147483648 := by
  unfold finE totE
  rw [if_neg (by simp)]
  by_cases d : amT false V true W = 0
  · rw [if_pos d]; decide
  · rw [if_neg d, show sgT false V true W = false by unfold sgT; rw [if_neg (by decide), if_neg (by omega)]]
    have hm := mag_top (upN (amT false V true W))
    have : valI (PackE 2 0 false (upN (amT false V true W))) = (magN 2 0 false (upN (amT false V true W)) : Int) := by
      show zerI 2 false + _ = _
      rw [show zerI 2 false = 0 by rfl, Int.zero_add]
    rw [this]; omega

theorem tan_consts : kz (addV 1091579060 1091579060) = 1099967668 ∧ subV 1065353216 (divV 1073741824 (addV 2139095040 1065353216)) = 1065353216 ∧ kz (addV 1065353216 1065353216) = 1073741824 ∧ kz (addV 2139095039 1065353216) = 2139095039
    ∧ divV 1065353216 (addV 1065353216 2139095040) = 0 ∧ kz (addV 1065353216 0) = 1065353216 ∧ kz (addV 1065353216 2139095039) = 2139095039 := by
  refine ⟨?_, ?_, ?_, ?_, ?_, ?_, ?_⟩ <;> kernel_rfl

theorem sV_mono (x y : Int) (x0 : 0 ≤ x) (y1 : y < 2139095040) (h : x ≤ y) : sV x ≤ sV y ∧ finI 2 x = true ∧ finI 2 y = true := by
  have fx := fin_of_kz x x0 (by omega) (by rw [kz_pos x (by omega)]; omega) (by rw [kz_pos x (by omega)]; omega)
  have fy := fin_of_kz y (by omega) (by omega) (by rw [kz_pos y (by omega)]; omega) (by rw [kz_pos y (by omega)]; omega)
  exact ⟨(kz_line x y x0 (by omega) (by omega) (by omega) fx fy).1 (by rw [kz_pos x (by omega), kz_pos y (by omega)]; exact h), fx, fy⟩

theorem tanB_bd (a : Int) (a0 : 0 < a) (a1 : a ≤ 2139095040) : 0 ≤ tanB a ∧ tanB a ≤ 1065353216 := by
  obtain ⟨t1, t2, t3, t4, t5, t6, t7⟩ := tan_consts
  have ka := kz_pos a (by omega)
  have hn : nanB 2 a = false := (nan_kz a (by omega) (by omega)).2 (by omega)
  have hl := nan_fin' 1091579060 (by omega) (by omega) a (by omega) (by omega) (by decide) hn (by decide)
  rw [show kz 1091579060 = 1091579060 by decide, ka] at hl
  unfold tanB
  rw [hl]
  by_cases c : 1091579060 < a
  · rw [decide_eq_true c, if_pos rfl]; omega
  · rw [decide_eq_false c, if_neg (by decide)]
    obtain ⟨y0, y1⟩ := add_word a a
    obtain ⟨s1, fa, fc⟩ := sV_mono a 1091579060 (by omega) (by omega) (by omega)
    obtain ⟨s0, _, _⟩ := sV_mono 0 a (by omega) (by omega) (by omega)
    rw [show sV 0 = 0 by decide] at s0
    have k1 := rk_mono (show sV a + sV a ≤ sV 1091579060 + sV 1091579060 by omega)
    have k0 := rk_mono (show 0 ≤ sV a + sV a by omega)
    rw [← add_kz _ _ fa fa, ← add_kz _ _ fc fc, t1] at k1
    rw [← add_kz _ _ fa fa, rk_zero] at k0
    obtain ⟨e0, e1, e2, e3⟩ := expI_bd (addV a a) y0 y1 ((nan_kz _ y0 y1).2 (by omega))
    have e4 := e2 k0
    generalize expI (addV a a) = E at e0 e1 e4
    clear e2 e3
    by_cases i : E = 2139095040
    · subst i; rw [t2]; omega
    · obtain ⟨b1, _, fE⟩ := sV_mono 1065353216 E (by omega) (by omega) e4
      obtain ⟨b2, _, fG⟩ := sV_mono E 2139095039 (by omega) (by omega) (by omega)
      have fo : finI 2 1065353216 = true := by decide
      obtain ⟨d0, d1⟩ := add_word E 1065353216
      have k2 := rk_mono (show sV 1065353216 + sV 1065353216 ≤ sV E + sV 1065353216 by omega)
      have k3 := rk_mono (show sV E + sV 1065353216 ≤ sV 2139095039 + sV 1065353216 by omega)
      rw [← add_kz _ _ fo fo, ← add_kz _ _ fE fo, t3] at k2
      rw [← add_kz _ _ fE fo, ← add_kz _ _ fG fo, t4] at k3
      generalize addV E 1065353216 = D at d0 d1 k2 k3
      have kD : kz D = D := by unfold kz at k2 ⊢; split at k2 <;> rename_i g <;> simp only [g, if_true, if_false] <;> omega
      obtain ⟨q0, q1⟩ := div_le 1073741824 D (by omega) (by omega) (by omega) (by omega)
      generalize divV 1073741824 D = Q at q0 q1
      obtain ⟨r1, fQ, _⟩ := sV_mono Q 1065353216 q0 (by omega) q1
      obtain ⟨r0, _, _⟩ := sV_mono 0 Q (by omega) (by omega) q0
      rw [show sV 0 = 0 by decide] at r0
      have k4 := sub_kz 1065353216 Q q0 (by omega) fo fQ
      have k5 := rk_mono (show sV 1065353216 - sV Q ≤ sV 1065353216 by omega)
      rw [← k4, rk_self _ (by omega) (by omega) fo, show kz 1065353216 = 1065353216 by decide] at k5
      obtain ⟨o1, o2⟩ := fin_kinds 1065353216 fo
      obtain ⟨g1, g2⟩ := fin_kinds Q fQ
      obtain ⟨x1, x2, x3, x4, x5⟩ := xor_parts 2 Q q0 (by omega)
      have hc : clsI 2 (xorI 2 Q) = clsI 2 Q := by unfold clsI; rw [x1, x2]
      have g3 : nanB 2 (xorI 2 Q) = false := by unfold nanB at g1 ⊢; rw [hc]; exact g1
      have g4 : infB 2 (xorI 2 Q) = false := by unfold infB at g2 ⊢; rw [hc]; exact g2
      have hv : subV 1065353216 Q = valI (finE 2 0 false (amtE (unE 2 1065353216) (unM 2 1065353216)) true (amtE (unE 2 Q) (unM 2 Q))) := by
        unfold subV subE addE
        rw [o1, g3, o2, g4, x3, fS_two Q q0 (by omega), decide_eq_false (by omega), if_neg (by decide), if_neg (by decide), if_neg (by decide), if_neg (by decide)]
        have : unE 2 (xorI 2 Q) = unE 2 Q ∧ unM 2 (xorI 2 Q) = unM 2 Q := by unfold unE unM; rw [x1, x2]; exact ⟨rfl, rfl⟩
        rw [this.1, this.2]; rfl
      have hs : ∀ z : Int, 0 ≤ z → z < 2147483648 → sV z = (amtE (unE 2 z) (unM 2 z) : Int) := fun z z0 z1 => by
        unfold sV sg; rw [fS_two z z0 (by omega), decide_eq_false (by omega)]; rfl
      rw [hs Q q0 (by omega), hs 1065353216 (by omega) (by omega)] at r1
      obtain ⟨m0, m1⟩ := dif_pos' (amtE (unE 2 1065353216) (unM 2 1065353216)) (amtE (unE 2 Q) (unM 2 Q)) (by omega)
      rw [← hv] at m0 m1
      rw [kz_pos _ m1] at k5
      exact ⟨m0, k5⟩

/-- What is odd. -/
theorem tan_odd (x : Int) (x0 : 0 ≤ x) (x1 : x ≤ 2139095040) : ∃ t, tanI x = t ∧ tanI (x + 2147483648) = t + 2147483648 ∧ 0 ≤ t ∧ t ≤ 1065353216 := by
  have kx := kz_pos x (by omega)
  have hn : nanB 2 x = false := (nan_kz x x0 (by omega)).2 (by omega)
  have ky : kz (x + 2147483648) = -x := by unfold kz; rw [if_pos (by omega)]; omega
  have hn2 : nanB 2 (x + 2147483648) = false := (nan_kz _ (by omega) (by omega)).2 (by omega)
  have e1 : absI x = x := by unfold absI; omega
  have e2 : absI (x + 2147483648) = x := by unfold absI; omega
  unfold tanI
  rw [hn, hn2, e1, e2]
  simp only [Bool.false_eq_true, if_false]
  by_cases z : x = 0
  · subst z; exact ⟨0, by rw [if_pos rfl], by rw [if_pos rfl], by omega, by omega⟩
  · obtain ⟨b0, b1⟩ := tanB_bd x (by omega) x1
    simp only [if_neg z]
    rw [if_neg (by omega), if_pos (by omega)]
    refine ⟨tanB x, rfl, ?_, b0, b1⟩
    exact (neg_is (tanB x) b0 (by omega) ((nan_kz _ b0 (by omega)).2 (by rw [kz_pos _ (by omega)]; omega))).2.2 (by omega)

theorem sig_bd1 (a : Int) (a0 : 0 ≤ a) (a1 : a ≤ 4294967295) (hn : nanB 2 a = false) : 0 ≤ sigI a ∧ sigI a ≤ 1065353216 := by
  obtain ⟨t1, t2, t3, t4, t5, t6, t7⟩ := tan_consts
  obtain ⟨n1, n2, _⟩ := neg_is a a0 a1 hn
  obtain ⟨w0, w1⟩ := neg_word a a0 a1
  obtain ⟨e0, e1, _, _⟩ := expI_bd (negV a) w0 w1 n2
  unfold sigI
  rw [hn, if_neg (by decide)]
  generalize expI (negV a) = E at e0 e1
  by_cases i : E = 2139095040
  · subst i; rw [t5]; omega
  · obtain ⟨b1, _, fE⟩ := sV_mono 0 E (by omega) (by omega) e0
    obtain ⟨b2, _, fG⟩ := sV_mono E 2139095039 (by omega) (by omega) (by omega)
    have fo : finI 2 1065353216 = true := by decide
    have fz : finI 2 0 = true := by decide
    obtain ⟨d0, d1⟩ := add_word 1065353216 E
    have k2 := rk_mono (show sV 1065353216 + sV 0 ≤ sV 1065353216 + sV E by omega)
    have k3 := rk_mono (show sV 1065353216 + sV E ≤ sV 1065353216 + sV 2139095039 by omega)
    rw [← add_kz _ _ fo fz, ← add_kz _ _ fo fE, t6] at k2
    rw [← add_kz _ _ fo fE, ← add_kz _ _ fo fG, t7] at k3
    generalize addV 1065353216 E = D at d0 d1 k2 k3
    have kD : kz D = D := by unfold kz at k2 ⊢; split at k2 <;> rename_i g <;> simp only [g, if_true, if_false] <;> omega
    exact div_le 1065353216 D (by omega) (by omega) (by omega) (by omega)

/-- All that FuncsSigns asks of a number. -/
theorem signs_all (x a : Int) (x0 : 0 ≤ x) (x1 : x ≤ 2139095040) (a0 : 0 ≤ a) (a1 : a ≤ 4294967295) (hx : a % 2147483648 = x) :
    ∃ t e g, tanI x = t ∧ tanI (x + 2147483648) = t + 2147483648 ∧ 0 ≤ t ∧ t ≤ 1065353216 ∧ expI (x + 2147483648) = e ∧ 0 ≤ e ∧ e ≤ 1065353216 ∧ sigI a = g ∧ 0 ≤ g ∧ g ≤ 1065353216 ∧ clsI 2 t ≤ 2 := by
  obtain ⟨t, h1, h2, h3, h4⟩ := tan_odd x x0 x1
  have ky : kz (x + 2147483648) = -x := by unfold kz; rw [if_pos (by omega)]; omega
  obtain ⟨e0, e1, _, e3⟩ := expI_bd (x + 2147483648) (by omega) (by omega) ((nan_kz _ (by omega) (by omega)).2 (by omega))
  obtain ⟨g0, g1⟩ := sig_bd1 a a0 a1 ((nan_kz a a0 a1).2 (by unfold kz; split <;> omega))
  refine ⟨t, _, _, h1, h2, h3, h4, rfl, e0, e3 (by omega), rfl, g0, g1, ?_⟩
  have ft := (sV_mono 0 t (by omega) (by omega) h3).2.2
  have c := cls_cases 2 t
  have := fin_lt 2 t ft
  rcases c with ⟨c, x, y⟩ | ⟨c, x, y⟩ | ⟨c, x, y⟩ | ⟨c, x, y⟩ | ⟨c, x, y⟩ | ⟨c, x, y⟩ <;> omega
end Go.Proofs.Ytheaeclojljecaa
