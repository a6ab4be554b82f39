/- LossWays' numbers: rows of one number. No program. (Written by gen71.py.) -/
import Derived.Test.YteifobleigfbaaaGreatLosM
import Derived.KernelRfl
namespace Go.Proofs.YteifobleigfbaaaGreat
open Go.RowKit
set_option linter.unusedVariables false
set_option linter.unusedSimpArgs false

theorem sub_none (a:Int) (h0:0≤a) (h1:a≤4294967295) (hf:finI 2 a=true):subV a a=0:=by
 obtain ⟨x1,x2,x3,x4,x5⟩:=xor_parts 2 a h0 h1
 have hc:clsI 2 (xorI 2 a)=clsI 2 a:=by unfold clsI;rw [x1,x2]
 have hn:nanB 2 (xorI 2 a)=nanB 2 a:=by unfold nanB;rw [hc]
 have hi:infB 2 (xorI 2 a)=infB 2 a:=by unfold infB;rw [hc]
 have hE:unE 2 (xorI 2 a)=unE 2 a:=by unfold unE;rw [x1]
 have hM:unM 2 (xorI 2 a)=unM 2 a:=by unfold unM;rw [x1,x2]
 obtain ⟨n0,i0⟩:=fin_kinds a hf
 unfold subV subE addE
 rw [hn,hi,x3,hE,hM,n0,i0,if_neg (by decide),if_neg (by simp),if_neg (by decide),if_neg (by decide)]
 rw [fin_even 2 0 (fS 2 a) (!fS 2 a) _ (by cases fS 2 a <;> decide)]
 rfl

theorem max_none (m:Int) (h0:0≤m) (h1:m≤4294967295) (hn:nanB 2 m=false):maxO 2 m m=m:=by
 unfold maxO pickI
 rw [hn,if_neg (by decide),decide_eq_true (Int.le_refl _),if_neg (by decide)]
 exact low_is 2 m h0 (by rw [show msk 2=4294967295 by decide];exact h1)

theorem maxW_one (u : Nat → Int) (m : Int) (h0 : 0 ≤ m) (h1 : m ≤ 4294967295) (hn : nanB 2 m = false) (k : Nat) (hu : ∀ j, j ≤ k → u j = m) : maxW u k = m := by
  induction k with
  | zero => exact hu 0 (Nat.le_refl _)
  | succ k ih =>
    show maxO 2 (maxW u k) (u (k + 1)) = m
    rw [ih fun j hj => hu j (by omega), hu (k + 1) (Nat.le_refl _)]
    exact max_none m h0 h1 hn

theorem exp_one:expI 0=1065353216:=by kernel_rfl

def cntW (k:Nat):Int:=[0,1065353216,1073741824,1077936128,1082130432].getD k 0

theorem cnt_up (k:Nat) (h:k<4):addV (cntW k) 1065353216=cntW (k+1):=by
 rcases (show k=0∨k=1∨k=2∨k=3 by omega) with rfl | rfl | rfl | rfl <;> kernel_rfl

theorem cnt_frm (k:Nat) (h0:1≤k) (h:k≤4):frmV k=cntW k:=by
 rcases (show k=1∨k=2∨k=3∨k=4 by omega) with rfl | rfl | rfl | rfl <;> kernel_rfl

def shrW (k:Nat):Int:=[0,1065353216,1056964608,1051372203,1048576000].getD k 0

theorem shr_is (k:Nat) (h0:1≤k) (h:k≤4):divV 1065353216 (cntW k)=shrW k:=by
 rcases (show k=1∨k=2∨k=3∨k=4 by omega) with rfl | rfl | rfl | rfl <;> kernel_rfl

theorem shr_no (k:Nat) (h0:1≤k) (h:k≤4):subV (shrW k) 0=shrW k∧divV (shrW k) 1065353216=shrW k:=by
 rcases (show k=1∨k=2∨k=3∨k=4 by omega) with rfl | rfl | rfl | rfl <;> exact ⟨by kernel_rfl,by kernel_rfl⟩

def losW (k:Nat):Int:=[0,0,3204448256,3207244458,3208642560].getD k 0

theorem shr_hit (k:Nat) (h0:1≤k) (h:k≤4):subV (shrW k) 1065353216=losW k∧divV (losW k) 1065353216=losW k∧(2≤k→2147483648≤losW k∧losW k≤4294967295):=by
 rcases (show k=1∨k=2∨k=3∨k=4 by omega) with rfl | rfl | rfl | rfl <;> exact ⟨by kernel_rfl,by kernel_rfl,by decide⟩

def lgW (k:Nat):Int:=[0,0,1060205080,1066180436,1068593688].getD k 0

theorem lg_is (k:Nat) (h0:1≤k) (h:k≤4):logI (cntW k)=lgW k:=by
 rcases (show k=1∨k=2∨k=3∨k=4 by omega) with rfl | rfl | rfl | rfl <;> kernel_rfl

theorem lg_all (k:Nat) (h0:1≤k) (h:k≤4):subV (lgW k) 0=lgW k∧addV 0 (lgW k)=lgW k∧divV (lgW k) 1065353216=lgW k∧finI 2 (lgW k)=true∧0≤lgW k∧lgW k≤4294967295:=by
 rcases (show k=1∨k=2∨k=3∨k=4 by omega) with rfl | rfl | rfl | rfl <;> exact ⟨by kernel_rfl,by kernel_rfl,by kernel_rfl,by decide,by decide,by decide⟩

theorem ways_all (k : Nat) (h0 : 1 ≤ k) (h : k ≤ 4) (m : Int) (m0 : 0 ≤ m) (m1 : m ≤ 4294967295) (hm : finI 2 m = true) (y : Nat) (hy : y < k) (g : Nat → Int) (hg : ∀ i, i < k → g i = m) :
    labX ⟨1, k, 2, k, g⟩ 1 (fun _ => y) = 0 ∧ sofV ⟨1, k, 2, k, g⟩ 1 (fun _ => y) = lgW k ∧ (∀ i, i < k → (sofT ⟨1, k, 2, k, g⟩ 1 (fun _ => y)).g i = if i = y then losW k else shrW k) ∧ rgtN ⟨1, k, 2, k, g⟩ 1 (fun _ => y) = if y = 0 then 1 else 0 := by
  obtain ⟨hn, -⟩ := fin_kinds m hm
  have hr : rightB 1 k 2 k g = true := by
    refine ten_right (x := 1) (by decide) (by omega) (by decide) (by omega) fun i hi => ?_
    rw [hg i hi, show msk 2 = 4294967295 by decide]; exact m1
  have hlab : labX ⟨1, k, 2, k, g⟩ 1 (fun _ => y) = 0 := by
    have hb : labB ⟨1, k, 2, k, g⟩ 1 = true := by
      unfold labB
      rw [show PT.right ⟨1, k, 2, k, g⟩ = true from hr]
      have : ((k : Int) == 0) = false := by simp; omega
      dsimp only
      rw [this]
      rfl
    unfold labX
    rw [hb, if_pos rfl, if_pos]
    refine allB_yes fun i hi => decide_eq_true ?_
    show 0 ≤ (y : Int) ∧ (y : Int) < (k : Int)
    omega
  have hu : ∀ j, j < k → rowU ⟨1, k, 2, k, g⟩ 0 j = m := fun j hj => by
    show conV 2 2 0 (g (0 * k + j)) = m
    rw [Nat.zero_mul, Nat.zero_add, hg j hj]
    exact (con_exact 2 2 0 m m hm m0 (by rw [show msk 2 = 4294967295 by decide]; exact m1) hm rfl rfl).1
  generalize hU : rowU ⟨1, k, 2, k, g⟩ 0 = u at hu
  have hM : maxW u (k - 1) = m := maxW_one u m m0 m1 hn (k - 1) fun j hj => hu j (by omega)
  have hE : ∀ j, j < k → sfE u m j = 1065353216 := fun j hj => by
    unfold sfE
    rw [hu j hj, sub_none m m0 m1 hm]; exact exp_one
  have hS : ∀ j, j ≤ k → sumW (sfE u m) j = cntW j := fun j => by
    induction j with
    | zero => intro _; rfl
    | succ j ih =>
      intro hj
      show addV (sumW (sfE u m) j) (sfE u m j) = _
      rw [ih (by omega), hE j (by omega)]
      exact cnt_up j (by omega)
  have f1 : frmV 1 = 1065353216 := cnt_frm 1 (by decide) (by decide)
  obtain ⟨l1, l2, l3, -, -, -⟩ := lg_all k h0 h
  have hRM : rowM u k = m := hM
  have hRS : rowS u k = cntW k := by unfold rowS; rw [hRM]; exact hS k (Nat.le_refl _)
  refine ⟨hlab, ?_, fun i hi => ?_, ?_⟩
  · have e : sofV ⟨1, k, 2, k, g⟩ 1 (fun _ => y) = divV (addV 0 (rowL (rowU ⟨1, k, 2, k, g⟩ 0) k y)) (frmV 1) := by
      unfold sofV
      rw [if_pos hlab, if_neg (show ¬ (1 : Int) = 0 by decide)]
      rfl
    rw [e, hU, f1]
    unfold rowL
    rw [hRS, hRM, Int.toNat_natCast, hu y hy, sub_none m m0 m1 hm, lg_is k h0 h, l1, l2, l3]
  · have e : (sofT ⟨1, k, 2, k, g⟩ 1 (fun _ => y)).g i = sfO ⟨1, k, 2, k, g⟩ (fun _ => y) ((0 * k + i) / (k : Int).toNat) ((0 * k + i) % (k : Int).toNat) := by
      unfold sofT
      rw [if_pos hlab, Nat.zero_mul, Nat.zero_add]
    rw [e, sfO_row 1 k 2 k g (fun _ => y) k 0 i rfl hi, hU, f1]
    unfold rowO
    rw [hRS, hRM, hE i hi, shr_is k h0 h]
    obtain ⟨s1, s2⟩ := shr_no k h0 h
    obtain ⟨t1, t2, -⟩ := shr_hit k h0 h
    by_cases c : i = y
    · rw [if_pos c, if_pos (show (i : Int) = (y : Int) by omega), t1, t2]
    · rw [if_neg c, if_neg (show ¬ (i : Int) = (y : Int) by omega), s1, s2]
  · have e : rgtN ⟨1, k, 2, k, g⟩ 1 (fun _ => y) = 0 + (if firB (rowU ⟨1, k, 2, k, g⟩ 0) k y then 1 else 0) := by
      unfold rgtN
      rw [if_pos hlab]
      rfl
    rw [e, hU]
    have hl : lesB 2 m m = false := by
      rw [les_cmp]
      have : cmpC 2 m m = 0 := by have := cmp_flip m m; omega
      rw [this]; rfl
    have hf : ∀ j, j < k → firS u y j = !decide (j < y) := fun j hj => by
      unfold firS
      rw [Int.toNat_natCast, hu j hj, hu y hy, hl]
      simp
    by_cases c : y = 0
    · rw [if_pos c, show firB u k y = true from allB_yes fun j hj => by rw [hf j hj, c]; simp]
      rfl
    · rw [if_neg c, show firB u k y = false from allB_no (i := 0) (by omega) (by rw [hf 0 (by omega)]; simp; omega)]
      rfl
end Go.Proofs.YteifobleigfbaaaGreat
