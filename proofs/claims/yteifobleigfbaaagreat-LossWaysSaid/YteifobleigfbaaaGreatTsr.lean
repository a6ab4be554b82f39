/- The contracts of package tensor: which tensors may be (all, Right). The contracts of package tensor: At, Row, New, Turn. The contracts of package tensor: each number turned (each, Cast, Chance). (Written by gen47.py.) The contract of package tensor's Turn. -/
import Derived.Test.YteifobleigfbaaaGreatDict
import Derived.Test.YteifobleigfbaaaGreatRTen
import Derived.Test.YteifobleigfbaaaGreatRd
import Derived.Test.YteifobleigfbaaaGreatChecked
import Derived.Lib.Hide
import Derived.Handy
import Derived.BigRegion
import Derived.Deep.QuietTactic
import Derived.BigQuiet
import Derived.Test.YteifobleigfbaaaGreatWorld
import Derived.Deep.RegionHeld3
import Derived.StillTailTactics
import Derived.Test.YteifobleigfbaaaGreatCon
namespace Go.Proofs.YteifobleigfbaaaGreat
open Go.RowKit
set_option linter.unusedVariables false
set_option linter.unusedSimpArgs false
open Go Go.RowKit

def firstI (n:Nat) (q:Nat→Bool):Int:=match (List.range n).find? q with | some k=>(k:Int) | none=>-1

theorem firstI_hit {n k:Nat} {q:Nat→Bool} (hk:k<n) (h:q k=true) (hb:∀ j,j<k→q j=false):firstI n q=k:=by
 unfold firstI
 have:(List.range n).find? q=some k:=by
  rw [List.find?_eq_some_iff_append]
  refine ⟨h,List.range k,(List.range' (k+1) (n - k - 1)),?_,fun a ha=>by rw [hb a (List.mem_range.1 ha)];rfl⟩
  rw [List.range_eq_range',List.range_eq_range',show n=k+(1+(n - k - 1)) by omega,←List.range'_append_1,←List.range'_append_1]
  simp [List.range'_succ]
 rw [this]

theorem firstI_miss {n:Nat} {q:Nat→Bool} (h:∀ j,j<n→q j=false):firstI n q=-1:=by
 unfold firstI
 have:(List.range n).find? q=none:=by
  rw [List.find?_eq_none]
  intro a ha
  rw [h a (List.mem_range.1 ha)];decide
 rw [this]

theorem firstI_all (n:Nat) (q:Nat→Bool):decide (0≤firstI n q)=!allB n (fun i=>!q i):=by
 by_cases h:∃ k,k<n∧q k=true
 ·obtain ⟨k,hk,hq⟩:=h
  rw [allB_no hk (by rw [hq];rfl)]
  unfold firstI
  cases e:(List.range n).find? q with
  | none=>rw [List.find?_eq_none] at e;exact absurd hq (e k (List.mem_range.2 hk))
  | some j=>simp
 ·have h':∀ j,j<n→q j=false:=fun j hj=>by
   cases e:q j with
   | false=>rfl
   | true=>exact absurd ⟨j,hj,e⟩ h
  rw [firstI_miss h',allB_yes fun i hi=>by rw [h' i hi];rfl]
  decide

def SaysB (F:FuncId) (p:Value) (q:Int→Bool) (w:World):Prop:=
 ∀ (v:Int) (W:World),0≤v→v≤4294967295→Grown w W→Calls Tryz.prog F #[.int .u32 v,p] W fun e W'=>e=.returned (.bool (q v))∧Grown W W'

theorem SaysB.grown {F:FuncId} {p:Value} {q:Int→Bool} {w w1:World} (h:SaysB F p q w) (g:Grown w w1):SaysB F p q w1:=fun v W h0 h1 hg=>h v W h0 h1 (grown_trans g hg)

set_option maxHeartbeats 1000000 in
theorem sindex_some (p : Value) (q : Int → Bool) (b off n c : Nat) (g : Nat → Int) (w : World) (hn : n ≤ 9223372036854775807) (hg : ∀ i, i < n → 0 ≤ g i ∧ g i ≤ 4294967295) (hb : b < w.heap.size)
    (hc : ∀ i, i < n → w.cell? ⟨b, off + i, none⟩ = some (.int .u32 (g i))) (hS : SaysB 121 p q w) :
    Calls Tryz.prog 168 #[.slice (some ⟨b, off, none⟩) n c, .func (.func 121) #[] #[p]] w fun e w' => e = .returned (.int .i64 (firstI n (fun i => q (g i)))) ∧ Grown w w' := by
  have H1 := Lib.hid hg
  have H2 := Lib.hid hc
  have H3 := Lib.hid hS
  clear hg hc hS
  go_enter Tryz.func168, Tryz.ntmps168
  go_wp2
  go_loopw [5, 8] (fun _ i wr => ∃ k : Nat, k ≤ n ∧ i = .int .i64 k ∧ Hid (Grown w wr) ∧ Hid (∀ j, j < k → q (g j) = false)) (fun _ i _ => n - (intOf i).toNat)
  case atStart => exact ⟨0, Nat.zero_le _, rfl, Lib.hid (Grown.refl _), Lib.hid fun j hj => by omega⟩
  case round =>
    obtain ⟨k, hk, rfl, HW, HJ⟩ := hrel
    by_cases hlt : k < n
    · have y0 : wr.cell? ⟨b, off + k, none⟩ = some (.int .u32 (g k)) := grown_cell HW.out (H2.out k hlt) hb
      obtain ⟨x0, x1⟩ := H1.out k hlt
      have hcall := Lib.hid (H3.out (g k) wr x0 x1 HW.out)
      obtain ⟨x, hx⟩ : ∃ x, g k = x := ⟨_, rfl⟩
      rw [hx] at y0 x0 x1 hcall
      have HX := Lib.hid hx
      clear hx
      cases hq : q x with
      | true =>
        rw [hq] at hcall
        go_wp2_with (go_at_call 121; refine hcall.out.mono ?_; rintro e W1 ⟨rfl, hW1⟩)
        go_ret
        exact ⟨by rw [firstI_hit hlt (by rw [HX.out]; exact hq) HJ.out]; rfl, grown_trans HW.out hW1⟩
      | false =>
        rw [hq] at hcall
        go_wp2_with (go_at_call 121; refine hcall.out.mono ?_; rintro e W1 ⟨rfl, hW1⟩)
        go_roundw
        case rel => exact ⟨k + 1, by omega, by go_num, Lib.hid (grown_trans HW.out hW1), Lib.hid fun j hj => by
          by_cases e : j = k
          · subst e; rw [HX.out]; exact hq
          · exact HJ.out j (by omega)⟩
        case measure => simp [intOf]; omega
    · obtain rfl : k = n := by omega
      go_wp2
      go_ret
      exact ⟨by rw [firstI_miss HJ.out]; rfl, HW.out⟩

theorem sindex_nil (p:Value) (ad:Option Addr) (c:Nat) (w:World):
  Calls Tryz.prog 168 #[.slice ad 0 c,.func (.func 121) #[] #[p]] w fun e w'=>e=.returned (.int .i64 (-1))∧Grown w w':=by
 go_enter Tryz.func168,Tryz.ntmps168
 go_wp2
 refine wp_loop_rounds 1 ?_
 rw [rounds_succ]
 go_wp2
 go_ret
 exact ⟨rfl,Grown.refl _⟩

theorem sindex_any (p:Value) (q:Int→Bool) (ad:Option Addr) (n c:Nat) (g:Nat→Int) (w:World) (hn:n≤9223372036854775807) (hr:Reads ad n g w) (hS:SaysB 121 p q w):
  Calls Tryz.prog 168 #[.slice ad n c,.func (.func 121) #[] #[p]] w fun e w'=>e=.returned (.int .i64 (firstI n (fun i=>q (g i))))∧Grown w w':=by
 rcases hr.2 with rfl | ⟨b,off,rfl,hl,hc⟩
 ·exact sindex_nil p ad c w
 ·exact sindex_some p q b off n c g w hn hr.1 hl hc hS

theorem scontains_any (p:Value) (q:Int→Bool) (ad:Option Addr) (n c:Nat) (g:Nat→Int) (w:World) (hn:n≤9223372036854775807) (hr:Reads ad n g w) (hS:SaysB 121 p q w):
  Calls Tryz.prog 120 #[.slice ad n c,.func (.func 121) #[] #[p]] w fun e w'=>e=.returned (.bool (!allB n (fun i=>!q (g i))))∧Grown w w':=by
 have HA:=Lib.hid (firstI_all n (fun i=>q (g i)))
 obtain ⟨k,hk⟩:∃ k,firstI n (fun i=>q (g i))=k:=⟨_,rfl⟩
 have H1:=Lib.hid hr
 have H2:=Lib.hid hS
 have HK:=Lib.hid hk
 rw [hk] at HA
 clear hr hS hk
 go_enter Tryz.func120,Tryz.ntmps120
 go_wp2_with (go_at_call 168;refine (sindex_any p q ad n c g _ hn H1.out H2.out).mono ?_;rintro e W1 ⟨he,hW1⟩;rw [HK.out] at he;subst he)
 go_ret
 exact ⟨by rw [←HA.out];rfl,hW1⟩

structure BoxAt (b:Nat) (v:Value) (W:World):Prop where
 lies:b<W.heap.size
 cell:W.cell? ⟨b,0,none⟩=some v

theorem BoxAt.grown {b:Nat} {v:Value} {W W':World} (h:BoxAt b v W) (g:Grown W W'):BoxAt b v W':=⟨Nat.lt_of_lt_of_le h.lies g.2.2,grown_cell g h.cell h.lies⟩

theorem box_new (w:World) (v:Value) (t:TypeId):BoxAt w.heap.size v (w.alloc (.cells #[v] t)):=⟨by simp,by go_simp⟩

theorem tallr_each (b:Nat) (pp:Value) (q:Int→Bool) (w:World) (hb:BoxAt b (.func (.func 81) #[] #[pp]) w) (hS:SaysB 81 pp q w):
  SaysB 121 (.pointer (some ⟨b,0,none⟩)) (fun v=>!q v) w:=by
 intro v W h0 h1 hG
 have hc:=(hb.grown hG).cell
 have H:=Lib.hid (hS v W h0 h1 hG)
 obtain ⟨k,hk⟩:∃ k,q v=k:=⟨_,rfl⟩
 rw [hk] at H
 have HK:=Lib.hid hk
 clear hb hS hG hk
 go_enter Tryz.func121,Tryz.ntmps121
 go_wp2_with (go_at_call 81;refine H.out.mono ?_;rintro e W1 ⟨rfl,hW1⟩)
 go_ret
 exact ⟨by rw [HK.out];rfl,hW1⟩

theorem tallr_any (pp:Value) (q:Int→Bool) (ad:Option Addr) (n c:Nat) (g:Nat→Int) (w:World) (hn:n≤9223372036854775807) (hr:Reads ad n g w) (hS:SaysB 81 pp q w):
  Calls Tryz.prog 80 #[.slice ad n c,.func (.func 81) #[] #[pp]] w fun e w'=>e=.returned (.bool (allB n (fun i=>q (g i))))∧Grown w w':=by
 have hmf:∀ (fn:Fn) (first cap:Array Value) (w:World),(Instr.makeFunc fn first cap).run Tryz.prog w=.ok (.func fn first cap) w:=fun _ _ _ _=>rfl
 obtain ⟨A,hA⟩:∃ A,allB n (fun i=>q (g i))=A:=⟨_,rfl⟩
 rw [hA]
 have HA:=Lib.hid (show (!allB n (fun i=>!!q (g i)))=!A by rw [←hA];simp only [Bool.not_not])
 have H1:=Lib.hid hr
 have H2:=Lib.hid hS
 clear hr hS hA
 go_enter Tryz.func80,Tryz.ntmps80
 go_wp2_with fail
 have HB:=Lib.hid (box_new w (.func (.func 81) #[] #[pp]) 83)
 refine (scontains_any _ (fun v=>!q v) ad n c g _ hn (H1.out.grown gr) (tallr_each _ pp q _ HB.out (H2.out.grown gr))).mono ?_
 rintro e W1 ⟨he,hW1⟩
 rw [HA.out] at he
 subst he
 go_wp2
 go_ret
 exact ⟨by simp,grown_trans gr hW1⟩

theorem twidth_any (n:Int) (w:World):
  Calls Tryz.prog 118 #[.int .i64 n] w fun e w'=>e=.returned (.int .i64 (if n<0 then 0 else if 4096<n then 4096 else n))∧w=w':=by
 by_cases h0:n<0
 ·rw [if_pos h0]
  go_enter Tryz.func118,Tryz.ntmps118
  go_wp2
  go_ret
  exact ⟨by simp [h0,show ¬0<n by omega],rfl⟩
 ·by_cases h1:4096<n
  ·rw [if_neg h0,if_pos h1]
   go_enter Tryz.func118,Tryz.ntmps118
   go_wp2
   go_ret
   exact ⟨by simp [h1,show 0<n by omega],rfl⟩
  ·rw [if_neg h0,if_neg h1]
   go_enter Tryz.func118,Tryz.ntmps118
   go_wp2
   go_ret
   exact ⟨by simp,rfl⟩

theorem tformat_any (F:Int) (w:World):
  Calls Tryz.prog 78 #[.int .i64 F] w fun e w'=>e=.returned (.bool (knownB F))∧w=w':=by
 by_cases h0:F=0
 ·subst h0
  go_enter Tryz.func78,Tryz.ntmps78
  go_wp2
  go_ret
  exact ⟨rfl,rfl⟩
 ·by_cases h1:F=1
  ·subst h1
   go_enter Tryz.func78,Tryz.ntmps78
   go_wp2
   go_ret
   exact ⟨rfl,rfl⟩
  ·by_cases h2:F=2
   ·subst h2
    go_enter Tryz.func78,Tryz.ntmps78
    go_wp2
    go_ret
    exact ⟨rfl,rfl⟩
   ·have hk:knownB F=false:=by unfold knownB;simp [h0,h1,h2]
    rw [hk]
    have e0:(F==0)=false:=by simp [h0]
    have e1:(F==1)=false:=by simp [h1]
    have e2:(F==2)=false:=by simp [h2]
    clear hk
    go_enter Tryz.func78,Tryz.ntmps78
    go_wp2
    go_ret
    exact ⟨rfl,rfl⟩

theorem tiswidth_any (n:Int) (w:World):
  Calls Tryz.prog 77 #[.int .i64 n] w fun e w'=>e=.returned (.bool (decide (0≤n∧n≤4096)))∧w=w':=by
 obtain ⟨k,hk⟩:∃ k,(if n<0 then 0 else if 4096<n then 4096 else n)=k:=⟨_,rfl⟩
 have HK:=Lib.hid hk
 have hd:(n==k)=decide (0≤n∧n≤4096):=by
  rw [Bool.eq_iff_iff,beq_iff_eq,decide_eq_true_eq,←hk]
  split
  ·omega
  ·split <;> omega
 obtain ⟨B,hB⟩:∃ B,decide (0≤n∧n≤4096)=B:=⟨_,rfl⟩
 rw [hB] at hd ⊢
 clear hk hB
 go_enter Tryz.func77,Tryz.ntmps77
 go_wp2_with (go_at_call 118;refine (twidth_any _ _).mono ?_;rintro e w' ⟨he,rfl⟩;rw [HK.out] at he;subst he)
 go_ret
 exact ⟨rfl,rfl⟩

theorem tright_each (F:Int) (b:Nat) (w:World) (hb:BoxAt b (.int .u32 (msk F)) w):SaysB 81 (.pointer (some ⟨b,0,none⟩)) (fun v=>decide (v≤msk F)) w:=by
 intro v W h0 h1 hG
 have hc:=(hb.grown hG).cell
 have ha:=and_not_msk F v h0 h1
 obtain ⟨B,hB⟩:∃ B,decide (v≤msk F)=B:=⟨_,rfl⟩
 rw [hB] at ha
 have HB:=Lib.hid hB
 obtain ⟨M,hM⟩:∃ M,msk F=M:=⟨_,rfl⟩
 rw [hM] at ha hc
 clear hB hM hb hG
 go_enter Tryz.func81,Tryz.ntmps81
 go_wp2
 go_ret
 exact ⟨by rw [HB.out];rfl,Grown.refl _⟩

theorem tright_shape (R C F:Int) (ad:Option Addr) (n c:Nat) (w:World) (hn:n≤9223372036854775807)
  (h:(decide (0≤R∧R≤4096∧0≤C∧C≤4096)&&knownB F&&((n:Int)==R*C))=false):
  Calls Tryz.prog 42 #[.agg #[.int .i64 R,.int .i64 C,.int .i64 F,.slice ad n c]] w fun e w'=>e=.returned (.bool false)∧Grown w w':=by
 obtain ⟨A,hA⟩:∃ A,decide (0≤R∧R≤4096)=A:=⟨_,rfl⟩
 obtain ⟨B,hB⟩:∃ B,decide (0≤C∧C≤4096)=B:=⟨_,rfl⟩
 obtain ⟨K,hK⟩:∃ K,knownB F=K:=⟨_,rfl⟩
 have HA:=Lib.hid (show Ending.returned (.bool (decide (0≤R∧R≤4096)))=.returned (.bool A) by rw [hA])
 have HB:=Lib.hid (show Ending.returned (.bool (decide (0≤C∧C≤4096)))=.returned (.bool B) by rw [hB])
 have HK:=Lib.hid (show Ending.returned (.bool (knownB F))=.returned (.bool K) by rw [hK])
 have hp:A=true→B=true→IntKind.i64.wrap (R*C)=R*C:=fun a b=>by
  rw [a,decide_eq_true_eq] at hA
  rw [b,decide_eq_true_eq] at hB
  have hp:=ten_mul R C 4096 4096 hA.1 hA.2 hB.1 hB.2
  rw [IntKind.wrap_i64];omega
 have hs:(A&&B&&K&&((n:Int)==R*C))=false:=by
  rw [←hA,←hB,←hK]
  rw [show decide (0≤R∧R≤4096∧0≤C∧C≤4096)=(decide (0≤R∧R≤4096)&&decide (0≤C∧C≤4096)) by rw [Bool.eq_iff_iff];simp only [Bool.and_eq_true,decide_eq_true_eq];omega] at h
  exact h
 obtain ⟨P,hP⟩:∃ P,R*C=P:=⟨_,rfl⟩
 clear hA hB hK h
 cases A
 ·clear hp hs hP
  go_enter Tryz.func42,Tryz.ntmps42
  go_wp2_with (go_at_call 77;refine (tiswidth_any _ _).mono ?_;rintro e w' ⟨he,rfl⟩;rw [HA.out] at he;subst he)
  go_ret
  exact ⟨rfl,gr⟩
 ·cases B
  ·clear hp hs hP
   go_enter Tryz.func42,Tryz.ntmps42
   go_wp2_with (first | (go_at_call 77;refine (tiswidth_any _ _).mono ?_;rintro e w' ⟨he,rfl⟩;(first | rw [HA.out] at he | rw [HB.out] at he);subst he))
   go_ret
   exact ⟨rfl,gr⟩
  ·have hw:IntKind.i64.wrap (R*C)=P:=by rw [hp rfl rfl,hP]
   rw [hP] at hs
   clear hp hP
   cases K
   ·exact dx_30
   ·have hne:((n:Int)==P)=false:=by simpa using hs
    have hne2:((n:Int) != P)=true:=by rw [bne,hne];rfl
    exact dx_30

theorem tright_all (R C F:Int) (ad:Option Addr) (n c:Nat) (g:Nat→Int) (w:World) (hn:n≤9223372036854775807) (hr:Reads ad n g w)
  (h:(decide (0≤R∧R≤4096∧0≤C∧C≤4096)&&knownB F&&((n:Int)==R*C))=true):
  Calls Tryz.prog 42 #[.agg #[.int .i64 R,.int .i64 C,.int .i64 F,.slice ad n c]] w fun e w'=>e=.returned (.bool (allB n (fun i=>decide (g i≤msk F))))∧Grown w w':=by
 obtain ⟨⟨h1,h2,h3,h4⟩,h5,h6⟩:=shape_yes h
 have hmf:∀ (fn:Fn) (first cap:Array Value) (w:World),(Instr.makeFunc fn first cap).run Tryz.prog w=.ok (.func fn first cap) w:=fun _ _ _ _=>rfl
 have hp:=ten_mul R C 4096 4096 h1 h2 h3 h4
 have HA:=Lib.hid (show Ending.returned (.bool (decide (0≤R∧R≤4096)))=.returned (.bool true) by rw [decide_eq_true ⟨h1,h2⟩])
 have HB:=Lib.hid (show Ending.returned (.bool (decide (0≤C∧C≤4096)))=.returned (.bool true) by rw [decide_eq_true ⟨h3,h4⟩])
 have HK:=Lib.hid (show Ending.returned (.bool (knownB F))=.returned (.bool true) by rw [h5])
 obtain ⟨P,hP⟩:∃ P,R*C=P:=⟨_,rfl⟩
 have hw:IntKind.i64.wrap (R*C)=P:=by rw [hP] at hp ⊢;rw [IntKind.wrap_i64];omega
 rw [hP] at h6 hp
 have hnn:((n:Int)==P)=true:=beq_iff_eq.2 h6
 have hne2:((n:Int) != P)=false:=by rw [bne,hnn];rfl
 have H1:=Lib.hid hr
 obtain ⟨A,hA⟩:∃ A,allB n (fun i=>decide (g i≤msk F))=A:=⟨_,rfl⟩
 rw [hA]
 have HAA:=Lib.hid (show Ending.returned (.bool (allB n (fun i=>decide (g i≤msk F))))=.returned (.bool A) by rw [hA])
 have HE:=Lib.hid (tright_each F)
 obtain ⟨M,hM⟩:∃ M,msk F=M:=⟨_,rfl⟩
 have HMk:=Lib.hid (show ∀ w,Calls Tryz.prog 79 #[.int .i64 F] w fun e w'=>e=.returned (.int .u32 M)∧w=w' from fun w=>by rw [←hM];exact mask_any F w)
 have HM:=Lib.hid hM
 clear h h1 h2 h3 h4 h5 h6 hP hr hA hM hp
 go_enter Tryz.func42,Tryz.ntmps42
 go_wp2_with (first
  | (go_at_call 77;refine (tiswidth_any _ _).mono ?_;rintro e w' ⟨he,rfl⟩;(first | rw [HA.out] at he | rw [HB.out] at he);subst he)
  | (go_at_call 78;refine (tformat_any _ _).mono ?_;rintro e w' ⟨he,rfl⟩;rw [HK.out] at he;subst he)
  | (go_at_call 79;refine (HMk.out _).mono ?_;rintro e w' ⟨rfl,rfl⟩))
 have HBx:=Lib.hid (box_new (w.alloc (.cells #[.int .i64 R,.int .i64 C,.int .i64 F,.slice ad n c] 24)) (.int .u32 M) 29)
 simp only [World.size_alloc] at HBx
 refine (tallr_any _ _ ad n c g _ hn (H1.out.grown gr) (HE.out _ _ (by rw [HM.out];exact HBx.out))).mono ?_
 rintro e W1 ⟨he,hW1⟩
 rw [HAA.out] at he
 subst he
 go_wp2
 go_ret
 exact ⟨rfl,grown_trans gr hW1⟩

theorem tright_any (R C F:Int) (ad:Option Addr) (n c:Nat) (g:Nat→Int) (w:World) (hn:n≤9223372036854775807) (hr:Reads ad n g w):
  Calls Tryz.prog 42 #[.agg #[.int .i64 R,.int .i64 C,.int .i64 F,.slice ad n c]] w fun e w'=>e=.returned (.bool (rightB R C F n g))∧Grown w w':=by
 by_cases h:(decide (0≤R∧R≤4096∧0≤C∧C≤4096)&&knownB F&&((n:Int)==R*C))=true
 ·have e:rightB R C F n g=allB n (fun i=>decide (g i≤msk F)):=by unfold rightB;rw [h];rfl
  rw [e]
  exact tright_all R C F ad n c g w hn hr h
 ·have h':=Bool.eq_false_iff.2 h
  have e:rightB R C F n g=false:=by unfold rightB;rw [h'];rfl
  rw [e]
  exact tright_shape R C F ad n c w hn h'

def TenO (t:PT) (E:Int) (w:World) (e:Ending) (w':World):Prop:=
 ∃ (ad:Option Addr) (c:Nat),e=.returned (.tuple #[.agg #[.int .i64 t.R,.int .i64 t.C,.int .i64 t.F,.slice ad t.n c],.int .i64 E])∧OwnS ad t.n c t.g w w'∧(∀ i,i<t.n→0≤t.g i∧t.g i≤4294967295)∧t.n≤16777216∧Grown w w'

theorem TenO.ten {t:PT} {E:Int} {w:World} {e:Ending} {w':World} (h:TenO t E w e w'):TenE t E w e w':=by
 obtain ⟨ad,c,h1,h2,h3,h4,h5⟩:=h
 exact ⟨ad,c,h1,h2.reads h3,by omega,h2.fresh,h5⟩

structure EaS (w:World) (B n:Nat) (t0 t1 t2 t3:Value) (h:Nat→Int) (W:World):Prop where
 g:Grown w W
 t1:TenAt w.heap.size t0 t1 t2 t3 W
 t2:TenAt (w.heap.size+1) (.int .i64 0) (.int .i64 0) (.int .i64 0) (.slice none 0 0) W
 r:Rowed B n h W
 o:w.heap.size+1<B

theorem EaS.grown {w:World} {B n:Nat} {t0 t1 t2 t3:Value} {h:Nat→Int} {W W':World} (s:EaS w B n t0 t1 t2 t3 h W) (g:Grown W W'):EaS w B n t0 t1 t2 t3 h W':=
 ⟨grown_trans s.g g,s.t1.grown g,s.t2.grown g,s.r.grown g,s.o⟩

theorem EaS.set {w:World} {B n:Nat} {t0 t1 t2 t3:Value} {h h':Nat→Int} {W:World} (s:EaS w B n t0 t1 t2 t3 h W) {j:Nat} {v:Int} (e1:h' j=v) (e2:∀ t,t≠j→h' t=h t):EaS w B n t0 t1 t2 t3 h' (W.setCell ⟨B,j,none⟩ (.int .u32 v)):=
 ⟨Grown.setCell s.g (by have:=s.o;show w.heap.size≤B;omega) _,s.t1.set (by have:=s.o;show w.heap.size≠B;omega) _,s.t2.set (by have:=s.o;show w.heap.size+1≠B;omega) _,s.r.set e1 e2,s.o⟩

structure TuS (w:World) (t0 t1 t2 t3:Value) (G:Nat→Int) (k:Nat) (v:Value) (W:World):Prop where
 g:Grown w W
 t1:TenAt w.heap.size t0 t1 t2 t3 W
 t2:TenAt (w.heap.size+1) (.int .i64 0) (.int .i64 0) (.int .i64 0) (.slice none 0 0) W
 own:W.ownsRow (w.heap.size+2) 29 1 v k (wordsL k G)

theorem TuS.grown {w:World} {t0 t1 t2 t3:Value} {G:Nat→Int} {k:Nat} {v:Value} {W W':World} (s:TuS w t0 t1 t2 t3 G k v W) (g:Grown W W'):TuS w t0 t1 t2 t3 G k v W':=
 ⟨grown_trans s.g g,s.t1.grown g,s.t2.grown g,owns_grown s.own g⟩

theorem TuS.next {w:World} {t0 t1 t2 t3:Value} {G:Nat→Int} {k:Nat} {v:Value} {W7 W8:World} {X:Int} {gg cc:Nat} (h:TuS w t0 t1 t2 t3 G k v W7) (hX:G k=X)
  (own:W8.ownsRow (w.heap.size+2) 29 1 (.slice (some ⟨gg,0,none⟩) (k+1) cc) (k+1) (wordsL k G++[.int .u32 X])) (hs:W7.heap.size≤W8.heap.size)
  (hcell:∀ a:Addr,a.block<W7.heap.size→some a.block≠v.ownBlock→W8.cell? a=W7.cell? a) (hfr:∀ a,W8.frozen? a=W7.frozen? a) (hgr:∀ w0,Grown w0 W7→w0.heap.size≤w.heap.size+2→Grown w0 W8):
  TuS w t0 t1 t2 t3 G (k+1) (.slice (some ⟨gg,0,none⟩) (k+1) cc) W8:=by
 have ne:∀ b,b<w.heap.size+2→some b≠v.ownBlock:=fun b hb e=>by have:=(h.own.lt b e.symm).1;omega
 refine ⟨hgr w h.g (by omega),h.t1.far hs (fun off=>hcell _ h.t1.lies (ne _ (by show w.heap.size<w.heap.size+2;omega))) hfr,h.t2.far hs (fun off=>hcell _ h.t2.lies (ne _ (by show w.heap.size+1<w.heap.size+2;omega))) hfr,?_⟩
 rw [wordsL_next,hX]
 exact own

structure WiS (w:World) (B n:Nat) (t0 t1 t2 t3:Value) (h:Nat→Int) (W:World):Prop where
 g:Grown w W
 t1:TenAt w.heap.size t0 t1 t2 t3 W
 r:Rowed B n h W
 o:w.heap.size<B

theorem WiS.grown {w:World} {B n:Nat} {t0 t1 t2 t3:Value} {h:Nat→Int} {W W':World} (s:WiS w B n t0 t1 t2 t3 h W) (g:Grown W W'):WiS w B n t0 t1 t2 t3 h W':=
 ⟨grown_trans s.g g,s.t1.grown g,s.r.grown g,s.o⟩

theorem WiS.set {w:World} {B n:Nat} {t0 t1 t2 t3:Value} {h h':Nat→Int} {W:World} (s:WiS w B n t0 t1 t2 t3 h W) {j:Nat} {v:Int} (e1:h' j=v) (e2:∀ t,t≠j→h' t=h t):WiS w B n t0 t1 t2 t3 h' (W.setCell ⟨B,j,none⟩ (.int .u32 v)):=
 ⟨Grown.setCell s.g (by have:=s.o;show w.heap.size≤B;omega) _,s.t1.set (by have:=s.o;show w.heap.size≠B;omega) _,s.r.set e1 e2,s.o⟩

def Lay (ad:Option Addr) (n c:Nat):Prop:=(n=0→ad=none∧c=0)∧(0<n→n≤c∧∃ b,ad=some ⟨b,0,none⟩)

theorem wpList_append_none {P:Program} {ops:Array Oper} {rest:List Oper} {o:Oper} {a:Act} {w:World} {Q:Exit→Act→World→Prop} (hgd:o.guard=none) (s x:Operand) (t:TypeId)
  (ho:o.op=.call { callee:=.builtin .append,args:=#[s,x],argTypes:=#[t,t] })
  (e:TypeId) (i:TypeInfo) (ht:P.underlying t=some (.slice e)) (hi:P.info? e=some i) (hsize:i.size=1)
  (hs:a.eval s=.slice none 0 0) (ad:Option Addr) (c:Nat) (hx:a.eval x=.slice ad 0 c)
  (h:wpList P ops Q rest (a.put o.dst (.slice none 0 0)) w):wpList P ops Q (o::rest) a w:=by
 refine wpList_plain hgd fun _ hK=>?_
 have hr:=run_append_nothing (P:=P) w t o.type e i ht hi hsize ad c
 unfold Oper.wp execOp
 simp only [ho,resolve,invoke,builtin,Sem.run_bind,Sem.run_pure,Result.andThen_ok,List.map_toArray,List.map_cons,List.map_nil,hs,hx,hr]
 exact hK _ _ h
end Go.Proofs.YteifobleigfbaaaGreat
