/- The contract of annealref13's Softmax. (Written by gen67.py.) -/
import Derived.Test.YteifobleigfbaaaGreatRLos
import Derived.Deep.RegionHeld3
import Derived.KernelRfl
import Derived.BigQuiet
namespace Go.Proofs.YteifobleigfbaaaGreat
open Go Go.RowKit
set_option linter.unusedVariables false
set_option linter.unusedSimpArgs false

set_option maxRecDepth 100000 in
set_option maxHeartbeats 1000000 in
theorem rsoft_bad (R C F:Int) (ad yd:Option Addr) (n c yn yc:Nat) (g y:Nat→Int) (w:World) (hn:n≤9223372036854775807) (hyn:yn≤9223372036854775807) (hr:Reads ad n g w) (hy:ReadsI yd yn y w) (h:¬labX ⟨R,C,F,n,g⟩ yn y=0):
  Calls Tryz.prog 12 #[.agg #[.int .i64 R,.int .i64 C,.int .i64 F,.slice ad n c],.slice yd yn yc] w (LosE 0 PT.bad (labX ⟨R,C,F,n,g⟩ yn y) w):=by
 obtain ⟨X,hX⟩:∃ X,labX ⟨R,C,F,n,g⟩ yn y=X:=⟨_,rfl⟩
 rw [hX] at h ⊢
 have HX:=Lib.hid (show Ending.returned (.int .i64 (labX ⟨R,C,F,n,g⟩ yn y))=.returned (.int .i64 X) by rw [hX])
 have h1:(X==0)=false:=by simp [h]
 have h2:(X != 0)=true:=by simp [h]
 have H1:=Lib.hid hr
 have H2:=Lib.hid hy
 have HT:=Lib.hid ((ten_new w (.int .i64 R) (.int .i64 C) (.int .i64 F) (.slice ad n c) 24).grown (Grown.alloc (Grown.refl _) #[.int .i64 0,.int .i64 0,.int .i64 0,.slice none 0 0] 24))
 have HT2:=Lib.hid (ten_new2 w #[.int .i64 R,.int .i64 C,.int .i64 F,.slice ad n c] 24 (.int .i64 0) (.int .i64 0) (.int .i64 0) (.slice none 0 0) 24)
 have HG:=Lib.hid (show Grown w ((w.alloc (.cells #[.int .i64 R,.int .i64 C,.int .i64 F,.slice ad n c] 24)).alloc (.cells #[.int .i64 0,.int .i64 0,.int .i64 0,.slice none 0 0] 24)) from gr)
 clear h hX hr hy
 go_enter Tryz.func12,Tryz.ntmps12
 go_wp2_with fail
 generalize (w.alloc _).alloc _=W0 at HT HT2 HG ⊢
 refine (rlab_any _ _ _ _ _ _ _ _ _ g y _ hn hyn (H1.out.grown HG.out) (H2.out.grown HG.out)).mono ?_
 rintro e W1 ⟨he,hW1⟩
 rw [HX.out] at he
 subst he
 replace HT2:=Lib.hid (HT2.out.grown hW1)
 replace HG:=Lib.hid (grown_trans HG.out hW1)
 clear hW1
 obtain ⟨r0,r1,r2,r3,r4,r5,r6,r7,r8⟩:=HT2.out
 go_wp2
 (try simp only [Exit.inBlock,Exit.then])
 refine bodyPost_ret (v:=.tuple #[.int .u32 0,.agg #[.int .i64 0,.int .i64 0,.int .i64 0,.slice none 0 0],.int .i64 X]) ?_ rfl ⟨none,0,rfl,Reads.nil _ _ _,Nat.zero_le _,fresh_none _,gr⟩
 rw [results_three rfl]
 go_simp

theorem P1.apart {w:World} {B nb ob M:Nat} {a0 a1 a2 a3 m n fv:Value} {G:Nat→Int} {k:Nat} {W:World} (h:P1 w B nb ob M a0 a1 a2 a3 m n fv G k W) {a:Addr} (h1:nb≠a.block) (h2:ob≠a.block) (h3:nb<a.block∨ob<a.block) (v:Value):P1 w B nb ob M a0 a1 a2 a3 m n fv G k (W.setCell a v):=
 ⟨Grown.setCell h.g (by have:=h.o;have:=h.o2;have:=h.s;show w.heap.size≤a.block;omega) _,h.t1.set (by have:=h.o;have:=h.o2;show B≠a.block;omega) _,h.t3.set (by have:=h.o;have:=h.o2;show B+1≠a.block;omega) _,h.t4.set h2 _,h.f.other h1 _,h.o,h.o2,h.ne,h.s⟩

structure PE (w:World) (B nb ob M:Nat) (a0 a1 a2 a3 m n fv:Value) (G:Nat→Int) (k:Nat) (eb C:Nat) (E:Nat→Int) (J:Nat) (W:World):Prop where
 p:P1 w B nb ob M a0 a1 a2 a3 m n fv G k W
 e:Filled eb C E J W
 l1:nb<eb
 l2:ob<eb

theorem PE.grown {w:World} {B nb ob M:Nat} {a0 a1 a2 a3 m n fv:Value} {G:Nat→Int} {k:Nat} {eb C:Nat} {E:Nat→Int} {J:Nat} {W W':World} (h:PE w B nb ob M a0 a1 a2 a3 m n fv G k eb C E J W) (g:Grown W W'):PE w B nb ob M a0 a1 a2 a3 m n fv G k eb C E J W':=⟨h.p.grown g,h.e.grown g,h.l1,h.l2⟩

theorem PE.setE {w:World} {B nb ob M:Nat} {a0 a1 a2 a3 m n fv:Value} {G:Nat→Int} {k:Nat} {eb C:Nat} {E:Nat→Int} {J:Nat} {W:World} (h:PE w B nb ob M a0 a1 a2 a3 m n fv G k eb C E J W) (hJ:J<C):PE w B nb ob M a0 a1 a2 a3 m n fv G k eb C E (J+1) (W.setCell ⟨eb,J,none⟩ (.int .u32 (E J))):=
 ⟨h.p.apart (by have:=h.l1;show nb≠eb;omega) (by have:=h.l2;show ob≠eb;omega) (.inl h.l1) _,h.e.set hJ,h.l1,h.l2⟩

theorem PE.setG {w:World} {B nb ob M:Nat} {a0 a1 a2 a3 m n fv:Value} {G:Nat→Int} {k:Nat} {eb C:Nat} {E:Nat→Int} {J:Nat} {W:World} (h:PE w B nb ob M a0 a1 a2 a3 m n fv G k eb C E J W) (hk:k<M):PE w B nb ob M a0 a1 a2 a3 m n fv G (k+1) eb C E J (W.setCell ⟨nb,k,none⟩ (.int .u32 (G k))):=
 ⟨h.p.set hk,h.e.other (by have:=h.l1;show eb≠nb;omega) _,h.l1,h.l2⟩

set_option maxRecDepth 100000 in
set_option maxHeartbeats 2000000 in
theorem rsoft_some (F : Int) (R C : Nat) (ad : Option Addr) (n c yc by' yo : Nat) (g ys : Nat → Int) (w : World) (hR : R ≤ 4096) (hR0 : 0 < R) (hC : C ≤ 4096) (hC0 : 0 < C) (hn : n = R * C) (hr : Reads ad n g w) (hX : labX ⟨R, C, F, n, g⟩ R ys = 0)
    (hlab : ∀ i, i < R → 0 ≤ ys i ∧ ys i < C) (hbl : by' < w.heap.size) (hy : ∀ i, i < R → w.cell? ⟨by', yo + i, none⟩ = some (.int .i64 (ys i))) :
    Calls Tryz.prog 12 #[.agg #[.int .i64 R, .int .i64 C, .int .i64 F, .slice ad n c], .slice (some ⟨by', yo, none⟩) R yc] w (LosE (divV (sfT ⟨R, C, F, n, g⟩ ys R) (frmV R)) ⟨R, C, 2, n, fun i => sfO ⟨R, C, F, n, g⟩ ys (i / C) (i % C)⟩ 0 w) := by
  have hm : n ≤ 16777216 := by rw [hn]; exact (wrap_mul R C _ hR hC rfl).2
  have hn0 : 0 < n := by rw [hn]; exact Nat.mul_pos hR0 hC0
  have HN := Lib.hid hn
  clear hn
  have HX := Lib.hid (show Ending.returned (.int .i64 (labX ⟨R, C, F, n, g⟩ R ys)) = .returned (.int .i64 0) by rw [hX])
  obtain ⟨G, hG⟩ : ∃ G : Nat → Int, G = fun i => sfO ⟨R, C, F, n, g⟩ ys (i / C) (i % C) := ⟨_, rfl⟩
  rw [← hG]
  have HGr := Lib.hid (show ∀ r j, j < C → G (r * C + j) = rowO (rowU ⟨R, C, F, n, g⟩ r) C (ys r) (frmV R) j from fun r j hj => by rw [hG]; exact sfO_row R C F n g ys C r j rfl hj)
  have HGb := Lib.hid (show ∀ t, 0 ≤ G t ∧ G t ≤ 4294967295 from fun t => by rw [hG]; exact div_word _ _)
  have HTn := Lib.hid (show ∀ r, sfT ⟨R, C, F, n, g⟩ ys (r + 1) = addV (sfT ⟨R, C, F, n, g⟩ ys r) (rowL (rowU ⟨R, C, F, n, g⟩ r) C (ys r)) from fun r => rfl)
  have HT0 := Lib.hid (show sfT ⟨R, C, F, n, g⟩ ys 0 = 0 from rfl)
  have HTb := Lib.hid (show ∀ r, 0 ≤ sfT ⟨R, C, F, n, g⟩ ys r ∧ sfT ⟨R, C, F, n, g⟩ ys r ≤ 4294967295 from fun r => by
    cases r with
    | zero => exact ⟨Int.le_refl _, by show (0 : Int) ≤ 4294967295; decide⟩
    | succ r => exact addV_bd _ _)
  have HUr := Lib.hid (show ∀ r j, rowU ⟨R, C, F, n, g⟩ r j = widV F g (r * C + j) from fun r j => rfl)
  obtain ⟨m, hm2⟩ : ∃ m, frmV R = m := ⟨_, rfl⟩
  rw [hm2] at HGr ⊢
  have HM := Lib.hid hm2
  generalize sfT ⟨R, C, F, n, g⟩ ys = ST at *
  generalize rowU ⟨R, C, F, n, g⟩ = U at *
  have H1 := Lib.hid hr
  have H2 := Lib.hid (show ReadsI (some ⟨by', yo, none⟩) R ys w from ⟨fun i hi => by have := hlab i hi; omega, .inr ⟨by', yo, rfl, hbl, hy⟩⟩)
  have HY := Lib.hid hy
  have HL := Lib.hid hlab
  have HT := Lib.hid ((ten_new w (.int .i64 R) (.int .i64 C) (.int .i64 F) (.slice ad n c) 24).grown (Grown.alloc (Grown.refl _) #[.int .i64 0, .int .i64 0, .int .i64 0, .slice none 0 0] 24))
  have HT2 := Lib.hid (ten_new2 w #[.int .i64 R, .int .i64 C, .int .i64 F, .slice ad n c] 24 (.int .i64 0) (.int .i64 0) (.int .i64 0) (.slice none 0 0) 24)
  have HG := Lib.hid (show Grown w ((w.alloc (.cells #[.int .i64 R, .int .i64 C, .int .i64 F, .slice ad n c] 24)).alloc (.cells #[.int .i64 0, .int .i64 0, .int .i64 0, .slice none 0 0] 24)) from gr)
  have hn := (show n ≤ 9223372036854775807 by omega)
  clear hX hr hy hlab hG hm2
  go_enter Tryz.func12, Tryz.ntmps12
  go_wp2_with fail
  generalize (w.alloc _).alloc _ = W0 at HT HT2 HG ⊢
  refine (rlab_any _ _ _ _ _ _ _ _ _ g ys _ (by omega) (by omega) (H1.out.grown HG.out) (H2.out.grown HG.out)).mono ?_
  rintro e W2 ⟨he, hW1⟩
  rw [HX.out] at he
  subst he
  have HT1 := Lib.hid (HT.out.grown hW1)
  have HT3 := Lib.hid (HT2.out.grown hW1)
  replace HG := Lib.hid (grown_trans HG.out hW1)
  clear hW1 HT HT2
  obtain ⟨p0, p1, p2, p3, p4, -, -, -, -⟩ := HT1.out
  obtain ⟨r0, r1, r2, r3, r4, r5, r6, r7, r8⟩ := HT3.out
  have hmk := run_make_row' (P := Tryz.prog) 22 29 (.int .u32 0) 4 Tryz.underlying22 (by kernel_rfl) rfl .i64 .i64 n (by omega) (by omega)
  have HA := Lib.hid (show P1 w w.heap.size W2.heap.size (W2.heap.size + 1) n (.int .i64 R) (.int .i64 C) (.int .i64 F) (.slice ad n c) (.int .i64 R) (.int .i64 C) (.int .i64 2) G 0 (((W2.alloc (.cells (madeCells #[.int .u32 0] n) 29)).alloc (.cells #[.int .i64 R, .int .i64 C, .int .i64 2, .slice (some ⟨W2.heap.size, 0, none⟩) n n] 24)).drew) from
    ⟨gr, HT1.out.grown gr, HT3.out.grown gr, by simpa only [World.size_alloc] using (ten_new (W2.alloc (.cells (madeCells #[.int .u32 0] n) 29)) (.int .i64 R) (.int .i64 C) (.int .i64 2) (.slice (some ⟨W2.heap.size, 0, none⟩) n n) 24).grown (Grown.drew (Grown.refl _)), (Filled.new W2 n G 29).grown (Grown.drew (Grown.alloc (Grown.refl _) _ _)), r0, Nat.lt_succ_of_lt r0, by omega, Nat.le_refl _⟩)
  have HB := Lib.hid (show P1 w w.heap.size (W2.heap.size + 1) W2.heap.size n (.int .i64 R) (.int .i64 C) (.int .i64 F) (.slice ad n c) (.int .i64 R) (.int .i64 C) (.int .i64 2) G 0 (((W2.alloc (.cells #[.int .i64 R, .int .i64 C, .int .i64 2, .slice (some ⟨W2.heap.size + 1, 0, none⟩) n n] 24)).alloc (.cells (madeCells #[.int .u32 0] n) 29)).drew) from
    ⟨gr, HT1.out.grown gr, HT3.out.grown gr, (ten_new W2 (.int .i64 R) (.int .i64 C) (.int .i64 2) (.slice (some ⟨W2.heap.size + 1, 0, none⟩) n n) 24).grown (Grown.drew (Grown.alloc (Grown.refl _) _ _)), by have := (Filled.new (W2.alloc (.cells #[.int .i64 R, .int .i64 C, .int .i64 2, .slice (some ⟨W2.heap.size + 1, 0, none⟩) n n] 24)) n G 29).grown (Grown.drew (Grown.refl _)); simp only [World.size_alloc] at this; exact this, Nat.lt_succ_of_lt r0, r0, by omega, Nat.le_refl _⟩)
  go_wp2_with fail
  apply by_key
  · intro key
    go_region
    all_goals
      generalize hW3 : ((W2.alloc _).alloc _).drew = W3
      first
        | (have HP := hW3 ▸ HA.out
           generalize W2.heap.size + 1 = ob at HP ⊢
           generalize W2.heap.size = nb at HP ⊢)
        | (have HP := hW3 ▸ HB.out
           generalize W2.heap.size + 1 = nb at HP ⊢
           generalize W2.heap.size = ob at HP ⊢)
      replace HP := Lib.hid HP
      clear hW3
      revert HP
      revert W3
      revert nb
      revert ob
      exact key
  · intro ob nb W3 HP
    clear hmk p0 p1 p2 p3 p4 r0 r1 r2 r3 r4 r5 r6 r7 r8 HA HB HT1 HT3 HG
    obtain ⟨p0, p1, p2, p3, p4, -, -, -, -⟩ := HP.out.t1
    go_wp2_with fail
    refine (nint_any R _ (by omega) (by omega)).mono ?_
    rintro e W4 ⟨rfl, m0, m1, hW⟩
    rw [HM.out] at m0 m1 ⊢
    replace HP := Lib.hid (HP.out.grown hW)
    clear hW p0 p1 p2 p3 p4
    go_wp2_with fail
    go_loopw [10, 11, 12, 13, 14, 15, 16, 17, 18, 19] (fun s i _ _ _ _ _ _ _ _ wr => ∃ I : Nat, I ≤ R ∧ i = .int .i64 I ∧ s = .int .u32 (ST I) ∧ Hid (P1 w w.heap.size nb ob n (.int .i64 R) (.int .i64 C) (.int .i64 F) (.slice ad n c) (.int .i64 R) (.int .i64 C) (.int .i64 2) G (I * C) wr)) (fun _ i _ _ _ _ _ _ _ _ _ => R - (intOf i).toNat)
    case atStart => exact ⟨0, Nat.zero_le _, rfl, by rw [HT0.out], by rw [Nat.zero_mul]; exact HP⟩
    case round =>
      rename World => wr
      clear HP
      obtain ⟨I, hI, rfl, rfl, HP⟩ := hrel
      obtain ⟨s0, s1⟩ := HTb.out I
      obtain ⟨p0, p1, p2, p3, p4, -, -, -, -⟩ := HP.out.t1
      by_cases hlt : (I : Int) < R
      · have hlt' : I < R := by omega
        have HG := Lib.hid HP.out.g
        obtain ⟨l0, l1⟩ := HL.out I hlt'
        obtain ⟨lab, hlb⟩ : ∃ lab : Nat, ys I = (lab : Int) := ⟨(ys I).toNat, by omega⟩
        have HGI := Lib.hid (show ∀ j, j < C → G (I * C + j) = rowO (U I) C lab m j from fun j hj => by rw [HGr.out I j hj, hlb])
        have HSI := Lib.hid (show ST (I + 1) = addV (ST I) (rowL (U I) C lab) by rw [HTn.out I, hlb])
        have hyl := HY.out I hlt'
        rw [hlb] at l0 l1 hyl
        have HYL := Lib.hid hyl
        have hl2 : lab < C := by omega
        have hin := row_in (C := C) hlt'
        rw [← HN.out] at hin
        obtain ⟨Q, hQ⟩ : ∃ Q, I * C = Q := ⟨_, rfl⟩
        have hw1 := (wrap_mul I C Q (by omega) hC hQ).1
        rw [hQ] at HP HGI hin
        have HQ := Lib.hid hQ
        have HUI := Lib.hid (show ∀ j, widV F g (Q + j) = U I j from fun j => by rw [HUr.out, HQ.out])
        generalize U I = u at *
        have HUb := Lib.hid (show ∀ j, 0 ≤ u j ∧ u j ≤ 4294967295 from fun j => by rw [← HUI.out]; exact wid_bd F g _)
        have HMX := Lib.hid (fun k => maxW_bd u k fun j _ => HUb.out j)
        obtain ⟨s, hs⟩ : ∃ s, ST I = s := ⟨_, rfl⟩
        rw [hs] at s0 s1 HSI ⊢
        clear hlb hyl hQ hs
        have hq0 : Q < n := by omega
        go_wp2_with fail
        refine (twide_any R C F ad n c Q g _ hn hq0 (H1.out.grown HG.out)).mono ?_
        rintro e W5 ⟨he, hW⟩
        rw [show widV F g Q = maxW u 0 from HUI.out 0] at he
        subst he
        replace HP := Lib.hid (HP.out.grown hW)
        replace HG := Lib.hid HP.out.g
        clear hW p0 p1 p2 p3 p4
        go_wp2_with fail
        go_loopw [12, 13] (fun x i wr => ∃ J : Nat, J + 1 ≤ C ∧ i = .int .i64 ((J + 1 : Nat) : Int) ∧ x = .int .u32 (maxW u J) ∧ Hid (P1 w w.heap.size nb ob n (.int .i64 R) (.int .i64 C) (.int .i64 F) (.slice ad n c) (.int .i64 R) (.int .i64 C) (.int .i64 2) G Q wr)) (fun _ i _ => C - (intOf i).toNat)
        case atStart => exact ⟨0, hC0, rfl, rfl, HP⟩
        case round =>
          rename World => wv
          clear HP HG
          obtain ⟨J, hJ, rfl, rfl, HP⟩ := hrel
          have HG := Lib.hid HP.out.g
          obtain ⟨p0, p1, p2, p3, p4, -, -, -, -⟩ := HP.out.t1
          obtain ⟨x0, x1⟩ := HMX.out J
          by_cases hlJ : ((J + 1 : Nat) : Int) < C
          · have hlJ' : J + 1 < C := by omega
            obtain ⟨P, hP⟩ : ∃ P, Q + (J + 1) = P := ⟨_, rfl⟩
            have hw2 := wrap_add Q (J + 1) P (by omega) (by omega) hP
            have hP2 : P < n := by omega
            have HN2 := Lib.hid (show maxW u (J + 1) = maxO 2 (maxW u J) (u (J + 1)) from rfl)
            obtain ⟨v0, v1⟩ := HUb.out (J + 1)
            have HPU := Lib.hid (show widV F g P = u (J + 1) by rw [← hP]; exact HUI.out (J + 1))
            obtain ⟨v, hv⟩ : ∃ v, u (J + 1) = v := ⟨_, rfl⟩
            rw [hv] at HN2 v0 v1 HPU
            obtain ⟨x, hx⟩ : ∃ x, maxW u J = x := ⟨_, rfl⟩
            rw [hx] at HN2 x0 x1 ⊢
            obtain ⟨K, hK⟩ : ∃ K : Nat, J + 1 = K := ⟨_, rfl⟩
            rw [hK] at hw2 HN2 hlJ ⊢
            have HK := Lib.hid hK
            clear hP hv hx hK
            go_wp2_with fail
            refine (twide_any R C F ad n c P g _ hn hP2 (H1.out.grown HG.out)).mono ?_
            rintro e W6 ⟨he, hW⟩
            rw [HPU.out] at he
            subst he
            replace HP := Lib.hid (HP.out.grown hW)
            clear hW p0 p1 p2 p3 p4
            go_wp2_with fail
            refine (rmax_any 2 x v _ x0 x1 v0 v1).mono ?_
            rintro e W7 ⟨rfl, hW⟩
            replace HP := Lib.hid (HP.out.grown hW)
            clear hW
            go_wp2
            go_roundw
            case rel => exact ⟨K, by have := HK.out; omega, by go_num, by rw [HN2.out], HP⟩
            case measure => simp [intOf]; have := HK.out; omega
          · obtain ⟨x, hx⟩ : ∃ x, maxW u J = x := ⟨_, rfl⟩
            have HGx := Lib.hid (show rowM u C = x by rw [← hx]; unfold rowM; rw [show C - 1 = J by omega])
            rw [hx] at x0 x1 ⊢
            clear hx
            have HSn := Lib.hid (show ∀ k, sumW (sfE u x) (k + 1) = addV (sumW (sfE u x) k) (sfE u x k) from fun k => rfl)
            have HSC := Lib.hid (show sumW (sfE u x) C = rowS u C by unfold rowS; rw [HGx.out])
            have HSb := Lib.hid (sumW_bd (sfE u x))
            have HEd := Lib.hid (show ∀ k, expI (subV (u k) x) = sfE u x k from fun k => rfl)
            have HEb := Lib.hid (sfe_bd u x)
            have HRO := Lib.hid (show ∀ j, rowO u C lab m j = divV (subV (divV (sfE u x j) (rowS u C)) (if (j : Int) = (lab : Int) then 1065353216 else 0)) m from fun j => by unfold rowO; rw [HGx.out])
            have HRL := Lib.hid (show rowL u C lab = subV (logI (rowS u C)) (subV (u lab) x) by unfold rowL; rw [HGx.out, Int.toNat_natCast])
            have HSU0 := Lib.hid (show sumW (sfE u x) 0 = 0 from rfl)
            have HSRb := Lib.hid (show 0 ≤ rowS u C ∧ rowS u C ≤ 4294967295 by rw [← HSC.out]; exact HSb.out C)
            generalize sumW (sfE u x) = SU at *
            generalize sfE u x = E at *
            generalize rowS u C = S at *
            have hmk := run_make_row' (P := Tryz.prog) 22 29 (.int .u32 0) 4 Tryz.underlying22 (by kernel_rfl) rfl .i64 .i64 C (by omega) (by omega)
            have HE : Hid (PE w w.heap.size nb ob n (.int .i64 R) (.int .i64 C) (.int .i64 F) (.slice ad n c) (.int .i64 R) (.int .i64 C) (.int .i64 2) G Q wv.heap.size C E 0 (wv.alloc (.cells (madeCells #[.int .u32 0] C) 29))) := Lib.hid ⟨HP.out.grown gr, Filled.new wv C E 29, HP.out.f.lies, HP.out.t4.lies⟩
            clear HP
            go_wp2_with fail
            generalize wv.heap.size = eb at HE ⊢
            generalize wv.alloc _ = W8 at HE ⊢
            clear hmk p0 p1 p2 p3 p4 HG
            go_loopw [15, 16] (fun a i wr => ∃ J : Nat, J ≤ C ∧ i = .int .i64 J ∧ a = .int .u32 (SU J) ∧ Hid (PE w w.heap.size nb ob n (.int .i64 R) (.int .i64 C) (.int .i64 F) (.slice ad n c) (.int .i64 R) (.int .i64 C) (.int .i64 2) G Q eb C E J wr)) (fun _ i _ => C - (intOf i).toNat)
            case atStart => exact ⟨0, Nat.zero_le _, rfl, by rw [HSU0.out], HE⟩
            case round =>
              rename World => wy
              clear HE
              obtain ⟨J2, hJ2, rfl, rfl, HE⟩ := hrel
              have HG := Lib.hid HE.out.p.g
              obtain ⟨p0, p1, p2, p3, p4, -, -, -, -⟩ := HE.out.p.t1
              obtain ⟨a0, a1⟩ := HSb.out J2
              by_cases hl3 : (J2 : Int) < C
              · have hl3' : J2 < C := by omega
                obtain ⟨P, hP⟩ : ∃ P, Q + J2 = P := ⟨_, rfl⟩
                have hw2 := wrap_add Q J2 P (by omega) (by omega) hP
                have hP2 : P < n := by omega
                have HPU := Lib.hid (show widV F g P = u J2 by rw [← hP]; exact HUI.out J2)
                obtain ⟨v0, v1⟩ := HUb.out J2
                have HED := HEd.out J2
                obtain ⟨b0, b1⟩ := HEb.out J2
                have HSN := HSn.out J2
                obtain ⟨v, hv⟩ : ∃ v, u J2 = v := ⟨_, rfl⟩
                rw [hv] at HPU HED v0 v1
                obtain ⟨ev, hev⟩ : ∃ ev, E J2 = ev := ⟨_, rfl⟩
                rw [hev] at HED HSN b0 b1
                have HEV := Lib.hid hev
                obtain ⟨dv, hdv⟩ : ∃ dv, subV v x = dv := ⟨_, rfl⟩
                rw [hdv] at HED
                have HED := Lib.hid HED
                have HDV := Lib.hid hdv
                obtain ⟨av, hav⟩ : ∃ av, SU J2 = av := ⟨_, rfl⟩
                rw [hav] at HSN a0 a1 ⊢
                have HSN := Lib.hid HSN
                clear hP hv hev hdv hav
                go_wp2_with fail
                refine (twide_any R C F ad n c P g _ hn hP2 (H1.out.grown HG.out)).mono ?_
                rintro e W9 ⟨he, hW⟩
                rw [HPU.out] at he
                subst he
                replace HE := Lib.hid (HE.out.grown hW)
                clear hW p0 p1 p2 p3 p4
                go_wp2_with fail
                refine (nsub_any v x _ v0 v1 x0 x1).mono ?_
                rintro e W10 ⟨he, d0, d1, hW⟩
                rw [HDV.out] at he d0 d1
                subst he
                replace HE := Lib.hid (HE.out.grown hW)
                clear hW
                go_wp2_with fail
                refine (nexp_any dv _ d0 d1).mono ?_
                rintro e W11 ⟨he, -, -, hW⟩
                rw [HED.out] at he
                subst he
                replace HE := Lib.hid (HE.out.grown hW)
                clear hW
                have z1 := HE.out.e.cell J2 hl3'
                have z2 := HE.out.e.free J2
                have HE2 := Lib.hid (HE.out.setE hl3')
                rw [HEV.out] at HE2
                have z3 := (HE2.out.e.cell J2 hl3').trans (by rw [if_pos (Nat.lt_succ_self J2), HEV.out])
                go_wp2_with fail
                generalize (W11.setCell _ _) = W12 at HE2 z3 ⊢
                clear z1 z2 HE
                refine (nadd_any av ev _ a0 a1 b0 b1).mono ?_
                rintro e W13 ⟨rfl, -, -, hW⟩
                replace HE2 := Lib.hid (HE2.out.grown hW)
                clear hW z3
                go_wp2
                go_roundw
                case rel => exact ⟨J2 + 1, by omega, by go_num, by rw [HSN.out], HE2⟩
                case measure => simp [intOf]; omega
              · obtain rfl : J2 = C := by omega
                rw [HSC.out]
                obtain ⟨S0, S1⟩ := HSRb.out
                obtain ⟨P, hP⟩ : ∃ P, Q + lab = P := ⟨_, rfl⟩
                have hw2 := wrap_add Q lab P (by omega) (by omega) hP
                have hP2 : P < n := by omega
                have HPU := Lib.hid (show widV F g P = u lab by rw [← hP]; exact HUI.out lab)
                obtain ⟨v0, v1⟩ := HUb.out lab
                have yl := grown_cell HG.out HYL.out hbl
                have hbl2 := Nat.lt_of_lt_of_le hbl HG.out.2.2
                obtain ⟨v, hv⟩ : ∃ v, u lab = v := ⟨_, rfl⟩
                have hRy := HRL.out
                rw [hv] at HPU v0 v1 hRy
                obtain ⟨B, hB⟩ : ∃ B, subV v x = B := ⟨_, rfl⟩
                rw [hB] at hRy
                obtain ⟨g0, g1⟩ := log_word S
                obtain ⟨Lg, hLg⟩ : ∃ Lg, logI S = Lg := ⟨_, rfl⟩
                rw [hLg] at g0 g1 hRy
                obtain ⟨RL, hRL⟩ : ∃ RL, rowL u J2 lab = RL := ⟨_, rfl⟩
                rw [hRL] at hRy HSI
                have HB := Lib.hid hB
                have HLg := Lib.hid hLg
                have HRLx := Lib.hid hRy
                clear hRy hP hv hB hLg hRL HRL HSb HSn HEd
                go_wp2_with fail
                go_region_held3 (fun w' => w'.cell? ⟨w.heap.size, 0, none⟩ = some (.int .i64 R) ∧ w'.cell? ⟨w.heap.size, 1, none⟩ = some (.int .i64 J2) ∧ w'.cell? ⟨w.heap.size, 2, none⟩ = some (.int .i64 F) ∧ w'.cell? ⟨w.heap.size, 3, none⟩ = some (.slice ad n c) ∧ w'.cell? ⟨by', yo + I, none⟩ = some (.int .i64 lab)) (go_keep) (first
                  | (go_at_call 35; (with_reducible refine (twide_any R J2 F ad n c P g _ hn hP2 (H1.out.grown gr)).mono ?_); rintro e W9 ⟨he, hW⟩; rw [HPU.out] at he; subst he; replace HE := Lib.hid (HE.out.grown (grown_trans gr hW)); replace HG := Lib.hid (show Grown w W9 from grown_trans gr hW); clear hW p0 p1 p2 p3 p4 yl; obtain ⟨p0, p1, p2, p3, p4, -, -, -, -⟩ := HE.out.p.t1; have yl := grown_cell HG.out HYL.out hbl)
                  | (go_at_call 21; (with_reducible refine (nsub_any v x _ v0 v1 x0 x1).mono ?_); rintro e W10 ⟨he, b0, b1, hW⟩; rw [HB.out] at he b0 b1; subst he; replace HE := Lib.hid (HE.out.grown (grown_trans gr hW)); replace HG := Lib.hid (show Grown w W10 from grown_trans gr hW); clear hW p0 p1 p2 p3 p4 yl; obtain ⟨p0, p1, p2, p3, p4, -, -, -, -⟩ := HE.out.p.t1; have yl := grown_cell HG.out HYL.out hbl))
                go_wp2_with fail
                refine (nlog_any S _ S0 S1).mono ?_
                rintro e W11 ⟨he, -, -, hW⟩
                rw [HLg.out] at he
                subst he
                replace HE := Lib.hid (HE.out.grown (grown_trans gr hW))
                clear hW p0 p1 p2 p3 p4 yl HG
                go_wp2_with fail
                refine (nsub_any Lg B _ g0 g1 b0 b1).mono ?_
                rintro e W12 ⟨he, n0, n1, hW⟩
                rw [← HRLx.out] at he n0 n1
                subst he
                replace HE := Lib.hid (HE.out.grown hW)
                clear hW
                go_wp2_with fail
                refine (nadd_any s RL _ s0 s1 n0 n1).mono ?_
                rintro e W13 ⟨rfl, -, -, hW⟩
                replace HE := Lib.hid (HE.out.grown hW)
                clear hW n0 n1
                go_wp2_with fail
                go_loopw [18, 19] (fun i _ wr => ∃ J : Nat, J ≤ J2 ∧ i = .int .i64 J ∧ Hid (PE w w.heap.size nb ob n (.int .i64 R) (.int .i64 J2) (.int .i64 F) (.slice ad n c) (.int .i64 R) (.int .i64 J2) (.int .i64 2) G (Q + J) eb J2 E J2 wr)) (fun i _ _ => J2 - (intOf i).toNat)
                case atStart => exact ⟨0, Nat.zero_le _, rfl, HE⟩
                case round =>
                  rename World => wz
                  clear HE
                  obtain ⟨J, hJ3, rfl, HE⟩ := hrel
                  have HG := Lib.hid HE.out.p.g
                  obtain ⟨p0, p1, p2, p3, p4, -, -, -, -⟩ := HE.out.p.t1
                  by_cases hl4 : (J : Int) < J2
                  · have hl4' : J < J2 := by omega
                    obtain ⟨P, hP⟩ : ∃ P, Q + J = P := ⟨_, rfl⟩
                    have hw2 := wrap_add Q J P (by omega) (by omega) hP
                    have hP2 : P < n := by omega
                    have HGJ : G P = _ := (congrArg G hP.symm).trans (HGI.out J hl4')
                    have HRJ := HRO.out J
                    rw [hP] at HE
                    obtain ⟨T, hT⟩ : ∃ T : Int, (if (J : Int) = (lab : Int) then (1065353216 : Int) else 0) = T := ⟨_, rfl⟩
                    have hTb : 0 ≤ T ∧ T ≤ 4294967295 := by rw [← hT]; split <;> decide
                    obtain ⟨t0, t1⟩ := hTb
                    obtain ⟨c0, c1⟩ := HEb.out J
                    have ye := (HE.out.e.cell J hl4').trans (by rw [if_pos hl4'])
                    obtain ⟨ev, hev⟩ : ∃ ev, E J = ev := ⟨_, rfl⟩
                    rw [hev] at HRJ c0 c1 ye
                    obtain ⟨A, hA⟩ : ∃ A, divV ev S = A := ⟨_, rfl⟩
                    obtain ⟨D, hD⟩ : ∃ D, subV A T = D := ⟨_, rfl⟩
                    obtain ⟨V, hV⟩ : ∃ V, divV D m = V := ⟨_, rfl⟩
                    rw [hT, hA, hD, hV] at HRJ
                    have HGV := Lib.hid (HGJ.trans HRJ)
                    have HPQ := Lib.hid hP
                    have HA := Lib.hid hA
                    have HD := Lib.hid hD
                    have HV := Lib.hid hV
                    have HEV := Lib.hid hev
                    have yl := grown_cell HG.out HYL.out hbl
                    obtain ⟨o0, o1, o2, o3, o4, -, -, -, -⟩ := HE.out.p.t4
                    have y := HE.out.p.f.cell P hP2
                    have z := HE.out.p.f.free P
                    have le := HE.out.e.lies
                    have n1 : ¬ nb = w.heap.size := by have := HE.out.p.o; omega
                    have n2 : ¬ nb = ob := HE.out.p.ne
                    have n3 : ¬ nb = eb := by have := HE.out.l1; omega
                    have n4 : w.heap.size ≤ nb := by have := HE.out.p.o; omega
                    clear hP hev hA hD hV HGJ HRJ
                    by_cases ct : (J : Int) = lab
                    · rw [if_pos ct] at hT
                      subst hT
                      have ct1 : ((J : Int) == (lab : Int)) = true := by simp [ct]
                      clear ct
                      go_wp2_with fail
                      go_region_held3 (fun w' => w'.cell? ⟨w.heap.size, 1, none⟩ = some (.int .i64 J2) ∧ w'.cell? ⟨ob, 3, none⟩ = some (.slice (some ⟨nb, 0, none⟩) n n) ∧ w'.cell? ⟨eb, J, none⟩ = some (.int .u32 ev)) (go_keep) (first
                        | (go_at_call 19; (with_reducible refine (ndiv_any ev S _ c0 c1 S0 S1).mono ?_); rintro e W14 ⟨he, a0, a1, hW⟩; rw [HA.out] at he a0 a1; subst he; replace HE := Lib.hid (HE.out.grown (grown_trans gr hW)); replace HG := Lib.hid (show Grown w W14 from grown_trans gr hW); clear hW p0 p1 p2 p3 p4 o0 o1 o2 o3 o4 y z ye le; obtain ⟨p0, p1, p2, p3, p4, -, -, -, -⟩ := HE.out.p.t1; obtain ⟨o0, o1, o2, o3, o4, -, -, -, -⟩ := HE.out.p.t4; have y := HE.out.p.f.cell P hP2; have z := HE.out.p.f.free P; have ye := (HE.out.e.cell J hl4').trans (by rw [if_pos hl4', HEV.out]); have le := HE.out.e.lies)
                        | (go_at_call 21; (with_reducible refine (nsub_any A 1065353216 _ a0 a1 t0 t1).mono ?_); rintro e W15 ⟨he, d0, d1, hW⟩; rw [HD.out] at he d0 d1; subst he; replace HE := Lib.hid (HE.out.grown (grown_trans gr hW)); replace HG := Lib.hid (show Grown w W15 from grown_trans gr hW); clear hW p0 p1 p2 p3 p4 o0 o1 o2 o3 o4 y z ye le; obtain ⟨p0, p1, p2, p3, p4, -, -, -, -⟩ := HE.out.p.t1; obtain ⟨o0, o1, o2, o3, o4, -, -, -, -⟩ := HE.out.p.t4; have y := HE.out.p.f.cell P hP2; have z := HE.out.p.f.free P; have ye := (HE.out.e.cell J hl4').trans (by rw [if_pos hl4', HEV.out]); have le := HE.out.e.lies)
                        | (go_at_call 19; (with_reducible refine (ndiv_any D m _ d0 d1 m0 m1).mono ?_); rintro e W16 ⟨he, -, -, hW⟩; rw [HV.out] at he; subst he; replace HE := Lib.hid (HE.out.grown (grown_trans gr hW)); replace HG := Lib.hid (show Grown w W16 from grown_trans gr hW); clear hW p0 p1 p2 p3 p4 o0 o1 o2 o3 o4 y z ye le; obtain ⟨p0, p1, p2, p3, p4, -, -, -, -⟩ := HE.out.p.t1; obtain ⟨o0, o1, o2, o3, o4, -, -, -, -⟩ := HE.out.p.t4; have y := HE.out.p.f.cell P hP2; have z := HE.out.p.f.free P; have ye := (HE.out.e.cell J hl4').trans (by rw [if_pos hl4', HEV.out]); have le := HE.out.e.lies))
                      go_wp2
                      go_roundw
                      case rel => exact ⟨J + 1, by omega, by go_num, Lib.hid (by
                        have := HE.out.setG hP2
                        rw [HGV.out] at this
                        rw [show Q + (J + 1) = P + 1 by have := HPQ.out; omega]
                        exact this)⟩
                      case measure => simp [intOf]; omega
                    · rw [if_neg ct] at hT
                      subst hT
                      have ct1 : ((J : Int) == (lab : Int)) = false := by simp [ct]
                      clear ct
                      go_wp2_with fail
                      go_region_held3 (fun w' => w'.cell? ⟨w.heap.size, 1, none⟩ = some (.int .i64 J2) ∧ w'.cell? ⟨ob, 3, none⟩ = some (.slice (some ⟨nb, 0, none⟩) n n) ∧ w'.cell? ⟨eb, J, none⟩ = some (.int .u32 ev)) (go_keep) (first
                        | (go_at_call 19; (with_reducible refine (ndiv_any ev S _ c0 c1 S0 S1).mono ?_); rintro e W14 ⟨he, a0, a1, hW⟩; rw [HA.out] at he a0 a1; subst he; replace HE := Lib.hid (HE.out.grown (grown_trans gr hW)); replace HG := Lib.hid (show Grown w W14 from grown_trans gr hW); clear hW p0 p1 p2 p3 p4 o0 o1 o2 o3 o4 y z ye le; obtain ⟨p0, p1, p2, p3, p4, -, -, -, -⟩ := HE.out.p.t1; obtain ⟨o0, o1, o2, o3, o4, -, -, -, -⟩ := HE.out.p.t4; have y := HE.out.p.f.cell P hP2; have z := HE.out.p.f.free P; have ye := (HE.out.e.cell J hl4').trans (by rw [if_pos hl4', HEV.out]); have le := HE.out.e.lies)
                        | (go_at_call 21; (with_reducible refine (nsub_any A 0 _ a0 a1 t0 t1).mono ?_); rintro e W15 ⟨he, d0, d1, hW⟩; rw [HD.out] at he d0 d1; subst he; replace HE := Lib.hid (HE.out.grown (grown_trans gr hW)); replace HG := Lib.hid (show Grown w W15 from grown_trans gr hW); clear hW p0 p1 p2 p3 p4 o0 o1 o2 o3 o4 y z ye le; obtain ⟨p0, p1, p2, p3, p4, -, -, -, -⟩ := HE.out.p.t1; obtain ⟨o0, o1, o2, o3, o4, -, -, -, -⟩ := HE.out.p.t4; have y := HE.out.p.f.cell P hP2; have z := HE.out.p.f.free P; have ye := (HE.out.e.cell J hl4').trans (by rw [if_pos hl4', HEV.out]); have le := HE.out.e.lies)
                        | (go_at_call 19; (with_reducible refine (ndiv_any D m _ d0 d1 m0 m1).mono ?_); rintro e W16 ⟨he, -, -, hW⟩; rw [HV.out] at he; subst he; replace HE := Lib.hid (HE.out.grown (grown_trans gr hW)); replace HG := Lib.hid (show Grown w W16 from grown_trans gr hW); clear hW p0 p1 p2 p3 p4 o0 o1 o2 o3 o4 y z ye le; obtain ⟨p0, p1, p2, p3, p4, -, -, -, -⟩ := HE.out.p.t1; obtain ⟨o0, o1, o2, o3, o4, -, -, -, -⟩ := HE.out.p.t4; have y := HE.out.p.f.cell P hP2; have z := HE.out.p.f.free P; have ye := (HE.out.e.cell J hl4').trans (by rw [if_pos hl4', HEV.out]); have le := HE.out.e.lies))
                      go_wp2
                      go_roundw
                      case rel => exact ⟨J + 1, by omega, by go_num, Lib.hid (by
                        have := HE.out.setG hP2
                        rw [HGV.out] at this
                        rw [show Q + (J + 1) = P + 1 by have := HPQ.out; omega]
                        exact this)⟩
                      case measure => simp [intOf]; omega
                  · obtain rfl : J = J2 := by omega
                    go_wp2
                    go_roundw
                    case rel => exact ⟨I + 1, by omega, by go_num, by rw [HSI.out], by
                      rw [Nat.add_mul, Nat.one_mul, HQ.out]; exact Lib.hid HE.out.p⟩
                    case measure => simp [intOf]; omega
      · obtain rfl : I = R := by omega
        rw [← HN.out] at HP
        have HG := Lib.hid HP.out.g
        have HF := Lib.hid HP.out.f
        obtain ⟨o0, o1, o2, o3, o4, -, -, -, -⟩ := HP.out.t4
        obtain ⟨r0, r1, r2, r3, r4, r5, r6, r7, r8⟩ := HP.out.t3
        have ho : w.heap.size + 1 < nb := HP.out.o
        have ho2 : w.heap.size + 1 < ob := HP.out.o2
        obtain ⟨z, hz⟩ : ∃ z, w.heap.size + 1 = z := ⟨_, rfl⟩
        have HZ := Lib.hid hz
        have n1 : ¬ z = ob := by omega
        have n2 : ¬ ob = z := by omega
        have n3 : w.heap.size ≤ z := by omega
        have hne : nb ≠ z := by omega
        rw [hz] at r0 r1 r2 r3 r4 r5 r6 r7 r8
        obtain ⟨s, hs⟩ : ∃ s, ST I = s := ⟨_, rfl⟩
        rw [hs] at s0 s1 ⊢
        have HST := Lib.hid hs
        have hR1 : ((I : Int) == 0) = false := by simp; omega
        clear hs
        go_wp2_with fail
        (try rw [hz])
        clear hz
        go_region_held3 (fun w' => w'.cell? ⟨ob, 0, none⟩ = some (.int .i64 I) ∧ w'.cell? ⟨ob, 1, none⟩ = some (.int .i64 C) ∧ w'.cell? ⟨ob, 2, none⟩ = some (.int .i64 2) ∧ w'.cell? ⟨ob, 3, none⟩ = some (.slice (some ⟨nb, 0, none⟩) n n)) (go_keep) (first
          | (go_at_call 19; (with_reducible refine (ndiv_any s m _ s0 s1 m0 m1).mono ?_); rintro e W5 ⟨rfl, -, -, hW⟩; replace HG := Lib.hid (show Grown w W5 from grown_trans gr hW); replace HP := Lib.hid (HP.out.grown (grown_trans gr hW)); replace HF := Lib.hid HP.out.f; clear hW o0 o1 o2 o3 o4 r0 r1 r2 r3 r4 r5 r6 r7 r8; obtain ⟨o0, o1, o2, o3, o4, -, -, -, -⟩ := HP.out.t4; obtain ⟨r0, r1, r2, r3, r4, r5, r6, r7, r8⟩ := HP.out.t3; rw [HZ.out] at r0 r1 r2 r3 r4 r5 r6 r7 r8))
        go_wp2
        (try simp only [Exit.inBlock, Exit.then])
        refine bodyPost_ret (v := .tuple #[.int .u32 (divV s m), .agg #[.int .i64 I, .int .i64 C, .int .i64 2, .slice (some ⟨nb, 0, none⟩) n n], .int .i64 0]) ?_ rfl ⟨some ⟨nb, 0, none⟩, n, by rw [HST.out], ?_, hm, fun x hx => by cases hx; show w.heap.size ≤ nb; omega, gr⟩
        · rw [results_three rfl]
          go_simp
        · exact ((((HF.out.other (a := ⟨z, 0, none⟩) hne _).other (a := ⟨z, 1, none⟩) hne _).other (a := ⟨z, 2, none⟩) hne _).other (a := ⟨z, 3, none⟩) hne _).reads fun t _ => HGb.out t

set_option maxRecDepth 100000 in
set_option maxHeartbeats 2000000 in
theorem rsoft_none (C F : Int) (ad yd : Option Addr) (c yc n : Nat) (g y G : Nat → Int) (w : World) (hr : rightB 0 C F n g = true) (hn0 : n = 0) :
    Calls Tryz.prog 12 #[.agg #[.int .i64 0, .int .i64 C, .int .i64 F, .slice ad n c], .slice yd 0 yc] w (LosE 0 ⟨0, C, 2, n, G⟩ 0 w) := by
  have H1 : Hid (∀ W, Reads ad n g W) := Lib.hid fun W => hn0 ▸ Reads.nil ad g W
  have H2 : Hid (∀ W, ReadsI yd 0 y W) := Lib.hid fun W => ⟨fun i hi => absurd hi (Nat.not_lt_zero i), .inl rfl⟩
  have hn := (show n ≤ 9223372036854775807 by omega)
  have hm := (show n ≤ 16777216 by omega)
  have HX := Lib.hid (show Ending.returned (.int .i64 (labX ⟨0, C, F, n, g⟩ 0 y)) = .returned (.int .i64 0) by
    unfold labX labB PT.right
    rw [show rightB 0 C F n g = true from hr, show labI C 0 y = true from lab_all fun j hj => absurd hj (Nat.not_lt_zero j)]
    rfl)
  have HT1 := Lib.hid ((ten_new w (.int .i64 0) (.int .i64 C) (.int .i64 F) (.slice ad n c) 24).grown (Grown.alloc (Grown.refl _) #[.int .i64 0, .int .i64 0, .int .i64 0, .slice none 0 0] 24))
  have HT3 := Lib.hid (ten_new2 w #[.int .i64 0, .int .i64 C, .int .i64 F, .slice ad n c] 24 (.int .i64 0) (.int .i64 0) (.int .i64 0) (.slice none 0 0) 24)
  have HG := Lib.hid (show Grown w ((w.alloc (.cells #[.int .i64 0, .int .i64 C, .int .i64 F, .slice ad n c] 24)).alloc (.cells #[.int .i64 0, .int .i64 0, .int .i64 0, .slice none 0 0] 24)) from gr)
  obtain ⟨m, hm2⟩ : ∃ m, frmV 0 = m := ⟨_, rfl⟩
  have HM := Lib.hid hm2
  have HN0 := Lib.hid hn0
  clear hr hm2 hn0
  go_enter Tryz.func12, Tryz.ntmps12
  go_wp2_with fail
  generalize (w.alloc _).alloc _ = W0 at HT1 HT3 HG ⊢
  refine (rlab_any _ _ _ _ _ _ _ _ _ g y _ (by omega) (by omega) (H1.out _) (H2.out _)).mono ?_
  rintro e W2 ⟨he, hW1⟩
  rw [HX.out] at he
  subst he
  replace HT1 := Lib.hid (HT1.out.grown hW1)
  replace HT3 := Lib.hid (HT3.out.grown hW1)
  replace HG := Lib.hid (grown_trans HG.out hW1)
  clear hW1
  obtain ⟨p0, p1, p2, p3, p4, -, -, -, -⟩ := HT1.out
  obtain ⟨r0, r1, r2, r3, r4, r5, r6, r7, r8⟩ := HT3.out
  have hmk := run_make_row' (P := Tryz.prog) 22 29 (.int .u32 0) 4 Tryz.underlying22 (by kernel_rfl) rfl .i64 .i64 n (by omega) (by omega)
  have HA := Lib.hid (show P1 w w.heap.size W2.heap.size (W2.heap.size + 1) n (.int .i64 0) (.int .i64 C) (.int .i64 F) (.slice ad n c) (.int .i64 0) (.int .i64 C) (.int .i64 2) G 0 (((W2.alloc (.cells (madeCells #[.int .u32 0] n) 29)).alloc (.cells #[.int .i64 0, .int .i64 C, .int .i64 2, .slice (some ⟨W2.heap.size, 0, none⟩) n n] 24)).drew) from
    ⟨gr, HT1.out.grown gr, HT3.out.grown gr, by simpa only [World.size_alloc] using (ten_new (W2.alloc (.cells (madeCells #[.int .u32 0] n) 29)) (.int .i64 0) (.int .i64 C) (.int .i64 2) (.slice (some ⟨W2.heap.size, 0, none⟩) n n) 24).grown (Grown.drew (Grown.refl _)), (Filled.new W2 n G 29).grown (Grown.drew (Grown.alloc (Grown.refl _) _ _)), r0, Nat.lt_succ_of_lt r0, by omega, Nat.le_refl _⟩)
  have HB := Lib.hid (show P1 w w.heap.size (W2.heap.size + 1) W2.heap.size n (.int .i64 0) (.int .i64 C) (.int .i64 F) (.slice ad n c) (.int .i64 0) (.int .i64 C) (.int .i64 2) G 0 (((W2.alloc (.cells #[.int .i64 0, .int .i64 C, .int .i64 2, .slice (some ⟨W2.heap.size + 1, 0, none⟩) n n] 24)).alloc (.cells (madeCells #[.int .u32 0] n) 29)).drew) from
    ⟨gr, HT1.out.grown gr, HT3.out.grown gr, (ten_new W2 (.int .i64 0) (.int .i64 C) (.int .i64 2) (.slice (some ⟨W2.heap.size + 1, 0, none⟩) n n) 24).grown (Grown.drew (Grown.alloc (Grown.refl _) _ _)), by have := (Filled.new (W2.alloc (.cells #[.int .i64 0, .int .i64 C, .int .i64 2, .slice (some ⟨W2.heap.size + 1, 0, none⟩) n n] 24)) n G 29).grown (Grown.drew (Grown.refl _)); simp only [World.size_alloc] at this; exact this, Nat.lt_succ_of_lt r0, r0, by omega, Nat.le_refl _⟩)
  go_wp2_with fail
  apply by_key
  · intro key
    go_region
    all_goals
      generalize hW3 : ((W2.alloc _).alloc _).drew = W3
      first
        | (have HP := hW3 ▸ HA.out
           generalize W2.heap.size + 1 = ob at HP ⊢
           generalize W2.heap.size = nb at HP ⊢)
        | (have HP := hW3 ▸ HB.out
           generalize W2.heap.size + 1 = nb at HP ⊢
           generalize W2.heap.size = ob at HP ⊢)
      replace HP := Lib.hid HP
      clear hW3
      revert HP
      revert W3
      revert nb
      revert ob
      exact key
  · intro ob nb W3 HP
    clear hmk p0 p1 p2 p3 p4 r0 r1 r2 r3 r4 r5 r6 r7 r8 HA HB HT1 HT3 HG
    obtain ⟨p0, p1, p2, p3, p4, -, -, -, -⟩ := HP.out.t1
    go_wp2_with fail
    refine (nint_any 0 _ (by omega) (by omega)).mono ?_
    rintro e W4 ⟨rfl, m0, m1, hW⟩
    rw [HM.out] at m0 m1 ⊢
    replace HP := Lib.hid (HP.out.grown hW)
    clear hW p0 p1 p2 p3 p4
    go_wp2_with fail
    refine wp_loop_rounds 1 ?_
    rw [rounds_succ]
    have HG := Lib.hid HP.out.g
    obtain ⟨o0, o1, o2, o3, o4, -, -, -, -⟩ := HP.out.t4
    obtain ⟨p0, p1, p2, p3, p4, -, -, -, -⟩ := HP.out.t1
    obtain ⟨r0, r1, r2, r3, r4, r5, r6, r7, r8⟩ := HP.out.t3
    have ho : w.heap.size + 1 < nb := HP.out.o
    have ho2 : w.heap.size + 1 < ob := HP.out.o2
    obtain ⟨z, hz⟩ : ∃ z, w.heap.size + 1 = z := ⟨_, rfl⟩
    have n1 : ¬ z = ob := by omega
    have n2 : ¬ ob = z := by omega
    have n3 : w.heap.size ≤ z := by omega
    rw [hz] at r0 r1 r2 r3 r4 r5 r6 r7 r8
    go_wp2_with fail
    (try rw [hz])
    clear hz
    go_region_held3 (fun w' => w'.cell? ⟨ob, 0, none⟩ = some (.int .i64 0) ∧ w'.cell? ⟨ob, 1, none⟩ = some (.int .i64 C) ∧ w'.cell? ⟨ob, 2, none⟩ = some (.int .i64 2) ∧ w'.cell? ⟨ob, 3, none⟩ = some (.slice (some ⟨nb, 0, none⟩) n n)) (go_keep) (fail)
    go_wp2
    (try simp only [Exit.inBlock, Exit.then])
    refine bodyPost_ret (v := .tuple #[.int .u32 0, .agg #[.int .i64 0, .int .i64 C, .int .i64 2, .slice (some ⟨nb, 0, none⟩) n n], .int .i64 0]) ?_ rfl ⟨some ⟨nb, 0, none⟩, n, rfl, ⟨fun i hi => absurd (show i < n from hi) (by have := HN0.out; omega), .inl HN0.out⟩, hm, fun x hx => by cases hx; show w.heap.size ≤ nb; omega, gr⟩
    rw [results_three rfl]
    go_simp

theorem rsoft_any (R C F:Int) (ad yd:Option Addr) (n c yn yc:Nat) (g y:Nat→Int) (w:World) (hn:n≤9223372036854775807) (hyn:yn≤9223372036854775807) (hr:Reads ad n g w) (hy:ReadsI yd yn y w):
  Calls Tryz.prog 12 #[.agg #[.int .i64 R,.int .i64 C,.int .i64 F,.slice ad n c],.slice yd yn yc] w (LosE (sofV ⟨R,C,F,n,g⟩ yn y) (sofT ⟨R,C,F,n,g⟩ yn y) (labX ⟨R,C,F,n,g⟩ yn y) w):=by
 unfold sofV sofT
 by_cases h:labX ⟨R,C,F,n,g⟩ yn y=0
 ·rw [if_pos h,if_pos h]
  obtain ⟨h1,h2,h3,h4⟩:=lab_zero h
  obtain ⟨r,k,e1,e2,l1,l2,e3⟩:=right_nat h1
  simp only at e1 e2 e3 h2 h3 h4
  subst e1 e2
  have hry:yn=r:=by omega
  subst hry
  rw [h]
  rcases Nat.eq_zero_or_pos yn with h0 | h0
  ·subst h0
   rw [Nat.zero_mul] at e3
   subst e3
   exact rsoft_none k F ad yd c yc _ g y _ w h1 rfl
  ·obtain ⟨b,off,rfl,hl,hc⟩:=readi_at hy h0
   rw [if_neg (show ¬((yn:Nat):Int)=0 by omega)]
   exact rsoft_some F yn k ad n c yc b off g y w l1 h0 l2 (by omega) e3 hr h h4 hl hc
 ·rw [if_neg h,if_neg h]
  exact rsoft_bad R C F ad yd n c yn yc g y w hn hyn hr hy h
end Go.Proofs.YteifobleigfbaaaGreat
