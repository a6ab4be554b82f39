/- The contracts of annealref13's products. -/
import Derived.Test.YteifobleigfbaaaGreatRTen
import Derived.Test.YteifobleigfbaaaGreatFunMath
import Derived.Test.YteifobleigfbaaaGreatRWhoB
import Derived.Test.YteifobleigfbaaaGreatRFun
import Derived.Lib.Hide
import Derived.Handy
import Derived.BigRegion
import Derived.Deep.QuietTactic
import Derived.BigQuiet
import Derived.Deep.RegionHeld3
import Derived.StillTailTactics
namespace Go.Proofs.YteifobleigfbaaaGreat
open Go.RowKit
set_option linter.unusedVariables false
set_option linter.unusedSimpArgs false

set_option maxHeartbeats 1000000 in
theorem twide_any (R C F:Int) (ad:Option Addr) (n c i:Nat) (g:Nat→Int) (w:World) (hn:n≤9223372036854775807) (hi:i<n) (h:Reads ad n g w):
  Calls Tryz.prog 35 #[.agg #[.int .i64 R,.int .i64 C,.int .i64 F,.slice ad n c],.int .i64 i] w fun e w'=>e=.returned (.int .u32 (widV F g i))∧Grown w w':=by
 obtain ⟨hb,h⟩:=h
 obtain ⟨b,off,rfl,hl,hc⟩:∃ b off,ad=some ⟨b,off,none⟩∧b<w.heap.size∧∀ i,i<n→w.cell? ⟨b,off+i,none⟩=some (.int .u32 (g i)):=by
  rcases h with h | h
  ·omega
  ·exact h
 obtain ⟨x0,x1⟩:=hb i hi
 have y:=hc i hi
 have HX:=Lib.hid (show widV F g i=conV F 2 0 (g i) from rfl)
 obtain ⟨x,hx⟩:∃ x,g i=x:=⟨_,rfl⟩
 rw [hx] at x0 x1 y HX
 have y2:(w.alloc (.cells #[.int .i64 R,.int .i64 C,.int .i64 F,.slice (some ⟨b,off,none⟩) n c] 24)).cell? ⟨w.heap.size,2,none⟩=some (.int .i64 F):=by go_simp
 have y3:(w.alloc (.cells #[.int .i64 R,.int .i64 C,.int .i64 F,.slice (some ⟨b,off,none⟩) n c] 24)).cell? ⟨w.heap.size,3,none⟩=some (.slice (some ⟨b,off,none⟩) n c):=by go_simp
 have HG:Grown w (w.alloc (.cells #[.int .i64 R,.int .i64 C,.int .i64 F,.slice (some ⟨b,off,none⟩) n c] 24)):=Grown.alloc (Grown.refl _) _ _
 have y0:=grown_cell HG y hl
 have HG':=Lib.hid HG
 have hz:w.heap.size<(w.alloc (.cells #[.int .i64 R,.int .i64 C,.int .i64 F,.slice (some ⟨b,off,none⟩) n c] 24)).heap.size:=by simp
 have hb0:=Nat.lt_of_lt_of_le hl HG.2.2
 clear hc h hb hx HG y
 go_enter Tryz.func35,Tryz.ntmps35
 go_wp2_with fail
 generalize (w.alloc (.cells #[.int .i64 R,.int .i64 C,.int .i64 F,.slice (some ⟨b,off,none⟩) n c] 24))=W0 at y0 y2 y3 HG' hz hb0 ⊢
 go_region_held3 (fun w'=>w'.cell? ⟨w.heap.size,2,none⟩=some (.int .i64 F)∧w'.cell? ⟨w.heap.size,3,none⟩=some (.slice (some ⟨b,off,none⟩) n c)∧w'.cell? ⟨b,off+i,none⟩=some (.int .u32 x)) (go_keep) (first
  | (go_at_call 69;refine (rwiden_any F x _ x0 x1).mono ?_;rintro e W1 ⟨rfl,hW1⟩;replace HG':=Lib.hid (show Grown w W1 from grown_trans gr hW1);replace y0:=grown_cell hW1 y0 hb0;replace y2:=grown_cell hW1 y2 hz;replace y3:=grown_cell hW1 y3 hz;clear hW1))
 go_wp2
 go_ret
 exact ⟨ret_int HX.out.symm,gr⟩
end Go.Proofs.YteifobleigfbaaaGreat
