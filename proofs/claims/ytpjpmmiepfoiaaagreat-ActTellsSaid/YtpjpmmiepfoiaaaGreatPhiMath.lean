/- Philox4x32-10 as plain numbers (no program here). -/
import Derived.Test.YtpjpmmiepfoiaaaGreatMath
import Derived.Handy
import Derived.OpenShut
namespace Go.Proofs.YtpjpmmiepfoiaaaGreat
open Go.RowKit
set_option linter.unusedVariables false
set_option linter.unusedSimpArgs false

structure Ph where
 k0:Int
 k1:Int
 c0:Int
 c1:Int
 c2:Int
 c3:Int

structure PhW (s:Ph):Prop where
 a0:0≤s.k0∧s.k0≤4294967295
 a1:0≤s.k1∧s.k1≤4294967295
 b0:0≤s.c0∧s.c0≤4294967295
 b1:0≤s.c1∧s.c1≤4294967295
 b2:0≤s.c2∧s.c2≤4294967295
 b3:0≤s.c3∧s.c3≤4294967295

def xo (a b:Int):Int:=bits .xor .u32 a b

theorem xo_bd (a b:Int):0≤xo a b∧xo a b≤4294967295:=bounds_u32 (wf_bits .xor .u32 a b)

def phS (s:Ph):Ph:=
 ⟨(s.k0+2654435769)%4294967296,(s.k1+3144134277)%4294967296,
  xo (xo (s.c2*3449720151 / 4294967296) s.c1) s.k0,s.c2*3449720151%4294967296,
  xo (xo (s.c0*3528531795 / 4294967296) s.c3) s.k1,s.c0*3528531795%4294967296⟩

def phN (s:Ph):Nat→Ph
 | 0=>s
 | k+1=>phS (phN s k)

theorem phS_word {s:Ph} (h:PhW s):PhW (phS s):=by
 unfold phS
 exact ⟨by dsimp only;omega,by dsimp only;omega,xo_bd _ _,by dsimp only;omega,xo_bd _ _,by dsimp only;omega⟩

theorem phN_word {s:Ph} (h:PhW s):∀ k,PhW (phN s k)
 | 0=>h
 | k+1=>phS_word (phN_word h k)

def phV (s:Ph):Value:=.agg #[.int .u32 s.c0,.int .u32 s.c1,.int .u32 s.c2,.int .u32 s.c3]

def phA (seed stream n:Int):Ph:=⟨seed%4294967296,seed / 4294967296,n / 4%4294967296,n / 4 / 4294967296,stream,0⟩

def phAt (s:Ph) (i:Int):Int:=if i=0 then s.c0 else if i=1 then s.c1 else if i=2 then s.c2 else s.c3

def phWord (seed stream n:Int):Int:=phAt (phN (phA seed stream n) 10) (n%4)

theorem phA_word (seed stream n:Int) (h0:0≤seed) (h1:seed≤18446744073709551615) (s0:0≤stream) (s1:stream≤4294967295) (n0:0≤n) (n1:n≤18446744073709551615):PhW (phA seed stream n):=by
 unfold phA
 exact ⟨by dsimp only;omega,by dsimp only;omega,by dsimp only;omega,by dsimp only;omega,⟨s0,s1⟩,by dsimp only;omega⟩

theorem phAt_bd {s:Ph} (h:PhW s) (i:Int):0≤phAt s i∧phAt s i≤4294967295:=by
 unfold phAt
 have:=h.b0;have:=h.b1;have:=h.b2;have:=h.b3
 (repeat' split) <;> omega

theorem phWord_bd (seed stream n:Int) (h0:0≤seed) (h1:seed≤18446744073709551615) (s0:0≤stream) (s1:stream≤4294967295) (n0:0≤n) (n1:n≤18446744073709551615):0≤phWord seed stream n∧phWord seed stream n≤4294967295:=
 phAt_bd (phN_word (phA_word seed stream n h0 h1 s0 s1 n0 n1) 10) _
end Go.Proofs.YtpjpmmiepfoiaaaGreat
