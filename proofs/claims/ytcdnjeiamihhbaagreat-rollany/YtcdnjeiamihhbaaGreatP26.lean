/- P26 -/
import Derived.Test.YtcdnjeiamihhbaaGreatP25
set_option linter.unusedVariables false
set_option maxRecDepth 4000
open Go.Proofs.Tryz
namespace Go.Proofs.YtcdnjeiamihhbaaGreat
open Go.RowKit
section
def Qal (zs:List Zn):Nat->List Int
 | 0=>[]
 | k+1=>if 2<=k/\0<(atZ zs (k:Nat)).1.length then Qal zs k ++ [(k:Int)] else Qal zs k
theorem Qdb (zs:List Zn):∀k,(Qal zs k).length<=k
 | 0=>Nat.le_refl _
 | k+1=>by
  have:=Qdb zs k;unfold Qal;split
  ·rw [List.length_append,List.length_singleton]
   omega
  ·omega
theorem Qfg (zs:List Zn):Qal zs 2=[]:=by
 unfold Qal Qal Qal;rw [if_neg (by omega),if_neg (by omega)]
theorem Qhc {zs:List Zn} {k:Nat} (h:2<=k) (h2:0<(atZ zs (k:Nat)).1.length):Qal zs (k+1)=Qal zs k ++ [(k:Int)]:=by
 show (if _ then _ else _)=_;rw [if_pos ⟨h,h2⟩]
theorem Qjd {zs:List Zn} {k:Nat} (h2:(atZ zs (k:Nat)).1.length=0):Qal zs (k+1)=Qal zs k:=by
 show (if _ then _ else _)=_;rw [if_neg (by omega)]
theorem Tryz.shape_o (z zb b r:Value):∀w:World,(Instr.field 23 (.agg #[z,zb,b,r]) 0).run prog w=.ok z w:=λ _=>by kernel_rfl
section
variable {O:Nat->Prop} {W:World} {p:Nat} {s:Sh} {zs:List Zn}
set_option maxHeartbeats 2000000 in
theorem Qx2 (hd:Dv 98 O W p s zs) (hw:Wf s zs) :
  Calls prog 62 #[.pointer (some ⟨p,0,none⟩)] W λ e w'=>∃A n C,e=.returned (.slice A n C)/\w'.ownsRow W.heap.size 3 1 (.slice A n C) n (Qaj .i64 (Qal zs zs.length))/\n=(Qal zs zs.length).length/\Below W.heap.size W w':=by
 obtain ⟨Z,hZ⟩:∃Z:Nat,s.z=Z:=⟨s.z.toNat,by have:=hw.right.1;omega⟩
 have hZl:zs.length=Z:=by have:=hw.len;omega
 have hZ6:6<=Z/\Z<=256:=by have:=hw.right.1;have:=hw.right.2.1;omega
 have HSh:Hid (∀V,Below W.heap.size W V->Calls prog 72 #[.pointer (some ⟨p,0,none⟩)] V λ e w'=>e=.returned (.agg #[.int .i64 (Z:Nat),.int .i64 s.zb,.int .i64 s.b,.int .i64 s.r])/\Below V.heap.size V w'):=λ V hV=>by rw [<-hZ];exact Qdf (hd.later hV)
 have HAt:Hid (∀V (z:Nat),Below W.heap.size W V->Calls prog 129 #[.pointer (some ⟨p,0,none⟩),.int .i64 (z:Nat)] V λ e w'=>∃d,e=.returned (.tuple #[.int .i64 ((atZ zs (z:Nat)).1.length:Nat),.int .i64 d])/\Below V.heap.size V w'):=λ V z hV=>by
  refine (Q2a (z:Nat) (hd.later hV)).mono ?_
  rintro e w' ⟨rfl,hb⟩;exact ⟨_,rfl,hb⟩
 have hfn:=Tryz.shape_o (.int .i64 (Z:Nat)) (.int .i64 s.zb) (.int .i64 s.b) (.int .i64 s.r);rw [hZl];clear hd hw hZ hZl;go_enter func62,ntmps62
 go_wp2_with fail
 go_loopw [3,4] (λ v x wr=>∃(k n C:Nat) (A:Option Addr),x=.int .i64 k/\v=.slice A n C/\2<=k/\k<=Z/\n=(Qal zs k).length/\wr.ownsRow W.heap.size 3 1 (.slice A n C) n (Qaj .i64 (Qal zs k))/\Below W.heap.size W wr) (λ _ x _=>Z - (intOf x).toNat)
 case atStart=>exact ⟨2,0,0,none,rfl,rfl,Nat.le_refl _,by omega,by rw [Qfg];rfl,by rw [Qfg];exact World.ownsRow_nil _ _ _ _,Below.refl _ _⟩
 case round=>
  obtain ⟨k,n,C,A,rfl,rfl,h2,hk,hn,ow,hb⟩:=hrel;have hnk:=Qdb zs k;rcases Nat.lt_or_ge k Z with hlt | hge
  ·have hk':(k:Int)<Z:=by omega
   have hwk:IntKind.i64.wrap ((k:Int)+1)=(k:Int)+1:=by rw [IntKind.wrap_i64];omega
   obtain ⟨L,hL⟩:∃L,L=(atZ zs (k:Nat)).1.length:=⟨_,rfl⟩
   have H0:Hid (Below W.heap.size W wr/\wr.ownsRow W.heap.size 3 1 (.slice A n C) n (Qaj .i64 (Qal zs k))/\n<=k/\2<=k/\k<=256/\n=(Qal zs k).length):=⟨hb,ow,by omega,h2,by omega,hn⟩
   have HA:Hid (∀V,Below W.heap.size W V->Calls prog 129 #[.pointer (some ⟨p,0,none⟩),.int .i64 (k:Nat)] V λ e w'=>∃d,e=.returned (.tuple #[.int .i64 (L:Nat),.int .i64 d])/\Below V.heap.size V w'):=λ V hV=>by rw [hL];exact HAt.out V k hV
   clear hb ow hn hnk;by_cases h0:L=0
   ·have hn0:¬(0:Int)<(L:Int):=by omega
    have HF:Hid (Qal zs (k+1)=Qal zs k):=Qjd (by omega);clear h0 hL;go_wp2_with (first
     | (go_at_call 72;refine (HSh.out _ H0.out.1).mono ?_;rintro e w1 ⟨rfl,hb1⟩;have hbW1:=H0.out.1.trans (hb1.mono H0.out.1.size))
     | (go_at_call 129;refine (HA.out _ hbW1).mono ?_;rintro e w2 ⟨d,rfl,hb2⟩))
    have hb12:=hb1.trans (hb2.mono hb1.size);exact ⟨⟨k+1,n,C,A,by simp,rfl,by omega,by omega,by rw [HF.out];exact (Jz5 H0),by rw [HF.out];exact Qbx (J2 H0) hb12 (Nat.le_refl _),H0.out.1.trans (hb12.mono H0.out.1.size)⟩,by simp [intOf];omega⟩
   ·have hn0:(0:Int)<(L:Int):=by omega
    have HF:Hid (Qal zs (k+1)=Qal zs k ++ [(k:Int)]):=Qhc h2 (by omega);clear h0 hL;go_wp2_with (first
     | (go_at_call 72;refine (HSh.out _ H0.out.1).mono ?_;rintro e w1 ⟨rfl,hb1⟩;have hbW1:=H0.out.1.trans (hb1.mono H0.out.1.size))
     | (go_at_call 129;refine (HA.out _ hbW1).mono ?_;rintro e w2 ⟨d,rfl,hb2⟩;have hb12:=(hb1.trans (hb2.mono hb1.size)).trans ((Qbg w2 (.cells #[.int .i64 (k:Nat)] 3)).mono (Nat.le_trans hb1.size hb2.size));have ow2:=Qbx (J2 H0) hb12 (Nat.le_refl _);obtain ⟨a9,c9,w9,e9,o9,b9,_⟩:=Qxw (ty:=103) Tryz.underlying103 Tryz.zero_int rfl (by decide) W.heap.size A n C _ ow2 w2.heap.size 1 (.int .i64 (k:Nat)) (World.cell?_alloc_mark ..) rfl (by have h1:=(J3 H0);have h2:=(J5 H0);omega) (Nat.le_trans H0.out.1.size hb12.size))
     | (at_builtin;refine Qag rfl _ _ 103 103 rfl _ _ rfl rfl _ _ e9 ?_))
    have HZ:Hid (w9.ownsRow W.heap.size 3 1 (.slice a9 (n+1) c9) (n+1) (Qaj .i64 (Qal zs (k+1)))/\Below W.heap.size W w9/\n+1=(Qal zs (k+1)).length):=⟨by rw [HF.out];simpa [Qaj] using o9,(H0.out.1.trans (hb12.mono H0.out.1.size)).trans b9,by rw [HF.out,List.length_append,<-(Jz5 H0)];rfl⟩
    clear e9 o9 b9 ow2 hb12;first
     | exact ⟨⟨k+1,n+1,c9,a9,by simp,rfl,by omega,by omega,(Jz2 HZ),HZ.out.1,(J2 HZ)⟩,by simp [intOf];omega⟩
     | trace_state
  ·obtain rfl:k=Z:=by omega
   have hk':¬(k:Int)<k:=by omega
   have HF:=Jh3 ow hn hb;clear ow hn hb;go_wp2_with (go_at_call 72;refine (HSh.out _ (Jz2 HF)).mono ?_;rintro e w1 ⟨rfl,hb1⟩)
   go_ret
   exact ⟨A,n,C,rfl,Qbx HF.out.1 hb1 (Nat.le_refl _),(J2 HF),(Jz2 HF).trans (hb1.mono (Jz2 HF).size)⟩
end
end
end Go.Proofs.YtcdnjeiamihhbaaGreat
namespace Go.Proofs.YtcdnjeiamihhbaaGreat
open Go.Shelf Go.RowKit Go.Lib Go.Sort
def Tryz.sortO_ren:Go.Shelf.Ren:=⟨fun | 6=>124 | 15=>148 | 14=>194 | 28=>222 | 29=>223 | 20=>240 | 21=>241 | 22=>242 | 23=>243 | 24=>244 | 25=>245 | 26=>246 | 27=>247 | 46=>269 | 47=>262 | 48=>263 | 49=>270 | 50=>271 | 57=>286 | n=>n,fun | 22=>126 | 24=>179 | 25=>215 | 3=>3 | 39=>236 | 0=>0 | 53=>70 | 55=>45 | 4=>4 | 46=>292 | 45=>291 | 50=>143 | 5=>5 | 9=>9 | 66=>325 | 70=>328 | 76=>344 | 77=>183 | n=>n,fun | n=>n⟩
theorem Tryz.sortO:Go.Proofs.SlLaysF0.n6 prog Tryz.sortO_ren:={
 mixed:=by kernel_rfl,
 f6:=⟨Tryz.f124.name,by decide,func124.trans (congrArg some (by kernel_rfl))⟩,
 f14:=⟨Tryz.f194.name,by decide,func194.trans (congrArg some (by kernel_rfl))⟩,
 f15:=func148.trans (congrArg some (by kernel_rfl)),
 f20:=⟨Tryz.f240.name,by decide,func240.trans (congrArg some (by kernel_rfl))⟩,
 f21:=⟨Tryz.f241.name,by decide,func241.trans (congrArg some (by kernel_rfl))⟩,
 f22:=⟨Tryz.f242.name,by decide,func242.trans (congrArg some (by kernel_rfl))⟩,
 f23:=⟨Tryz.f243.name,by decide,func243.trans (congrArg some (by kernel_rfl))⟩,
 f24:=⟨Tryz.f244.name,by decide,func244.trans (congrArg some (by kernel_rfl))⟩,
 f25:=⟨Tryz.f245.name,by decide,func245.trans (congrArg some (by kernel_rfl))⟩,
 f26:=⟨Tryz.f246.name,by decide,func246.trans (congrArg some (by kernel_rfl))⟩,
 f27:=⟨Tryz.f247.name,by decide,func247.trans (congrArg some (by kernel_rfl))⟩,
 f28:=func222.trans (congrArg some (by kernel_rfl)),
 f29:=func223.trans (congrArg some (by kernel_rfl)),
 f46:=⟨Tryz.f269.name,by decide,func269.trans (congrArg some (by kernel_rfl))⟩,
 f47:=func262.trans (congrArg some (by kernel_rfl)),
 f48:=func263.trans (congrArg some (by kernel_rfl)),
 f49:=⟨Tryz.f270.name,by decide,func270.trans (congrArg some (by kernel_rfl))⟩,
 f50:=⟨Tryz.f271.name,by decide,func271.trans (congrArg some (by kernel_rfl))⟩,
 f57:=⟨Tryz.f286.name,by decide,func286.trans (congrArg some (by kernel_rfl))⟩,
 t0:=Tryz.underlying0,
 a0:=Tryz.isAgg0,
 z0:=Tryz.sizeOf0,
 v0:=Tryz.zeroValue0,
 t3:=Tryz.underlying3,
 a3:=Tryz.isAgg3,
 z3:=Tryz.sizeOf3,
 v3:=Tryz.zeroValue3,
 t4:=Tryz.underlying4,
 a4:=Tryz.isAgg4,
 z4:=Tryz.sizeOf4,
 v4:=Tryz.zeroValue4,
 t5:=Tryz.underlying5,
 a5:=Tryz.isAgg5,
 z5:=Tryz.sizeOf5,
 v5:=Tryz.zeroValue5,
 t9:=Tryz.underlying9,
 a9:=Tryz.isAgg9,
 z9:=Tryz.sizeOf9,
 v9:=Tryz.zeroValue9,
 t22:=Tryz.underlying126,
 a22:=Tryz.isAgg126,
 z22:=Tryz.sizeOf126,
 v22:=Tryz.zeroValue126,
 t25:=Tryz.underlying215,
 a25:=Tryz.isAgg215,
 z25:=Tryz.sizeOf215,
 v25:=Tryz.zeroValue215,
 t39:=Tryz.underlying236,
 a39:=Tryz.isAgg236,
 z39:=Tryz.sizeOf236,
 v39:=Tryz.zeroValue236,
 t45:=Tryz.underlying291,
 a45:=Tryz.isAgg291,
 z45:=Tryz.sizeOf291,
 v45:=Tryz.zeroValue291,
 t46:=Tryz.underlying292,
 a46:=Tryz.isAgg292,
 z46:=Tryz.sizeOf292,
 v46:=Tryz.zeroValue292,
 t50:=Tryz.underlying143,
 a50:=Tryz.isAgg143,
 z50:=Tryz.sizeOf143,
 v50:=Tryz.zeroValue143,
 t53:=Tryz.underlying70,
 a53:=Tryz.isAgg70,
 z53:=Tryz.sizeOf70,
 v53:=Tryz.zeroValue70,
 t55:=Tryz.underlying45,
 a55:=Tryz.isAgg45,
 z55:=Tryz.sizeOf45,
 v55:=Tryz.zeroValue45,
 t66:=Tryz.underlying325,
 a66:=Tryz.isAgg325,
 z66:=Tryz.sizeOf325,
 v66:=Tryz.zeroValue325,
 t70:=Tryz.underlying328,
 a70:=Tryz.isAgg328,
 z70:=Tryz.sizeOf328,
 v70:=Tryz.zeroValue328,
 t76:=Tryz.underlying344,
 a76:=Tryz.isAgg344,
 z76:=Tryz.sizeOf344,
 v76:=Tryz.zeroValue344,
 t77:=Tryz.underlying183,
 a77:=Tryz.isAgg183,
 z77:=Tryz.sizeOf183,
 v77:=Tryz.zeroValue183}
end Go.Proofs.YtcdnjeiamihhbaaGreat
namespace Go.Proofs.YtcdnjeiamihhbaaGreat
open Go.RowKit Go.Sort Go.Lib Go.Shelf
structure Fo where
 s:Int
 a:Option Addr
 m:Nat
 c:Nat
 z:Int
 b:Int
instance:Inhabited Fo:=⟨⟨0,none,0,0,0,0⟩⟩
def foL (f:Fo):List Value:=[.int .u64 f.s,.slice f.a f.m f.c,.int .i64 f.z,.int .i64 f.b]
def ltO (x y:Fo):Bool:=decide (x.s<y.s\/(x.s=y.s/\(x.z<y.z\/(x.z=y.z/\x.b<y.b))))
def cfO (x y:Fo):Int:=orZ (cmpZ x.s y.s) (orZ (cmpZ x.z y.z) (cmpZ x.b y.b))
theorem Qhs (x y:Int):(x<y/\cmpZ x y = -1)\/(y<x/\cmpZ x y=1)\/(x=y/\cmpZ x y=0):=by
 unfold cmpZ;by_cases h1:x<y
 ·exact .inl ⟨h1,by simp [h1]⟩
 ·by_cases h2:y<x
  ·exact .inr (.inl ⟨h2,by simp [h1,h2]⟩)
  ·exact .inr (.inr ⟨by omega,by simp [h1,h2]⟩)
theorem Qp7 (x y:Fo):ltOf cfO x y=ltO x y:=by
 unfold ltOf cfO ltO;rcases Qhs x.s y.s with ⟨h,e⟩ | ⟨h,e⟩ | ⟨h,e⟩
 ·rw [e];unfold orZ;simp [h]
 ·rw [e]
  have h1:¬x.s<y.s:=by omega
  have h2:¬x.s=y.s:=by omega
  unfold orZ;simp [h1,h2]
 ·rw [e]
  rcases Qhs x.z y.z with ⟨h',e'⟩ | ⟨h',e'⟩ | ⟨h',e'⟩
  ·rw [e'];unfold orZ;simp [h,h']
  ·rw [e']
   have h1:¬x.z<y.z:=by omega
   have h2:¬x.z=y.z:=by omega
   unfold orZ;simp [h,h1,h2]
  ·rw [e']
   rcases Qhs x.b y.b with ⟨h2,e2⟩ | ⟨h2,e2⟩ | ⟨h2,e2⟩
   ·rw [e2];unfold orZ;simp [h,h',h2]
   ·rw [e2]
    have h1:¬x.b<y.b:=by omega
    unfold orZ;simp [h,h',h1]
   ·rw [e2]
    have h1:¬x.b<y.b:=by omega
    unfold orZ;simp [h,h',h1]
theorem Q12 (x y:Fo):ltO x y=true↔(x.s<y.s\/(x.s=y.s/\(x.z<y.z\/(x.z=y.z/\x.b<y.b)))):=by
 unfold ltO;exact decide_eq_true_iff
theorem Quf (x y:Fo):ltO x y=false↔¬(x.s<y.s\/(x.s=y.s/\(x.z<y.z\/(x.z=y.z/\x.b<y.b)))):=by
 unfold ltO;exact decide_eq_false_iff_not
theorem swoO:SWO (ltOf cfO) where
 irrefl x:=by rw [Qp7,Quf];omega
 trans x y z h1 h2:=by rw [Qp7,Q12] at *;omega
 ntrans x y z h1 h2:=by rw [Qp7,Quf] at *;omega
theorem Q25 (a b c:Int) (g:Nat) (w:World) (h0:w.cell? ⟨g,0,none⟩=some (.int .i64 a)) (h1:w.cell? ⟨g,1,none⟩=some (.int .i64 b)) (h2:w.cell? ⟨g,2,none⟩=some (.int .i64 c)):Calls prog 149 #[.slice (some ⟨g,0,none⟩) 3 3] w λ e w'=>e=.returned (.int .i64 (orZ a (orZ b c)))/\w'=w:=by
 by_cases ha:a=0
 ·subst ha
  by_cases hb:b=0
  ·subst hb
   by_cases hc:c=0
   ·subst hc
    go_enter func149,ntmps149
    go_wp2
    refine wp_loop_rounds 4 ?_
    rw [rounds_succ];go_wp2;rw [rounds_succ];go_wp2;rw [rounds_succ];go_wp2;rw [rounds_succ];go_wp2;go_ret
    exact ⟨rfl,rfl⟩
   ·go_enter func149,ntmps149
    go_wp2
    refine wp_loop_rounds 4 ?_
    rw [rounds_succ];go_wp2;rw [rounds_succ];go_wp2;rw [rounds_succ];go_wp2;go_ret
    exact ⟨by simp [orZ],rfl⟩
  ·have e:orZ 0 (orZ b c)=b:=by unfold orZ;simp [hb]
   rw [e];go_enter func149,ntmps149
   go_wp2
   refine wp_loop_rounds 4 ?_
   rw [rounds_succ];go_wp2;rw [rounds_succ];go_wp2;go_ret
   exact ⟨rfl,rfl⟩
 ·have e:orZ a (orZ b c)=a:=by unfold orZ;simp [ha]
  rw [e];go_enter func149,ntmps149
  go_wp2
  refine wp_loop_rounds 4 ?_
  rw [rounds_succ];go_wp2;go_ret
  exact ⟨rfl,rfl⟩
set_option maxHeartbeats 2000000 in
theorem Q13 (x y:Fo) (W:World):Calls prog 125 #[.agg (foL x).toArray,.agg (foL y).toArray] W λ e w'=>e=.returned (.int .i64 (cfO x y))/\∃q os',w'=grow (W.drewN q) os':=by
 obtain ⟨xs,xa,xm,xc,xz,xb⟩:=x;obtain ⟨ys,ya,ym,yc,yz,yb⟩:=y;show Calls prog 125 #[.agg #[.int .u64 xs,.slice xa xm xc,.int .i64 xz,.int .i64 xb],.agg #[.int .u64 ys,.slice ya ym yc,.int .i64 yz,.int .i64 yb]] W _;have C0:=λ a b X=>Q22 a b X
 have C1:=λ a b X=>Qqg a b X
 have C2:∀a b c g X,X.cell? ⟨g,0,none⟩=some (.int .i64 a)->X.cell? ⟨g,1,none⟩=some (.int .i64 b)->X.cell? ⟨g,2,none⟩=some (.int .i64 c)->Calls prog 149 #[.slice (some ⟨g,0,none⟩) 3 3] X λ e w'=>e=.returned (.int .i64 (orZ a (orZ b c)))/\w'=X:=λ a b c g X h0 h1 h2=>Q25 a b c g X h0 h1 h2
 have k1:Blk ((W.alloc (.cells #[.int .u64 xs,.slice xa xm xc,.int .i64 xz,.int .i64 xb] 179)).alloc (.cells #[.int .u64 ys,.slice ya ym yc,.int .i64 yz,.int .i64 yb] 179)) W.heap.size [.int .u64 xs,.slice xa xm xc,.int .i64 xz,.int .i64 xb] 179:=(Blk.new' rfl rfl).alloc _;have k2:Blk ((W.alloc (.cells #[.int .u64 xs,.slice xa xm xc,.int .i64 xz,.int .i64 xb] 179)).alloc (.cells #[.int .u64 ys,.slice ya ym yc,.int .i64 yz,.int .i64 yb] 179)) (W.heap.size+1) [.int .u64 ys,.slice ya ym yc,.int .i64 yz,.int .i64 yb] 179:=Blk.new' (by simp) rfl;have c0:((W.alloc (.cells #[.int .u64 xs,.slice xa xm xc,.int .i64 xz,.int .i64 xb] 179)).alloc (.cells #[.int .u64 ys,.slice ya ym yc,.int .i64 yz,.int .i64 yb] 179)).cell? ⟨W.heap.size,0,none⟩=some (.int .u64 xs):=k1.cell 0;have c2:((W.alloc (.cells #[.int .u64 xs,.slice xa xm xc,.int .i64 xz,.int .i64 xb] 179)).alloc (.cells #[.int .u64 ys,.slice ya ym yc,.int .i64 yz,.int .i64 yb] 179)).cell? ⟨W.heap.size,2,none⟩=some (.int .i64 xz):=k1.cell 2;have c3:((W.alloc (.cells #[.int .u64 xs,.slice xa xm xc,.int .i64 xz,.int .i64 xb] 179)).alloc (.cells #[.int .u64 ys,.slice ya ym yc,.int .i64 yz,.int .i64 yb] 179)).cell? ⟨W.heap.size,3,none⟩=some (.int .i64 xb):=k1.cell 3;have d0:((W.alloc (.cells #[.int .u64 xs,.slice xa xm xc,.int .i64 xz,.int .i64 xb] 179)).alloc (.cells #[.int .u64 ys,.slice ya ym yc,.int .i64 yz,.int .i64 yb] 179)).cell? ⟨W.heap.size+1,0,none⟩=some (.int .u64 ys):=k2.cell 0;have d2:((W.alloc (.cells #[.int .u64 xs,.slice xa xm xc,.int .i64 xz,.int .i64 xb] 179)).alloc (.cells #[.int .u64 ys,.slice ya ym yc,.int .i64 yz,.int .i64 yb] 179)).cell? ⟨W.heap.size+1,2,none⟩=some (.int .i64 yz):=k2.cell 2;have d3:((W.alloc (.cells #[.int .u64 xs,.slice xa xm xc,.int .i64 xz,.int .i64 xb] 179)).alloc (.cells #[.int .u64 ys,.slice ya ym yc,.int .i64 yz,.int .i64 yb] 179)).cell? ⟨W.heap.size+1,3,none⟩=some (.int .i64 yb):=k2.cell 3;clear k1 k2;go_enter func125,ntmps125
 go_wp2
 go_region_held3 (λ V=>V.cell? ⟨W.heap.size,0,none⟩=some (.int .u64 xs)/\V.cell? ⟨W.heap.size,2,none⟩=some (.int .i64 xz)/\V.cell? ⟨W.heap.size,3,none⟩=some (.int .i64 xb)/\V.cell? ⟨W.heap.size+1,0,none⟩=some (.int .u64 ys)/\V.cell? ⟨W.heap.size+1,2,none⟩=some (.int .i64 yz)/\V.cell? ⟨W.heap.size+1,3,none⟩=some (.int .i64 yb)) (first | exact ⟨c0,c2,c3,d0,d2,d3⟩ | (refine ⟨?_,?_,?_,?_,?_,?_⟩ <;> go_simp))
  (first
  | (go_simp;go_at_call 195;refine (C0 _ _ _).mono ?_;rintro e w2 ⟨rfl,hw2⟩;replace hw2:=hw2.symm;subst hw2)
  | (go_simp;go_at_call 151;refine (C1 _ _ _).mono ?_;rintro e w2 ⟨rfl,hw2⟩;replace hw2:=hw2.symm;subst hw2)
  | (go_simp;go_at_call 149;refine (C2 (cmpZ xs ys) (cmpZ xz yz) (cmpZ xb yb) _ _ (by go_simp) (by go_simp) (by go_simp)).mono ?_;rintro e w2 ⟨rfl,hw2⟩;replace hw2:=hw2.symm;subst hw2))
 all_goals go_wp2
 all_goals go_ret
 all_goals exact ⟨rfl,1,_,by rw [alloc_eq_grow,alloc_eq_grow,alloc_eq_grow,grow_grow,grow_grow];rfl⟩
theorem Qvy (blk off size:Nat) (w:World):CmpLays prog 125 #[] foL 4 cfO blk off size w:=λ _ _ _ _ x y=>Q13 x y _
theorem Qqs (blk cap:Nat) (d:Array Fo) (w:World) (hH:HoldsK foL 4 w blk 0 d) (hb:blk<w.heap.size) (hs:d.size<1000000) :
  Calls prog 124 #[.slice (some ⟨blk,0,none⟩) d.size cap,.func (.func 125) #[] #[]] w λ e w'=>e=.returned (.tuple #[])/\∃d' n os,PermIn 0 d.size d d'/\SortedIn (ltOf cfO) 0 d.size d'/\w'=sortWorldK foL 4 w blk 0 n d' os:=
 AnyQ.slices_SortFunc Tryz.sortO 4 Tryz.isAgg179 Tryz.sizeOf179 foL (λ _=>rfl) (λ x v hv=>by simp [foL] at hv;rcases hv with rfl | rfl | rfl | rfl <;> rfl) cfO swoO 125 #[] blk 0 cap d w (enters_of func125 (by kernel_rfl) rfl) (Qvy blk 0 d.size w) hH hb (by omega)
end Go.Proofs.YtcdnjeiamihhbaaGreat
namespace Go.Proofs.YtcdnjeiamihhbaaGreat
open Go.RowKit
section
def entS (z:Int):List Pl->Int->List It->List Pl
 | P,b,[]=>P
 | P,b,x :: X=>if x.k=2 then entS z (Qax P (x.t,x.b)) b X else entS z (putS P ((x.t,x.b),(z,b+1))) (b+1) X
theorem Qip {z b:Int} {P:List Pl} {x:It} {X:List It} (h:x.k=2):entS z P b (x :: X)=entS z (Qax P (x.t,x.b)) b X:=by
 show (if _ then _ else _)=_;rw [if_pos h]
theorem Qmi {z b:Int} {P:List Pl} {x:It} {X:List It} (h:x.k≠2):entS z P b (x :: X)=entS z (putS P ((x.t,x.b),(z,b+1))) (b+1) X:=by
 show (if _ then _ else _)=_;rw [if_neg h]
section
variable {W:World}
set_option maxHeartbeats 4000000 in
theorem Qun (S:Int) (z b:Nat) (A:Option Addr) (n C:Nat) (X:List It) (m b1 b2:Nat) (P:List Pl) (c:Nat) (hX:ItsIn W A n X) (hXb:n≠0->∀y,A.map (·.block)=some y->y≠b1/\y≠b2) (hm:LmP W m b1 b2 P c) (hz:z<=10000) (hb:b<=10000) (hn:n<=10000) (hc:c+n<=90000) :
  Calls prog 126 #[.agg #[.int .u64 S,.slice A n C,.int .i64 (z:Nat),.int .i64 (b:Nat)],.pointer (some ⟨m,0,none⟩)] W λ e w'=>e=.returned (.tuple #[])/\LmP w' m b1 b2 (entS z P b X) (c+n)/\Out (Two b1 b2) W w':=by
 obtain ⟨q,hq⟩:∃q,q=W.heap.size:=⟨_,rfl⟩
 have hlt:=hm.lt;have hV0:Out (Two b1 b2) W ((W.alloc (.cells #[.int .u64 S,.slice A n C,.int .i64 (z:Nat),.int .i64 (b:Nat)] 179)).alloc (.cells #[.int .i64 (z:Nat),.int .i64 (b:Nat)] 85))/\Blk ((W.alloc (.cells #[.int .u64 S,.slice A n C,.int .i64 (z:Nat),.int .i64 (b:Nat)] 179)).alloc (.cells #[.int .i64 (z:Nat),.int .i64 (b:Nat)] 85)) (q+1) [.int .i64 (z:Nat),.int .i64 (b:Nat)] 85/\LmP ((W.alloc (.cells #[.int .u64 S,.slice A n C,.int .i64 (z:Nat),.int .i64 (b:Nat)] 179)).alloc (.cells #[.int .i64 (z:Nat),.int .i64 (b:Nat)] 85)) m b1 b2 P c:=⟨((Out.refl _ _).alloc _).alloc _,Blk.new' (by simp [hq]) rfl,(hm.alloc _).alloc _⟩
 have HX:Hid (ItsIn W A n X/\(n≠0->∀y,A.map (·.block)=some y->y≠b1/\y≠b2)/\X.length=n/\z<=10000/\b<=10000/\n<=10000/\c+n<=90000/\q=W.heap.size/\b1<q/\b2<q):=⟨hX,hXb,hX.1,hz,hb,hn,hc,hq,by rw [hq];exact hlt b1 (.inr (.inl rfl)),by rw [hq];exact hlt b2 (.inr (.inr rfl))⟩
 clear hX hXb hm hz hb hn hc hlt;go_enter func126,ntmps126
 go_wp2_with fail
 rw [<-hq];clear hq;generalize World.alloc (World.alloc W _) _=V at hV0 ⊢;have HV:=Jh1 hV0;clear hV0;go_loopw [13] (λ x wr=>∃(k j c':Nat) (P':List Pl),x=.int .i64 k/\k<=n/\j<=b+k/\c'<=c+k/\entS z P b X=entS z P' j (X.drop k)/\LmP wr m b1 b2 P' c'/\Out (Two b1 b2) W wr/\Blk wr (q+1) [.int .i64 (z:Nat),.int .i64 (j:Nat)] 85) (λ x _=>n - (intOf x).toNat)
 case atStart=>exact ⟨0,b,c,P,rfl,Nat.zero_le _,Nat.le_refl _,Nat.le_refl _,rfl,(Jz2 HV),HV.out.1,(J2 HV)⟩
 case round=>
  obtain ⟨k,j,c',P',rfl,hk,hj,hc',he,hm,ho,hbk⟩:=hrel;obtain ⟨-,-,hxl,hz5,hb5,hn5,hc5,-,hq1,hq2⟩:=HX.out;rcases Nat.lt_or_ge k n with hlt | hge
  ·have hk':(k:Int)<n:=by omega
   have hwk:IntKind.i64.wrap ((k:Int)+1)=(k:Int)+1:=by rw [IntKind.wrap_i64];omega
   have hwj:IntKind.i64.wrap ((j:Int)+1)=(j:Int)+1:=by rw [IntKind.wrap_i64];omega
   obtain ⟨x,hx⟩:∃x,X[k]?=some x:=⟨X[k]'(by omega),by simp⟩
   have hits:=HX.out.1.outO ho (λ h0 y hy hT=>by
    have:=(J2 HX) h0 y hy;rcases hT with h | h
    ·exact this.1 h
    ·exact this.2 h)
   have hfx:=hits.2.2.1 x (List.mem_of_getElem? hx);obtain ⟨bb,off,hA,hc⟩:=hits.2.2.2.resolve_left (by omega);subst hA;obtain ⟨t,u,kd,sm,en⟩:=x;have y0:wr.cell? ⟨bb,off+k*5+0,none⟩=some (.int .u32 t):=hc k _ hx 0 _ rfl;have y1:wr.cell? ⟨bb,off+k*5+1,none⟩=some (.int .u64 u):=hc k _ hx 1 _ rfl;have y2:wr.cell? ⟨bb,off+k*5+2,none⟩=some (.int .u8 kd):=hc k _ hx 2 _ rfl;have y3:wr.cell? ⟨bb,off+k*5+3,none⟩=some (.int .u32 sm):=hc k _ hx 3 _ rfl;have y4:wr.cell? ⟨bb,off+k*5+4,none⟩=some (.int .u16 en):=hc k _ hx 4 _ rfl;simp only [Nat.add_zero] at y0
   have hdr:X.drop k=⟨t,u,kd,sm,en⟩ :: X.drop (k+1):=by
    obtain ⟨h,e⟩:=List.getElem?_eq_some_iff.1 hx;rw [List.drop_eq_getElem_cons h,e]
   have a0:∀o,(wr.alloc o).cell? ⟨q+1,0,none⟩=some (.int .i64 (z:Nat)):=λ o=>(hbk.alloc o).cell 0
   have a1:∀o,(wr.alloc o).cell? ⟨q+1,1,none⟩=some (.int .i64 (j:Nat)):=λ o=>(hbk.alloc o).cell 1
   have z1:∀o,(wr.alloc o).frozen? ⟨q+1,1,none⟩=false:=λ o=>(hbk.alloc o).frozen 1
   have hfn:Qel (t,u):=⟨hfx.1,hfx.2.1⟩
   have HK:Hid (entS z P b X=entS z P' j (⟨t,u,kd,sm,en⟩ :: X.drop (k+1))/\LmP wr m b1 b2 P' c'/\Out (Two b1 b2) W wr/\Blk wr (q+1) [.int .i64 (z:Nat),.int .i64 (j:Nat)] 85/\Qel (t,u)/\q+1<wr.heap.size):=⟨by rw [he,hdr],hm,ho,hbk,hfn,hbk.lt⟩
   clear he hm ho hbk hits hfx hc hx hdr hfn;by_cases hkd:kd=2
   ·have HKd:=Jh1 hkd
    have hne:(kd == 2)=true:=by rw [hkd];rfl
    clear hkd;have HD:Hid (∀o,Calls prog 140 #[.pointer (some ⟨m,0,none⟩),.int .u32 t,.int .u64 u] (wr.alloc o) λ e w'=>∃bl,e=.returned (.bool bl)/\LmP w' m b1 b2 (Qax P' (t,u)) c'/\Out (Two b1 b2) W w'/\Blk w' (q+1) [.int .i64 (z:Nat),.int .i64 (j:Nat)] 85):=λ o=>by
     refine (Qrv m b1 b2 P' c' (t,u) (wr.alloc o) ((J2 HK).alloc o) (J5 HK)).mono ?_
     rintro e w' ⟨rfl,h1,h2⟩;refine ⟨_,rfl,h1,((J3 HK).alloc o).trans h2 (λ j hj=>.inl hj),h2.blk ((J4 HK).alloc o) (λ hT=>?_)⟩
     rcases hT with h | h <;> omega
    go_wp2_with (go_at_call 140;refine (HD.out _).mono ?_;rintro e w1 ⟨bl,rfl,hm1,ho1,hk1⟩)
    have HZ:Hid (entS z P b X=entS z (Qax P' (t,u)) j (X.drop (k+1))/\LmP w1 m b1 b2 (Qax P' (t,u)) c'/\Out (Two b1 b2) W w1/\Blk w1 (q+1) [.int .i64 (z:Nat),.int .i64 (j:Nat)] 85):=⟨by rw [HK.out.1];exact Qip HKd.out,hm1,ho1,hk1⟩
    clear hm1 ho1 hk1;go_roundw
    case rel=>exact ⟨k+1,j,c',Qax P' (t,u),by simp,by omega,by omega,by omega,HZ.out.1,HZ.out.2⟩
    case measure=>simp [intOf];omega
   ·have HKd:=Jh1 hkd
    have hne:(kd == 2)=false:=by simp [hkd]
    clear hkd;have hg1:∀o,((wr.alloc o).setCell ⟨q+1,1,none⟩ (.int .i64 ((j:Int)+1))).cell? ⟨q+1,0,none⟩=some (.int .i64 (z:Nat)):=λ o=>(((J4 HK).alloc o).set 1 (.int .i64 ((j:Int)+1))).cell 0
    have hg2:∀o,((wr.alloc o).setCell ⟨q+1,1,none⟩ (.int .i64 ((j:Int)+1))).cell? ⟨q+1,1,none⟩=some (.int .i64 ((j:Int)+1)):=λ o=>(((J4 HK).alloc o).set 1 (.int .i64 ((j:Int)+1))).cell 1
    have kx:Blk ((wr.alloc (.cells #[.int .u32 t,.int .u64 u,.int .u8 kd,.int .u32 sm,.int .u16 en] 190)).setCell ⟨q+1,1,none⟩ (.int .i64 ((j:Int)+1))) wr.heap.size [.int .u32 t,.int .u64 u,.int .u8 kd,.int .u32 sm,.int .u16 en] 190:=(Blk.new' rfl rfl).set_other (a:=⟨q+1,1,none⟩) (by show wr.heap.size≠q+1;have:=(Jz5 HK);omega) _;have x0:((wr.alloc (.cells #[.int .u32 t,.int .u64 u,.int .u8 kd,.int .u32 sm,.int .u16 en] 190)).setCell ⟨q+1,1,none⟩ (.int .i64 ((j:Int)+1))).cell? ⟨wr.heap.size,0,none⟩=some (.int .u32 t):=kx.cell 0;have x1:((wr.alloc (.cells #[.int .u32 t,.int .u64 u,.int .u8 kd,.int .u32 sm,.int .u16 en] 190)).setCell ⟨q+1,1,none⟩ (.int .i64 ((j:Int)+1))).cell? ⟨wr.heap.size,1,none⟩=some (.int .u64 u):=kx.cell 1;clear kx;have HP:Hid (∀o,Calls prog 123 #[.pointer (some ⟨m,0,none⟩),.agg #[.int .u32 t,.int .u64 u,.int .i64 (z:Nat),.int .i64 ((j:Int)+1)]] ((wr.alloc o).setCell ⟨q+1,1,none⟩ (.int .i64 ((j:Int)+1))) λ e w'=>e=.returned (.tuple #[])/\LmP w' m b1 b2 (putS P' ((t,u),((z:Int),(j:Int)+1))) (c'+1)/\Out (Two b1 b2) W w'/\Blk w' (q+1) [.int .i64 (z:Nat),.int .i64 ((j:Int)+1)] 85):=λ o=>by
     have hl:=(J2 HK).lt;have ow:=Qdg (wr.alloc o) (q+1) 1 (.int .i64 ((j:Int)+1));have hmm:LmP ((wr.alloc o).setCell ⟨q+1,1,none⟩ (.int .i64 ((j:Int)+1))) m b1 b2 P' c':=((J2 HK).alloc o).out ow (λ k hk e=>by
      rcases hk with h | h | h
      ·subst h;subst e
       have h1:=(J2 HK).hp;have h2:=(J4 HK)
       exact absurd (h1.cell 0 ▸ h2.cell 0:_) (by intro h;have h3:wr.cell? ⟨q+1,0,none⟩=some (.map (some b1)):=h1.cell 0;have h4:wr.cell? ⟨q+1,0,none⟩=some (.int .i64 (z:Nat)):=h2.cell 0;rw [h3] at h4;cases h4)
      ·omega
      ·omega)
     refine (Qmg m b1 b2 P' c' ((t,u),((z:Int),(j:Int)+1)) _ hmm ⟨(J5 HK),by unfold Qj8;unfold I64;simp only;omega⟩ (by omega)).mono ?_
     rintro e w' ⟨rfl,h1,h2⟩;refine ⟨rfl,h1,?_,h2.blk (((J4 HK).alloc o).set 1 _) (λ hT=>?_)⟩
     ·have hW:=(J3 HK).size
      have hqW:=(J8 HX)
      exact (((J3 HK).alloc o).trans ow (λ j hj=>.inr (by omega))).trans h2 (λ j hj=>.inl hj)
     ·rcases hT with h | h <;> omega
    go_wp2_with (go_at_call 123;refine (HP.out _).mono ?_;rintro e w1 ⟨rfl,hm1,ho1,hk1⟩)
    exact ⟨⟨k+1,j+1,c'+1,putS P' ((t,u),((z:Int),(j:Int)+1)),by simp,by omega,by omega,by omega,by rw [HK.out.1];exact Qmi HKd.out,hm1,ho1,hk1⟩,by simp [intOf];omega⟩
  ·obtain rfl:k=n:=by omega
   have HF:Hid (LmP wr m b1 b2 (entS z P b X) (c+k)/\Out (Two b1 b2) W wr):=⟨by rw [he,List.drop_eq_nil_of_le (by omega)];exact hm.mono (by omega),ho⟩
   clear he hm ho hbk;go_wp2
   first | go_end0 | refine bodyPost_ret (results_none rfl _ _ _) rfl ?_
   exact ⟨rfl,HF.out⟩
end
end
section
def folS (X:Fo->List It):Int->List Pl->List Fo->List Pl
 | q,P,[]=>P
 | q,P,f :: l=>if f.s=q then folS X q P l else if f.s=IntKind.u64.wrap (q+1) then folS X (IntKind.u64.wrap (q+1)) (entS f.z P f.b (X f)) l else P
theorem Qex {X:Fo->List It} {q:Int} {P:List Pl} {f:Fo} {l:List Fo} (h:f.s=q):folS X q P (f :: l)=folS X q P l:=by
 show (if _ then _ else _)=_;rw [if_pos h]
theorem Qdz {X:Fo->List It} {q:Int} {P:List Pl} {f:Fo} {l:List Fo} (h:f.s≠q) (h2:f.s=IntKind.u64.wrap (q+1)):folS X q P (f :: l)=folS X (IntKind.u64.wrap (q+1)) (entS f.z P f.b (X f)) l:=by
 show (if _ then _ else _)=_;rw [if_neg h,if_pos h2]
theorem Qe8 {X:Fo->List It} {q:Int} {P:List Pl} {f:Fo} {l:List Fo} (h:f.s≠q) (h2:f.s≠IntKind.u64.wrap (q+1)):folS X q P (f :: l)=P:=by
 show (if _ then _ else _)=_;rw [if_neg h,if_neg h2]
def FoIn (w:World) (A:Option Addr) (n:Nat) (l:List Fo):Prop:=l.length=n/\n<=maxLen/\(n=0\/∃g off,A=some ⟨g,off,none⟩/\∀(i:Nat) (f:Fo),l[i]?=some f->∀(j:Nat) (v:Value),(foL f)[j]?=some v->w.cell? ⟨g,off+i*4+j,none⟩=some v)
theorem FoIn.outO {O:Nat->Prop} {w w':World} {A:Option Addr} {n:Nat} {l:List Fo} (h:FoIn w A n l) (ho:Out O w w') (hn:n≠0->∀y,A.map (·.block)=some y->¬O y):FoIn w' A n l:=by
 obtain ⟨h1,h2,h3⟩:=h;refine ⟨h1,h2,?_⟩
 by_cases h0:n=0
 ·exact .inl h0
 ·obtain ⟨g,off,rfl,hc⟩:=h3.resolve_left h0
  exact .inr ⟨g,off,rfl,λ i f hf j v hv=>ho.cell (hc i f hf j v hv) (hn h0 g rfl)⟩
structure FoOk (W:World) (b1 b2:Nat) (X:Fo->List It) (f:Fo):Prop where
 z:∃z:Nat,f.z=z/\z<=10000
 b:∃b:Nat,f.b=b/\b<=10000
 m:f.m<=220
 it:ItsIn W f.a f.m (X f)
 ne:f.m≠0->∀y,f.a.map (·.block)=some y->y≠b1/\y≠b2
section
variable {W:World}
set_option maxHeartbeats 4000000 in
theorem Qsi (q0:Int) (A:Option Addr) (n C:Nat) (l:List Fo) (X:Fo->List It) (m b1 b2:Nat) (P:List Pl) (c:Nat) (hl:FoIn W A n l) (hlb:n≠0->∀y,A.map (·.block)=some y->y≠b1/\y≠b2) (hf:∀f∈l,FoOk W b1 b2 X f) (hm:LmP W m b1 b2 P c) (hc:c+220*n<=90000) :
  Calls prog 59 #[.pointer (some ⟨m,0,none⟩),.int .u64 q0,.slice A n C] W λ e w'=>e=.returned (.tuple #[])/\LmP w' m b1 b2 (folS X q0 P l) (c+220*n)/\Out (Two b1 b2) W w':=by
 have H:=Jh5 hl hlb hf hl.1 hc;have HV:=Jh1 hm;clear hl hlb hf hm hc;go_enter func59,ntmps59
 go_wp2_with fail
 go_loopw [1,10] (λ v x wr=>∃(k c':Nat) (q':Int) (P':List Pl),x=.int .i64 k/\v=.int .u64 q'/\k<=n/\c'<=c+220*k/\folS X q0 P l=folS X q' P' (l.drop k)/\LmP wr m b1 b2 P' c'/\Out (Two b1 b2) W wr) (λ _ x _=>n - (intOf x).toNat)
 case atStart=>exact ⟨0,c,q0,P,rfl,rfl,Nat.zero_le _,Nat.le_refl _,rfl,HV.out,Out.refl _ _⟩
 case round=>
  obtain ⟨k,c',q',P',rfl,rfl,hk,hc',he,hm,ho⟩:=hrel;obtain ⟨-,-,-,hln,hcn⟩:=H.out;rcases Nat.lt_or_ge k n with hlt | hge
  ·have hk':(k:Int)<n:=by omega
   have hwk:IntKind.i64.wrap ((k:Int)+1)=(k:Int)+1:=by rw [IntKind.wrap_i64];omega
   obtain ⟨q1,hq1⟩:∃q1,IntKind.u64.wrap (q'+1)=q1:=⟨_,rfl⟩
   obtain ⟨f,hfk⟩:∃f,l[k]?=some f:=⟨l[k]'(by omega),by simp⟩
   have hTwo:∀y,(y≠b1/\y≠b2)->¬Two b1 b2 y:=λ y hy hT=>by
    rcases hT with h | h
    ·exact hy.1 h
    ·exact hy.2 h
   have hfo:=H.out.1.outO ho (λ h0 y hy=>hTwo y ((J2 H) h0 y hy));obtain ⟨g,off,hA,hcl⟩:=hfo.2.2.resolve_left (by omega);subst hA;have hok:=(J3 H) f (List.mem_of_getElem? hfk);have hit:=hok.it.outO ho (λ h0 y hy=>hTwo y (hok.ne h0 y hy));have hdr:l.drop k=f :: l.drop (k+1):=by
    obtain ⟨h,e⟩:=List.getElem?_eq_some_iff.1 hfk;rw [List.drop_eq_getElem_cons h,e]
   obtain ⟨fs,fa,fm,fc,fz,fb⟩:=f;obtain ⟨z,hz,hz5⟩:=hok.z;obtain ⟨b,hb,hb5⟩:=hok.b;simp only at hz hb
   subst hz;subst hb;have y0:wr.cell? ⟨g,off+k*4+0,none⟩=some (.int .u64 fs):=hcl k _ hfk 0 _ rfl;have y1:wr.cell? ⟨g,off+k*4+1,none⟩=some (.slice fa fm fc):=hcl k _ hfk 1 _ rfl;have y2:wr.cell? ⟨g,off+k*4+2,none⟩=some (.int .i64 (z:Nat)):=hcl k _ hfk 2 _ rfl;have y3:wr.cell? ⟨g,off+k*4+3,none⟩=some (.int .i64 (b:Nat)):=hcl k _ hfk 3 _ rfl;simp only [Nat.add_zero] at y0
   have HK:Hid (folS X q0 P l=folS X q' P' (⟨fs,fa,fm,fc,z,b⟩ :: l.drop (k+1))/\LmP wr m b1 b2 P' c'/\Out (Two b1 b2) W wr/\ItsIn wr fa fm (X ⟨fs,fa,fm,fc,z,b⟩)/\(fm≠0->∀y,fa.map (·.block)=some y->y≠b1/\y≠b2)/\fm<=220/\z<=10000/\b<=10000/\IntKind.u64.wrap (q'+1)=q1):=⟨by rw [he,hdr],hm,ho,hit,hok.ne,hok.m,hz5,hb5,hq1⟩
   have HE:Hid (∀o,Calls prog 126 #[.agg #[.int .u64 fs,.slice fa fm fc,.int .i64 (z:Nat),.int .i64 (b:Nat)],.pointer (some ⟨m,0,none⟩)] (wr.alloc o) λ e w'=>e=.returned (.tuple #[])/\LmP w' m b1 b2 (entS z P' b (X ⟨fs,fa,fm,fc,z,b⟩)) (c'+220)/\Out (Two b1 b2) W w'):=λ o=>by
    refine (Qun fs z b fa fm fc _ m b1 b2 P' c' ((J4 HK).below (Qbg wr o)) (J5 HK) ((J2 HK).alloc o) (J7 HK) (J8 HK) (by have:=(J6 HK);omega) (by have:=(J6 HK);omega)).mono ?_
    rintro e w' ⟨rfl,h1,h2⟩;exact ⟨rfl,h1.mono (by have:=(J6 HK);omega),((J3 HK).alloc o).trans h2 (λ j hj=>.inl hj)⟩
   clear he hm ho hfo hcl hok hit hdr hfk hTwo hz5 hb5;by_cases h1:fs=q'
   ·have h1':(fs == q')=true:=by simp [h1]
    have HZ:=Jh1 h1;clear h1;go_wp2
    have HR:Hid (folS X q0 P l=folS X q' P' (l.drop (k+1))):=by show _=_;rw [HK.out.1];exact Qex HZ.out
    first
     | exact ⟨⟨k+1,c',q',P',by simp,rfl,by omega,by omega,HR.out,(J2 HK).alloc _,(J3 HK).alloc _⟩,by simp [intOf];omega⟩
     | (go_roundw
        case rel=>exact ⟨k+1,c',q',P',by simp,rfl,by omega,by omega,HR.out,(J2 HK).alloc _,(J3 HK).alloc _⟩
        case measure=>simp [intOf];omega)
   ·have h1':(fs == q')=false:=by simp [h1]
    by_cases h2:fs=q1
    ·have h2':(fs == q1)=true:=by simp [h2]
     have HZ:=Jh2 h1 h2;clear h1 h2;go_wp2_with (go_at_call 126;refine (HE.out _).mono ?_;rintro e w1 ⟨rfl,hm1,ho1⟩)
     have HR:Hid (folS X q0 P l=folS X q1 (entS z P' b (X ⟨fs,fa,fm,fc,z,b⟩)) (l.drop (k+1))/\LmP w1 m b1 b2 (entS z P' b (X ⟨fs,fa,fm,fc,z,b⟩)) (c'+220)/\Out (Two b1 b2) W w1):=by
      refine ⟨?_,hm1,ho1⟩
      rw [HK.out.1,Qdz HZ.out.1 (by rw [(Jz8 HK)];exact HZ.out.2),(Jz8 HK)]
     clear hm1 ho1;first
      | exact ⟨⟨k+1,c'+220,q1,_,by simp,rfl,by omega,by omega,HR.out.1,HR.out.2⟩,by simp [intOf];omega⟩
      | (go_roundw
         case rel=>exact ⟨k+1,c'+220,q1,_,by simp,rfl,by omega,by omega,HR.out.1,HR.out.2⟩
         case measure=>simp [intOf];omega)
    ·have h2':(fs == q1)=false:=by simp [h2]
     have HR:Hid (folS X q0 P l=P'):=by
      show _=_;rw [HK.out.1];exact Qe8 h1 (by rw [(Jz8 HK)];exact h2)
     clear h1 h2;go_wp2
     first | go_end0 | refine bodyPost_ret (results_none rfl _ _ _) rfl ?_
     rw [HR.out];exact ⟨rfl,((J2 HK).alloc _).mono (by omega),(J3 HK).alloc _⟩
  ·obtain rfl:k=n:=by omega
   have HF:Hid (LmP wr m b1 b2 (folS X q0 P l) (c+220*k)/\Out (Two b1 b2) W wr):=⟨by rw [he,List.drop_eq_nil_of_le (by omega)];exact hm.mono (by omega),ho⟩
   clear he hm ho;go_wp2
   first | go_end0 | refine bodyPost_ret (results_none rfl _ _ _) rfl ?_
   exact ⟨rfl,HF.out⟩
end
end
section
def Qcc (q:Int) (l:List Fo):Int:=match l.getLast? with
 | some f=>f.s
 | none=>q
section
variable {W:World}
set_option maxHeartbeats 2000000 in
theorem Qtw (q:Int) (A:Option Addr) (n C:Nat) (l:List Fo) (hl:FoIn W A n l) :
  Calls prog 61 #[.int .u64 q,.slice A n C] W λ e w'=>e=.returned (.int .u64 (Qcc q l))/\w'=W:=by
 obtain ⟨h1,h2,h3⟩:=hl;by_cases h0:n=0
 ·have hq:Qcc q l=q:=by
   have:l=[]:=List.length_eq_zero_iff.1 (by omega);rw [this];rfl
  rw [hq];have hn:(n:Int)=0:=by omega
  subst h0;clear h1 h2 h3;go_enter func61,ntmps61
  go_wp2
  go_ret
  exact ⟨rfl,rfl⟩
 ·obtain ⟨g,off,rfl,hc⟩:=h3.resolve_left h0
  obtain ⟨k,rfl⟩:∃k,n=k+1:=⟨n - 1,by omega⟩
  obtain ⟨f,hf⟩:∃f,l[k]?=some f:=⟨l[k]'(by omega),by simp⟩
  have hq:Qcc q l=f.s:=by
   unfold Qcc;rw [List.getLast?_eq_getElem?,h1];show (match l[k]? with | some f=>f.s | none=>q)=_;rw [hf]
  rw [hq];have y0:W.cell? ⟨g,off+k*4+0,none⟩=some (.int .u64 f.s):=hc k _ hf 0 _ rfl;simp only [Nat.add_zero] at y0
  have hwk:wrap64 (k:Int)=(k:Int):=by have h:=IntKind.wrap_i64 (k:Int);unfold IntKind.wrap at h;unfold maxLen at h2;first | omega | (simp at h;omega) | (unfold wrap64;omega)
  have hk1:((k:Int)+1 == 0)=false:=by simp;omega
  have hk2:(k:Int)<(k:Int)+1:=by omega
  clear hc h3 hf h1;go_enter func61,ntmps61
  go_wp2
  go_ret
  exact ⟨rfl,rfl⟩
end
end
end Go.Proofs.YtcdnjeiamihhbaaGreat
namespace Go.Proofs.YtcdnjeiamihhbaaGreat
open Go.RowKit Go.Sort Go.Lib Go.Shelf
section
def foC (l:List Fo):List Value:=l.flatMap foL
theorem Qxk (l:List Fo) (f:Fo):foC (l ++ [f])=foC l ++ foL f:=by simp [foC]
theorem Qcj (l:List Fo):(foC l).length=l.length*4:=by
 unfold foC;induction l with
 | nil=>rfl
 | cons x r ih=>rw [List.flatMap_cons,List.length_append,ih,List.length_cons];simp [foL];omega
theorem Qob:∀(l:List Fo) (i:Nat) (f:Fo) (j:Nat),l[i]?=some f->j<4->(foC l)[i*4+j]?=(foL f)[j]?
 | [],i,x,j,h,_=>by simp at h
 | y :: r,0,x,j,h,hj=>by
  have:y=x:=by simpa using h
  subst this;rw [foC,List.flatMap_cons,Nat.zero_mul,Nat.zero_add,List.getElem?_append_left (by simp [foL];omega)]
 | y :: r,i+1,x,j,h,hj=>by
  have h':r[i]?=some x:=by simpa using h
  rw [foC,List.flatMap_cons,List.getElem?_append_right (by simp [foL];omega)];have:(i+1)*4+j - (foL y).length=i*4+j:=by simp [foL];omega
  rw [this];exact Qob r i x j h' hj
theorem Qt6 (f:Fo):∀v∈foL f,v.oneCell'=true:=by
 intro v hv;simp only [foL,List.mem_cons,List.not_mem_nil,or_false] at hv;rcases hv with rfl | rfl | rfl | rfl <;> rfl
def foK (f:Fo):Int × Int × Int:=(f.s,f.z,f.b)
def foX (zs:List Zn) (f:Fo):List It:=decX (elB zs f.z f.b.toNat)
def Qb1 (zs:List Zn) (q:Int) (z:Nat) (l:List Nat):List (Int × Int × Int):=(l.filter (λ i=>decide (q<decS (elB zs (z:Nat) i)))).map (λ i=>(decS (elB zs (z:Nat) i),((z:Nat):Int),((i:Nat):Int)))
theorem Qc7 (zs:List Zn) (q:Int) (z:Nat) (l:List Nat) (i:Nat):Qb1 zs q z (l ++ [i])=if q<decS (elB zs (z:Nat) i) then Qb1 zs q z l ++ [(decS (elB zs (z:Nat) i),((z:Nat):Int),((i:Nat):Int))] else Qb1 zs q z l:=by
 unfold Qb1;rw [List.filter_append,List.map_append];by_cases h:q<decS (elB zs (z:Nat) i)
 ·rw [if_pos h];simp [h]
 ·rw [if_neg h];simp [h]
def Qa4 (zs:List Zn) (q:Int):Nat->List (Int × Int × Int)
 | 0=>[]
 | k+1=>if 2<=k then Qa4 zs q k ++ Qb1 zs q k (Qay zs (k:Nat)) else Qa4 zs q k
theorem Qi5 (zs:List Zn) (q:Int):Qa4 zs q 2=[]:=by
 unfold Qa4 Qa4 Qa4;rw [if_neg (by omega),if_neg (by omega)]
theorem Qbp {zs:List Zn} {q:Int} {k:Nat} (h:2<=k):Qa4 zs q (k+1)=Qa4 zs q k ++ Qb1 zs q k (Qay zs (k:Nat)):=by
 show (if _ then _ else _)=_;rw [if_pos h]
theorem Tryz.zero_found:(prog.info? 179).map (λ i=>(i.zero,i.size,i.bytes))=some (some (.agg #[.int .u64 0,.slice none 0 0,.int .i64 0,.int .i64 0]),4,48):=by kernel_rfl
structure NwR (zs:List Zn) (q:Nat) (V w:World) (A:Option Addr) (n C:Nat) (l:List Fo):Prop where
 ln:l.length=n
 row:w.ownsRow 0 179 4 (.slice A n C) n (foC l)
 its:∀f∈l,ItsIn w f.a f.m (foX zs f)/\(f.m≠0->∀y,f.a.map (·.block)=some y->q<=y/\¬(Value.slice A n C).ownBlock=some y)
 hA:∀g,(Value.slice A n C).ownBlock=some g->q<=g
 bel:Below q V w
section
variable {zs:List Zn} {q:Nat} {V w X:World} {A:Option Addr} {n C:Nat} {l:List Fo}
theorem NwR.start (V:World) (q:Nat) (hb:Below q V w):NwR zs q V w none 0 0 []:=⟨rfl,World.ownsRow_nil _ _ _ _,by simp,(λ g h=>by cases h),hb⟩
theorem NwR.ltA (h:NwR zs q V w A n C l):∀g,(Value.slice A n C).ownBlock=some g->g<w.heap.size:=λ g hg=>(h.row.lt g hg).2
theorem NwR.below (h:NwR zs q V w A n C l) (hq:q<=w.heap.size) (hb:Below w.heap.size w X):NwR zs q V X A n C l:=
 ⟨h.ln,(Qab Non hb).own h.row (λ _ _ e=>e),λ f hf=>⟨(h.its f hf).1.below hb,(h.its f hf).2⟩,h.hA,h.bel.trans (hb.mono hq)⟩
theorem NwR.one {a:Option Addr} {m c g1:Nat} {S z b:Int} (h:NwR zs q V w A n C l) (hq:q<=w.heap.size) (hi:ItsIn w a m (foX zs ⟨S,a,m,c,z,b⟩)) (hf:m≠0->∀y,a.map (·.block)=some y->q<=y/\¬(Value.slice A n C).ownBlock=some y) (hn:n+1<=1000000)
  (hc:∀(j:Nat) (u:Value),(foL ⟨S,a,m,c,z,b⟩)[j]?=some u->w.cell? ⟨g1,j,none⟩=some u) :
  ∃a9 c9 w9,(Builtin.append_ #[126,126] 126 #[.slice A n C,.slice (some ⟨g1,0,none⟩) 1 1]).run prog w=.ok (.slice a9 (n+1) c9) w9/\Out (λ j=>(Value.slice A n C).ownBlock=some j) w w9/\NwR zs q V w9 a9 (n+1) c9 (l ++ [⟨S,a,m,c,z,b⟩])/\(∀g,(Value.slice a9 (n+1) c9).ownBlock=some g->(Value.slice A n C).ownBlock=some g\/w.heap.size<=g):=by
 obtain ⟨h1,r1,h2,h3,h4⟩:=h;obtain ⟨v9,w9,e9,o9,g9,b9⟩:=Qde (e:=179) (t:=126) (ty:=126) (size:=4) (bytes:=48) Tryz.underlying126 Tryz.zero_found rfl (by decide) (by decide) r1 ⟨g1,0,none⟩ 1 1 (foL ⟨S,a,m,c,z,b⟩) rfl (by
  intro j u hj;rw [Addr.add_mid,Nat.zero_add];exact hc j u hj) (Qt6 _) (by omega)
 obtain ⟨a9,c9,rfl⟩:∃a' c',v9=.slice a' (n+1) c':=Qam o9;have ho9:Out (λ j=>(Value.slice A n C).ownBlock=some j) w w9:=(Out.refl (λ j=>(Value.slice A n C).ownBlock=some j) w).grown g9 (λ j hj=>.inl hj);have bA:∀g,(Value.slice a9 (n+1) c9).ownBlock=some g->(Value.slice A n C).ownBlock=some g\/w.heap.size<=g:=λ g hg=>by
  rcases b9 with e | e
  ·exact .inl (by rw [<-e];exact hg)
  ·exact .inr (e g hg)
 refine ⟨a9,c9,w9,e9,ho9,⟨by rw [List.length_append,h1];rfl,by rw [Qxk];exact o9,?_,?_,h4.trans (ho9.below hq (λ j hj=>h3 j hj))⟩,bA⟩
 ·intro f hf'
  rcases List.mem_append.1 hf' with hf' | hf'
  ·obtain ⟨k1,k2⟩:=h2 f hf'
   refine ⟨k1.outO ho9 (λ hm y hy e=>(k2 hm y hy).2 e),λ hm y hy=>⟨(k2 hm y hy).1,λ e=>?_⟩⟩
   rcases bA y e with e | e
   ·exact (k2 hm y hy).2 e
   ·have:=Qjb k1 hm hy;omega
  ·rw [List.mem_singleton] at hf'
   subst hf';refine ⟨hi.outO ho9 (λ hm y hy e=>(hf hm y hy).2 e),λ hm y hy=>⟨(hf hm y hy).1,λ e=>?_⟩⟩
   rcases bA y e with e | e
   ·exact (hf hm y hy).2 e
   ·have:=Qjb hi hm hy;omega
 ·intro g hg
  rcases bA g hg with e | e
  ·exact h3 g e
  ·omega
end
end
section
theorem Qre:∀(l:List (List Int)) (vs:List Value) (i:Nat) (E:List Int) (v:Value),l[i]?=some E->vs[i]?=some v->(rcC l vs)[i*2]?=some (.int .u64 (decS E))/\(rcC l vs)[i*2+1]?=some v
 | [],_,i,E,v,h,_=>by simp at h
 | _ :: _,[],i,E,v,_,k=>by simp at k
 | D :: l,u :: vs,0,E,v,h,k=>by
  simp only [List.getElem?_cons_zero,Option.some.injEq] at h k
  subst h;subst k;exact ⟨rfl,rfl⟩
 | D :: l,u :: vs,i+1,E,v,h,k=>by
  simp only [List.getElem?_cons_succ] at h k
  have:=Qre l vs i E v h k;rw [show (i+1)*2=i*2+1+1 by omega,show i*2+1+1+1=(i*2+1)+1+1 by omega];exact this
theorem Qh9 {w:World} {base s n C:Nat} {A:Option Addr} {e:TypeId} {xs:List Value} (h:w.ownsRow base e s (.slice A n C) n xs) (h0:0<n):∃g,A=some ⟨g,0,none⟩/\∀(j:Nat) (u:Value),xs[j]?=some u->w.cell? ⟨g,j,none⟩=some u:=by
 rcases h.2 with ⟨hv,hn⟩ | ⟨g,cap,cur,hv,hb,hg,hc,hcm,hsz,htake⟩
 ·omega
 ·cases hv
  refine ⟨g,rfl,λ j u hj=>?_⟩
  have hcl:=h.cells (g:=g) rfl j u hj;rw [Addr.add_mid,Nat.zero_add] at hcl;exact hcl
structure NwI (zs:List Zn) (q:Nat) (V w:World) (A:Option Addr) (n C:Nat) (l:List Fo) (Ar:Option Addr) (Cr:Nat) (B:Option Addr) (cB nr:Nat) (L:List Nat) (z:Nat):Prop where
 nw:NwR zs q V w A n C l
 hq:q<=w.heap.size
 ln:L.length=nr
 rows:∃vs Y,w.ownsRow 0 177 2 (.slice Ar nr Cr) nr (rcC (L.map (elB zs (z:Nat))) vs)/\RcD Y w (L.map (elB zs (z:Nat))) vs/\(∀x,Y x->q<=x/\x<w.heap.size)/\(∀g,(Value.slice A n C).ownBlock=some g->¬Y g)
 ints:w.ownsRow 0 3 1 (.slice B nr cB) nr (Qaj .i64 (L.map (λ i=>((i:Nat):Int))))
section
variable {zs:List Zn} {q:Nat} {V w w1 X:World} {A Ar B:Option Addr} {n C Cr cB nr:Nat} {l:List Fo} {L:List Nat} {z:Nat}
theorem NwI.start (nw:NwR zs q V w1 A n C l) (hq:q<=w1.heap.size) (sc:ScR w1.heap.size w1 w Ar nr Cr B nr cB (L.map (elB zs (z:Nat))) (L.map (λ i=>((i:Nat):Int)))):NwI zs q V w A n C l Ar Cr B cB nr L z:=by
 have hlt:=nw.ltA;have hs:=sc.bel.size;obtain ⟨vs,Y,r1,r2,r3,r4,r5⟩:=sc.rows;refine ⟨nw.below hq sc.bel,by omega,by have:=sc.ln;simpa using this,⟨vs,Y,r1,r2,λ x hx=>⟨by have:=r3 x hx;omega,(r3 x hx).2⟩,λ g hg e=>?_⟩,sc.ints⟩
 have h1:=hlt g hg;have h2:=r3 g e;omega
theorem NwI.below (h:NwI zs q V w A n C l Ar Cr B cB nr L z) (hb:Below w.heap.size w X):NwI zs q V X A n C l Ar Cr B cB nr L z:=by
 have hs:=hb.size;have ho:=Qab Non hb;obtain ⟨h1,hq,h2,⟨vs,Y,r1,r2,r3,r4⟩,h3⟩:=h;exact ⟨h1.below hq hb,by omega,h2,⟨vs,Y,ho.own r1 (λ _ _ e=>e),r2.out ho (λ _ _ e=>e),λ x hx=>⟨(r3 x hx).1,by have:=(r3 x hx).2;omega⟩,r4⟩,ho.own h3 (λ _ _ e=>e)⟩
theorem NwI.at (h:NwI zs q V w A n C l Ar Cr B cB nr L z) {i:Nat} (hi:i<nr):∃b a m c g g2,L[i]?=some b/\Ar=some ⟨g,0,none⟩/\B=some ⟨g2,0,none⟩/\w.cell? ⟨g,i*2,none⟩=some (.int .u64 (decS (elB zs (z:Nat) b)))/\w.cell? ⟨g,i*2+1,none⟩=some (.slice a m c)/\w.cell? ⟨g2,i,none⟩=some (.int .i64 (b:Nat))/\ItsIn w a m (decX (elB zs (z:Nat) b))/\(m≠0->∀y,a.map (·.block)=some y->q<=y/\y<w.heap.size/\¬(Value.slice A n C).ownBlock=some y):=by
 obtain ⟨h1,hq,h2,⟨vs,Y,r1,r2,r3,r4⟩,h3⟩:=h;obtain ⟨b,hb⟩:∃b,L[i]?=some b:=⟨L[i]'(by omega),by simp⟩
 have hE:(L.map (elB zs (z:Nat)))[i]?=some (elB zs (z:Nat) b):=by rw [List.getElem?_map,hb];rfl
 obtain ⟨v,hv⟩:∃v,vs[i]?=some v:=⟨vs[i]'(by rw [r2.1,List.length_map];omega),by simp⟩
 obtain ⟨a,m,c,rfl,k1,k2⟩:=r2.2 i _ v hE hv;obtain ⟨g,hg,hgc⟩:=Qh9 r1 (by omega);obtain ⟨g2,hg2,hgc2⟩:=Qh9 h3 (by omega);have hr:=Qre _ vs i _ _ hE hv;refine ⟨b,a,m,c,g,g2,hb,hg,hg2,hgc _ _ hr.1,hgc _ _ hr.2,hgc2 i _ ?_,k1,λ hm y hy=>?_⟩
 ·simp [Qaj,hb]
 ·have hY:=k2 hm y hy
  exact ⟨(r3 y hY).1,(r3 y hY).2,λ e=>r4 y e hY⟩
theorem NwI.one {a:Option Addr} {m c g1:Nat} {S:Int} {b:Nat} (h:NwI zs q V w A n C l Ar Cr B cB nr L z) (hi:ItsIn w a m (decX (elB zs (z:Nat) b))) (hf:m≠0->∀y,a.map (·.block)=some y->q<=y/\¬(Value.slice A n C).ownBlock=some y) (hn:n+1<=1000000)
  (hc:∀(j:Nat) (u:Value),(foL ⟨S,a,m,c,(z:Nat),(b:Nat)⟩)[j]?=some u->w.cell? ⟨g1,j,none⟩=some u) :
  ∃a9 c9 w9,(Builtin.append_ #[126,126] 126 #[.slice A n C,.slice (some ⟨g1,0,none⟩) 1 1]).run prog w=.ok (.slice a9 (n+1) c9) w9/\NwI zs q V w9 a9 (n+1) c9 (l ++ [⟨S,a,m,c,(z:Nat),(b:Nat)⟩]) Ar Cr B cB nr L z/\(∀g L' t,Blk w g L' t->t≠179->Blk w9 g L' t):=by
 obtain ⟨h1,hq,h2,⟨vs,Y,r1,r2,r3,r4⟩,h3⟩:=h;obtain ⟨a9,c9,w9,e9,ho,nw9,bA⟩:=h1.one hq (by simpa [foX] using hi) hf hn hc;have hs:=ho.size;have ap1:∀g,(Value.slice Ar nr Cr).ownBlock=some g->¬(Value.slice A n C).ownBlock=some g:=λ g hg e=>by
  rcases Qbi r1 h1.row (by decide) with h | h
  ·rw [h] at hg;cases hg
  ·exact h (hg.trans e.symm)
 have ap2:∀g,(Value.slice B nr cB).ownBlock=some g->¬(Value.slice A n C).ownBlock=some g:=λ g hg e=>by
  rcases Qbi h3 h1.row (by decide) with h | h
  ·rw [h] at hg;cases hg
  ·exact h (hg.trans e.symm)
 refine ⟨a9,c9,w9,e9,⟨nw9,by omega,h2,⟨vs,Y,ho.own r1 ap1,r2.out ho (λ y hy e=>r4 y e hy),λ x hx=>⟨(r3 x hx).1,by have:=(r3 x hx).2;omega⟩,λ g hg e=>?_⟩,ho.own h3 ap2⟩,λ g L' t hg ht=>ho.blk hg (Qcp h1.row hg ht)⟩
 rcases bA g hg with e' | e'
 ·exact r4 g e' e
 ·have:=(r3 g e).2;omega
theorem Qsj {w0:World} {ops:Array Oper} {o:Oper} {a0:Act} {K:Act->World->Prop} {Q:Exit->Act->World->Prop} {F:Prop} {a:Option Addr} {m c g1:Nat} {S:Int} {b:Nat} (hg:o.guard=none) (s x:Operand)
  (hop:o.op=.call {callee:=.builtin .append,args:=#[s,x],argTypes:=#[126,126]}) (ht:o.type=126) (hs:a0.eval s=.slice A n C) (hx:a0.eval x=.slice (some ⟨g1,0,none⟩) 1 1) (h:NwI zs q V w0 A n C l Ar Cr B cB nr L z) (hb:Below w0.heap.size w0 w) (hi:ItsIn w0 a m (decX (elB zs (z:Nat) b))) (hf:m≠0->∀y,a.map (·.block)=some y->q<=y/\¬(Value.slice A n C).ownBlock=some y) (hn:n+1<=1000000)
  (hc:∀(j:Nat) (u:Value),(foL ⟨S,a,m,c,(z:Nat),(b:Nat)⟩)[j]?=some u->w.cell? ⟨g1,j,none⟩=some u)
  (hK:∀a9 c9 w9,NwI zs q V w9 a9 (n+1) c9 (l ++ [⟨S,a,m,c,(z:Nat),(b:Nat)⟩]) Ar Cr B cB nr L z->K (a0.put o.dst (.slice a9 (n+1) c9)) w9) :
  if Region.wanted o (yielded ops a0.tmps)=true then Oper.wp prog o a0 w K Q else F:=by
 obtain ⟨a9,c9,w9,e9,n9,_⟩:=(h.below hb).one (hi.below hb) hf hn hc;exact Qbf hg s x 126 126 hop _ _ hs hx _ _ (by rw [ht];exact e9) (hK a9 c9 w9 n9)
end
theorem Qxr (zs:List Zn) (q:Int):∀{k k':Nat},k<=k'->(Qa4 zs q k).length<=(Qa4 zs q k').length:=by
 intro k k' h;induction k' with
 | zero=>
  obtain rfl:k=0:=by omega
  exact Nat.le_refl _
 | succ j ih=>
  rcases Nat.lt_or_ge k (j+1) with h' | h'
  ·have:=ih (by omega)
   by_cases h2:2<=j
   ·rw [Qbp h2,List.length_append]
    omega
   ·have:Qa4 zs q (j+1)=Qa4 zs q j:=by
     show (if _ then _ else _)=_;rw [if_neg h2]
    rw [this];omega
  ·obtain rfl:k=j+1:=by omega
   exact Nat.le_refl _
theorem Qtp (zs:List Zn) (q:Int) (z:Nat) (l:List Nat) (i:Nat):(Qb1 zs q z (l.take i)).length<=(Qb1 zs q z l).length:=by
 unfold Qb1;rw [List.length_map,List.length_map];exact ((List.take_sublist i l).filter _).length_le
end
end Go.Proofs.YtcdnjeiamihhbaaGreat
