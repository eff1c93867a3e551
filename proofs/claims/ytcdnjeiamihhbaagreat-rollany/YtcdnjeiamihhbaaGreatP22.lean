/- P22 -/
import Derived.Test.YtcdnjeiamihhbaaGreatRows
import Derived.Lib.SmallJoins
import Derived.Deep.Slices
import Derived.Test.YtcdnjeiamihhbaaGreatP21
set_option linter.unusedVariables false
set_option maxRecDepth 4000
open Go.Proofs.Tryz
namespace Go.Proofs.YtcdnjeiamihhbaaGreat
open Go.RowKit
theorem Tryz.zero_u64s:(prog.info? 45).map (λ i=>(i.zero,i.size,i.bytes))=some (some (.int .u64 0),1,8):=by kernel_rfl
theorem Qc3 (n:Nat) (w:World):Blk (w.alloc (.cells (madeCells #[.int .u64 0] n) 45)) w.heap.size (Qaj .u64 (List.replicate n 0)) 45:=by
 refine Blk.new' rfl ?_
 apply Array.ext'
 rw [toList_madeCells_one];simp [Qaj]
def Qfr (s:Sh) (zs:List Zn) (q:Int) (o:Int):St:=⟨s,zs,newZ s.z.toNat,[],q,List.replicate s.z.toNat 0,o⟩
theorem Qfi {O:Nat->Prop} {W V:World} {p:Nat} {s:Sh} {zs:List Zn} {k:Bs} {q o:Int} (hd:Dv 98 O W p s zs) (hw:Wf s zs) (hb:Below W.heap.size W V) (hq:Qai q) (hpd:k.pd=p) (hz:(s.z.toNat:Int)=s.z)
  (hs:SegP V k.pg k.gg s.r (newZ s.z.toNat)) (hm:LmP V k.pm k.b1 k.b2 [] 0) (hl:Blk V k.lb (Qaj .u64 (List.replicate s.z.toNat 0)) 45) (hp:Blk V k.ps (stL k q s.z.toNat o) 119)
  (g1:W.heap.size<=k.pg) (g2:W.heap.size<=k.gg) (g3:W.heap.size<=k.pm) (g4:W.heap.size<=k.b1) (g5:W.heap.size<=k.b2) (g6:W.heap.size<=k.lb) (g7:W.heap.size<=k.ps) :
  StV (λ x=>O x/\x<W.heap.size) V k (Qfr s zs q o) 0:=by
 have h6:=hw.right.1;have hlz:(newZ s.z.toNat).length=s.z.toNat:=Qcq (by omega);have hzl:zs.length=s.z.toNat:=by have:=hw.len;omega
 refine ⟨?_,?_,hs,hm,hl,hw,hq,⟨by show (newZ s.z.toNat).length=zs.length;omega,by show (List.replicate s.z.toNat (0:Int)).length=zs.length;simp;omega⟩,λ x hx=>Nat.lt_of_lt_of_le hx.2 hb.size,?_,?_⟩
 ·show Blk V k.ps (stL k q (List.replicate s.z.toNat (0:Int)).length o) 119
  rw [List.length_replicate];exact hp
 ·rw [hpd];exact Qa7 hd.there hb
 ·rintro x (rfl | rfl | rfl | rfl | rfl | rfl | rfl) hx <;> (have:=hx.2;omega)
 ·have a1:k.ps≠k.pg:=blk_ne' hp hs.hp (by decide)
  have a2:k.ps≠k.gg:=blk_ne' hp hs.hg (by decide);have a3:k.ps≠k.pm:=blk_ne' hp hm.hp (by decide);have a4:k.ps≠k.b1:=hm.m1.no_blk hp;have a5:k.ps≠k.b2:=hm.m2.no_blk hp;have a6:k.ps≠k.lb:=blk_ne' hp hl (by decide);have b1:k.pg≠k.gg:=hs.ne;have b2:k.pg≠k.pm:=blk_ne' hs.hp hm.hp (by decide);have b3:k.pg≠k.b1:=hm.m1.no_blk hs.hp;have b4:k.pg≠k.b2:=hm.m2.no_blk hs.hp;have b5:k.pg≠k.lb:=blk_ne' hs.hp hl (by decide);have c1:k.gg≠k.pm:=blk_ne' hs.hg hm.hp (by decide);have c2:k.gg≠k.b1:=hm.m1.no_blk hs.hg;have c3:k.gg≠k.b2:=hm.m2.no_blk hs.hg;have c4:k.gg≠k.lb:=blk_ne' hs.hg hl (by decide);have d1:k.pm≠k.b1:=hm.m1.no_blk hm.hp;have d2:k.pm≠k.b2:=hm.m2.no_blk hm.hp;have d3:k.pm≠k.lb:=blk_ne' hm.hp hl (by decide);have e1:k.b1≠k.b2:=hm.ne;have e2:k.b1≠k.lb:=λ e=>hm.m1.no_blk hl e.symm
  have e3:k.b2≠k.lb:=λ e=>hm.m2.no_blk hl e.symm
  simp [a1,a2,a3,a4,a5,a6,b1,b2,b3,b4,b5,c1,c2,c3,c4,d1,d2,d3,e1,e2,e3]
set_option maxHeartbeats 4000000 in
theorem Q3t {O:Nat->Prop} {W:World} {p:Nat} {s:Sh} {zs:List Zn} (hd:Dv 98 O W p s zs) (hw:Wf s zs) :
  Calls prog 60 #[.pointer (some ⟨p,0,none⟩),.int .u64 0,.slice none 0 0,.slice none 0 0,.int .i64 0] W λ e w'=>Below W.heap.size W w'/\∃k,e=.returned (.pointer (some ⟨k.ps,0,none⟩))/\StV (λ x=>O x/\x<W.heap.size) w' k (Qfr s zs 0 0) 0/\∀x,k.has x->W.heap.size<=x:=by
 obtain ⟨N,hN⟩:∃N:Nat,s.z=N:=⟨s.z.toNat,by have:=hw.right.1;omega⟩
 have hN1:6<=N/\N<=256:=by have:=hw.right.1;have:=hw.right.2.1;omega
 have H:=Jh3 hd hw hN;have hsh:=Qdf hd;rw [hN] at hsh;have HSh:=Jh1 @hsh;have hmk:=run_make_row' (P:=prog) 46 45 (.int .u64 0) 8 Tryz.underlying46 Tryz.zero_u64s rfl .i64 .i64 N (by omega) (by omega);clear hd hw hN hsh;go_enter func60,ntmps60
 go_wp2_with (go_at_call 72;refine HSh.out.mono ?_;rintro e W1 ⟨rfl,hb1⟩)
 have HV:Hid (Below W.heap.size W (W1.alloc (.cells #[.int .i64 (N:Int),.int .i64 s.zb,.int .i64 s.b,.int .i64 s.r] 23))/\Blk (W1.alloc (.cells #[.int .i64 (N:Int),.int .i64 s.zb,.int .i64 s.b,.int .i64 s.r] 23)) W1.heap.size [.int .i64 (N:Int),.int .i64 s.zb,.int .i64 s.b,.int .i64 s.r] 23):=⟨hb1.alloc hb1.size _,Blk.new' rfl rfl⟩
 clear hb1;generalize World.alloc W1 _=V at HV ⊢;generalize W1.heap.size=ga at HV ⊢;have x0:V.cell? ⟨ga,0,none⟩=some (.int .i64 (N:Int)):=HV.out.2.cell 0;have x1:V.cell? ⟨ga,1,none⟩=some (.int .i64 s.zb):=HV.out.2.cell 1;have x2:V.cell? ⟨ga,2,none⟩=some (.int .i64 s.b):=HV.out.2.cell 2;have x3:V.cell? ⟨ga,3,none⟩=some (.int .i64 s.r):=HV.out.2.cell 3;have k0:∀o,(V.alloc o).cell? ⟨ga,0,none⟩=some (.int .i64 (N:Int)):=λ o=>(HV.out.2.alloc o).cell 0
 have k1:∀o,(V.alloc o).cell? ⟨ga,1,none⟩=some (.int .i64 s.zb):=λ o=>(HV.out.2.alloc o).cell 1
 have k2:∀o,(V.alloc o).cell? ⟨ga,2,none⟩=some (.int .i64 s.b):=λ o=>(HV.out.2.alloc o).cell 2
 have k3:∀o,(V.alloc o).cell? ⟨ga,3,none⟩=some (.int .i64 s.r):=λ o=>(HV.out.2.alloc o).cell 3
 have HG:Hid (∀Y,Below V.heap.size V Y->Calls prog 127 #[.agg #[.int .i64 (N:Int),.int .i64 s.zb,.int .i64 s.b,.int .i64 s.r]] Y λ e Z=>∃pg gg,e=.returned (.pointer (some ⟨pg,0,none⟩))/\(SegP Z pg gg s.r (newZ s.z.toNat)/\Y.heap.size<=pg/\Y.heap.size<=gg/\Below Y.heap.size Y Z)/\Z.cell? ⟨ga,0,none⟩=some (.int .i64 (N:Int))/\(∀o,(Z.alloc o).cell? ⟨ga,0,none⟩=some (.int .i64 (N:Int)))):=λ Y hY=>by
  have:=Quq s Y (by have:=(J2 H).right.1;omega);rw [show shL s=[.int .i64 (N:Int),.int .i64 s.zb,.int .i64 s.b,.int .i64 s.r] by unfold shL;rw [(Jz2 H)]] at this;refine this.mono ?_
  rintro e Z (⟨hr,_⟩ | ⟨_,pg,gg,rfl,h1,h2,h3,h4⟩)
  ·exact (hr (J2 H).right).elim
  ·have bg:=HV.out.2.below (hY.trans (h4.mono hY.size)) HV.out.2.lt
   exact ⟨pg,gg,rfl,⟨h1,h2,h3,h4⟩,bg.cell 0,λ o=>(bg.alloc o).cell 0⟩
 have HM:Hid (∀Y,Calls prog 122 #[] Y λ e Z=>∃pm b1 b2,e=.returned (.pointer (some ⟨pm,0,none⟩))/\(LmP Z pm b1 b2 [] 0/\Below Y.heap.size Y Z/\Y.heap.size<=pm/\Y.heap.size<=b1/\Y.heap.size<=b2)/\∀v,Y.cell? ⟨ga,0,none⟩=some v->Z.cell? ⟨ga,0,none⟩=some v/\(∀o,(Z.alloc o).cell? ⟨ga,0,none⟩=some v)):=λ Y=>by
  refine (Qpf Y).mono ?_
  rintro e Z ⟨pm,b1,b2,rfl,h1,h2,h3,h4,h5⟩;refine ⟨pm,b1,b2,rfl,⟨h1,h2,h3,h4,h5⟩,λ v hv=>?_⟩
  have e1:Z.cell? ⟨ga,0,none⟩=some v:=(h2.cell (Qaa hv)).trans hv;exact ⟨e1,λ o=>(((Below.refl _ _).alloc (Nat.le_refl _) o).cell (Qaa e1)).trans e1⟩
 go_region_law (first
  | (go_simp;go_at_call 127;refine (HG.out _ (by first | exact (Below.refl _ _).drew | exact ((Below.refl _ _).alloc (Nat.le_refl _) _).drew)).mono ?_;rintro e V2 ⟨pg,gg,rfl,sg2,y0,y0a⟩)
  | (go_simp;go_at_call 122;refine (HM.out _).mono ?_;rintro e V3 ⟨pm,b1,b2,rfl,lm3,kk⟩;have z0:V3.cell? ⟨ga,0,none⟩=some (.int .i64 (N:Int)):=(kk _ (by first | exact y0 | exact y0a _)).1;have z0a:∀o,(V3.alloc o).cell? ⟨ga,0,none⟩=some (.int .i64 (N:Int)):=(kk _ (by first | exact y0 | exact y0a _)).2;clear kk))
 all_goals (
  have hbV:=HV.out.1;have hz:(s.z.toNat:Int)=s.z:=by rw [(Jz2 H)];simp
  have hzN:s.z.toNat=N:=by rw [(Jz2 H)];simp
  have hsV:=hbV.size;first
  | (
   have e2:Below V.heap.size V V2:=(Below.refl _ _).drew.trans sg2.2.2.2;have g1:V.heap.size<=pg:=sg2.2.1;have g2:V.heap.size<=gg:=sg2.2.2.1;have g3:=lm3.2.2.1;have g4:=lm3.2.2.2.1;have g5:=lm3.2.2.2.2;have e3:=e2.trans (lm3.2.1.mono e2.size);have q2:=e2.size;have q3:=lm3.2.1.size;have PK:Hid (StV (λ x=>O x/\x<W.heap.size) ((V3.alloc (.cells (madeCells #[.int .u64 0] N) 45)).alloc (.cells #[.pointer (some ⟨p,0,none⟩),.pointer (some ⟨pg,0,none⟩),.pointer (some ⟨pm,0,none⟩),.int .u64 0,.slice (some ⟨V3.heap.size,0,none⟩) N N,.int .i64 0] 119)) ⟨V3.heap.size+1,p,pg,gg,pm,b1,b2,V3.heap.size⟩ (Qfr s zs 0 0) 0/\Below W.heap.size W ((V3.alloc (.cells (madeCells #[.int .u64 0] N) 45)).alloc (.cells #[.pointer (some ⟨p,0,none⟩),.pointer (some ⟨pg,0,none⟩),.pointer (some ⟨pm,0,none⟩),.int .u64 0,.slice (some ⟨V3.heap.size,0,none⟩) N N,.int .i64 0] 119))/\∀x,Bs.has ⟨V3.heap.size+1,p,pg,gg,pm,b1,b2,V3.heap.size⟩ x->W.heap.size<=x):=by
    have hb:Below W.heap.size W ((V3.alloc (.cells (madeCells #[.int .u64 0] N) 45)).alloc (.cells #[.pointer (some ⟨p,0,none⟩),.pointer (some ⟨pg,0,none⟩),.pointer (some ⟨pm,0,none⟩),.int .u64 0,.slice (some ⟨V3.heap.size,0,none⟩) N N,.int .i64 0] 119)):=((hbV.trans (e3.mono hsV)).alloc (by omega) _).alloc (by simp;omega) _;refine ⟨Qfi (k:=⟨V3.heap.size+1,p,pg,gg,pm,b1,b2,V3.heap.size⟩) H.out.1 (J2 H) hb (by unfold Qai;omega) rfl hz ?_ ?_ ?_ ?_ (by show W.heap.size<=pg;omega) (by show W.heap.size<=gg;omega) (by show W.heap.size<=pm;omega) (by show W.heap.size<=b1;omega) (by show W.heap.size<=b2;omega) (by show W.heap.size<=V3.heap.size;omega) (by show W.heap.size<=V3.heap.size+1;omega),hb,?_⟩
    ·exact ((sg2.1.under lm3.2.1).under ((Below.refl _ _).alloc (Nat.le_refl _) _)).under ((Below.refl _ _).alloc (Nat.le_refl _) _)
    ·exact (lm3.1.alloc _).alloc _
    ·rw [hzN];exact (Qc3 N V3).alloc _
    ·rw [hzN];exact Blk.new' (by simp) rfl
    ·rintro x (rfl | rfl | rfl | rfl | rfl | rfl | rfl) <;> (try simp only) <;> omega
   try clear g1 g2 g3 g4 g5
   clear e2 e3 q2 q3 hbV hz hzN hsV sg2 lm3 y0 y0a z0 z0a k0 k1 k2 k3 x0 x1 x2 x3;generalize World.alloc (World.alloc V3 _) _=V9 at PK ⊢;generalize V3.heap.size+1=ps at PK ⊢;generalize V3.heap.size=lb at PK ⊢)
  | (
   have e2:Below V.heap.size V V2:=(Below.refl _ _).drew.trans sg2.2.2.2;have g1:V.heap.size<=pg:=sg2.2.1;have g2:V.heap.size<=gg:=sg2.2.2.1;have g3:=lm3.2.2.1;have g4:=lm3.2.2.2.1;have g5:=lm3.2.2.2.2;have lmb:Below (V2.heap.size+1) (V2.alloc (.cells (madeCells #[.int .u64 0] N) 45)) V3:=by have:=lm3.2.1;simpa using this
   have e3:Below V2.heap.size V2 V3:=((Below.refl _ _).alloc (Nat.le_refl _) _).trans (lmb.mono (by omega));have q2:=e2.size;have q3:=e3.size;have q4:V2.heap.size+1<=V3.heap.size:=by have:=lmb.size;simpa using this
   have l3:V2.heap.size+1<=pm/\V2.heap.size+1<=b1/\V2.heap.size+1<=b2:=by have:=lm3.2.2;simpa using this
   have PK:Hid (StV (λ x=>O x/\x<W.heap.size) (V3.alloc (.cells #[.pointer (some ⟨p,0,none⟩),.pointer (some ⟨pg,0,none⟩),.pointer (some ⟨pm,0,none⟩),.int .u64 0,.slice (some ⟨V2.heap.size,0,none⟩) N N,.int .i64 0] 119)) ⟨V3.heap.size,p,pg,gg,pm,b1,b2,V2.heap.size⟩ (Qfr s zs 0 0) 0/\Below W.heap.size W (V3.alloc (.cells #[.pointer (some ⟨p,0,none⟩),.pointer (some ⟨pg,0,none⟩),.pointer (some ⟨pm,0,none⟩),.int .u64 0,.slice (some ⟨V2.heap.size,0,none⟩) N N,.int .i64 0] 119))/\∀x,Bs.has ⟨V3.heap.size,p,pg,gg,pm,b1,b2,V2.heap.size⟩ x->W.heap.size<=x):=by
    have hb:Below W.heap.size W (V3.alloc (.cells #[.pointer (some ⟨p,0,none⟩),.pointer (some ⟨pg,0,none⟩),.pointer (some ⟨pm,0,none⟩),.int .u64 0,.slice (some ⟨V2.heap.size,0,none⟩) N N,.int .i64 0] 119)):=((hbV.trans (e2.mono hsV)).trans (e3.mono (by omega))).alloc (by omega) _;refine ⟨Qfi (k:=⟨V3.heap.size,p,pg,gg,pm,b1,b2,V2.heap.size⟩) H.out.1 (J2 H) hb (by unfold Qai;omega) rfl hz ?_ ?_ ?_ ?_ (by show W.heap.size<=pg;omega) (by show W.heap.size<=gg;omega) (by show W.heap.size<=pm;omega) (by show W.heap.size<=b1;omega) (by show W.heap.size<=b2;omega) (by show W.heap.size<=V2.heap.size;omega) (by show W.heap.size<=V3.heap.size;omega),hb,?_⟩
    ·exact (sg2.1.under e3).under ((Below.refl _ _).alloc (Nat.le_refl _) _)
    ·exact lm3.1.alloc _
    ·rw [hzN];exact ((Qc3 N V2).below lmb (by omega)).alloc _
    ·rw [hzN];exact Blk.new' rfl rfl
    ·rintro x (rfl | rfl | rfl | rfl | rfl | rfl | rfl) <;> (try simp only) <;> omega
   try clear g1 g2 g3 g4 g5
   clear e2 e3 q2 q3 q4 l3 lmb hbV hz hzN hsV sg2 lm3 y0 y0a z0 z0a k0 k1 k2 k3 x0 x1 x2 x3;generalize World.alloc V3 _=V9 at PK ⊢;generalize V3.heap.size=ps at PK ⊢;generalize V2.heap.size=lb at PK ⊢)
  | (
   have sgb:Below (V.heap.size+1) (V.alloc (.cells (madeCells #[.int .u64 0] N) 45)) V2:=by have:=(Below.refl _ _).drew.trans sg2.2.2.2;simpa using this
   have e2:Below V.heap.size V V2:=((Below.refl _ _).alloc (Nat.le_refl _) _).trans (sgb.mono (by omega));have e3:=lm3.2.1;have g3:=lm3.2.2.1;have g4:=lm3.2.2.2.1;have g5:=lm3.2.2.2.2;have q2:=e2.size;have q3:=e3.size;have q4:V.heap.size+1<=V2.heap.size:=by have:=sgb.size;simpa using this
   have l2:V.heap.size+1<=pg/\V.heap.size+1<=gg:=by have h1:=sg2.2.1;have h2:=sg2.2.2.1;simpa using (And.intro h1 h2)
   have PK:Hid (StV (λ x=>O x/\x<W.heap.size) (V3.alloc (.cells #[.pointer (some ⟨p,0,none⟩),.pointer (some ⟨pg,0,none⟩),.pointer (some ⟨pm,0,none⟩),.int .u64 0,.slice (some ⟨V.heap.size,0,none⟩) N N,.int .i64 0] 119)) ⟨V3.heap.size,p,pg,gg,pm,b1,b2,V.heap.size⟩ (Qfr s zs 0 0) 0/\Below W.heap.size W (V3.alloc (.cells #[.pointer (some ⟨p,0,none⟩),.pointer (some ⟨pg,0,none⟩),.pointer (some ⟨pm,0,none⟩),.int .u64 0,.slice (some ⟨V.heap.size,0,none⟩) N N,.int .i64 0] 119))/\∀x,Bs.has ⟨V3.heap.size,p,pg,gg,pm,b1,b2,V.heap.size⟩ x->W.heap.size<=x):=by
    have hb:Below W.heap.size W (V3.alloc (.cells #[.pointer (some ⟨p,0,none⟩),.pointer (some ⟨pg,0,none⟩),.pointer (some ⟨pm,0,none⟩),.int .u64 0,.slice (some ⟨V.heap.size,0,none⟩) N N,.int .i64 0] 119)):=((hbV.trans (e2.mono hsV)).trans (e3.mono (by omega))).alloc (by omega) _;refine ⟨Qfi (k:=⟨V3.heap.size,p,pg,gg,pm,b1,b2,V.heap.size⟩) H.out.1 (J2 H) hb (by unfold Qai;omega) rfl hz ?_ ?_ ?_ ?_ (by show W.heap.size<=pg;omega) (by show W.heap.size<=gg;omega) (by show W.heap.size<=pm;omega) (by show W.heap.size<=b1;omega) (by show W.heap.size<=b2;omega) (by show W.heap.size<=V.heap.size;omega) (by show W.heap.size<=V3.heap.size;omega),hb,?_⟩
    ·exact (sg2.1.under e3).under ((Below.refl _ _).alloc (Nat.le_refl _) _)
    ·exact lm3.1.alloc _
    ·rw [hzN];exact (((Qc3 N V).below sgb (by omega)).below e3 (by omega)).alloc _
    ·rw [hzN];exact Blk.new' rfl rfl
    ·rintro x (rfl | rfl | rfl | rfl | rfl | rfl | rfl) <;> (try simp only) <;> omega
   clear g3 g4 g5;clear e2 e3 q2 q3 q4 l2 sgb hbV hz hzN hsV sg2 lm3 y0 y0a z0 z0a k0 k1 k2 k3 x0 x1 x2 x3;generalize World.alloc V3 _=V9 at PK ⊢;generalize V3.heap.size=ps at PK ⊢;generalize V.heap.size=lb at PK ⊢)
  go_wp2
  go_loopw [32] (λ x wr=>x=.int .i64 0/\wr=V9) (λ _ _=>0)
  case atStart=>exact ⟨rfl,rfl⟩
  case round=>
   obtain ⟨rfl,rfl⟩:=hrel;go_wp2
   obtain ⟨V8,rfl⟩:∃V8:World,V8=wr:=⟨_,rfl⟩
   go_loopw [45] (λ x wr=>x=.int .i64 0/\wr=V8) (λ _ _=>0)
   case atStart=>exact ⟨rfl,rfl⟩
   case round=>
    obtain ⟨rfl,rfl⟩:=hrel;go_wp2
    go_ret
    exact ⟨(J2 PK),_,rfl,PK.out.1,(Jz2 PK)⟩)
theorem Qok {s:Sh} {zs:List Zn} (h:Wf s zs) (slot seq:Int) (ps:List Pl):Wf s (svZ s zs slot seq ps):=by
 unfold svZ;split
 ·rename_i he
  unfold svE at he;split at he
  ·have:=Qvc h slot.toNat (ckL s seq ps).length (Qlk (seq:=seq) he) (by rw [Qbt];exact (Qb2.1 he).2)
   rw [List.take_of_length_le (Nat.le_refl _)] at this;exact this.flush
  ·cases he
 ·exact h
noncomputable def st0 (s:Sh):St:=Qfr s (svZ s (Qb5 s.z.toNat) 0 0 []) 0 0
set_option maxHeartbeats 2000000 in
theorem Q2v (s:Sh) (W:World) (hz:-9223372036854775808<=s.z):Calls prog 25 #[.agg (shL s).toArray] W λ e w'=>Below W.heap.size W w'/\((¬Qat s/\e=.returned (.pointer none))\/(Qat s/\∃D k,e=.returned (.pointer (some ⟨k.ps,0,none⟩))/\StV D w' k (st0 s) 0/\∀x,StO D k x->W.heap.size<=x)):=by
 obtain ⟨q,hq⟩:∃q,q=W.heap.size:=⟨_,rfl⟩
 have b0:Below W.heap.size W (W.alloc (.cells (shL s).toArray 23)):=(Below.refl _ _).alloc (Nat.le_refl _) _;have hN:=Qvr s (W.alloc (.cells (shL s).toArray 23)) hz;have c0:(W.alloc (.cells (shL s).toArray 23)).cell? ⟨W.heap.size,0,none⟩=some (.int .i64 s.z):=(Blk.new' (L:=shL s) rfl rfl).cell 0;have c1:(W.alloc (.cells (shL s).toArray 23)).cell? ⟨W.heap.size,1,none⟩=some (.int .i64 s.zb):=(Blk.new' (L:=shL s) rfl rfl).cell 1;have c2:(W.alloc (.cells (shL s).toArray 23)).cell? ⟨W.heap.size,2,none⟩=some (.int .i64 s.b):=(Blk.new' (L:=shL s) rfl rfl).cell 2;have c3:(W.alloc (.cells (shL s).toArray 23)).cell? ⟨W.heap.size,3,none⟩=some (.int .i64 s.r):=(Blk.new' (L:=shL s) rfl rfl).cell 3;have HB:=Jh1 b0;unfold shL at hN c0 c1 c2 c3 HB ⊢;by_cases hr:Qat s
 ·have HN:Hid (Calls prog 39 #[.agg #[.int .i64 s.z,.int .i64 s.zb,.int .i64 s.b,.int .i64 s.r]] (W.alloc (.cells #[.int .i64 s.z,.int .i64 s.zb,.int .i64 s.b,.int .i64 s.r] 23)) λ e w1=>∃p,e=.returned (.pointer (some ⟨p,0,none⟩))/\Calls prog 67 #[.pointer (some ⟨p,0,none⟩),.int .i64 0,.agg #[.int .u64 0,.slice none 0 0]] w1 λ e w2=>(∃v,e=.returned v)/\Calls prog 60 #[.pointer (some ⟨p,0,none⟩),.int .u64 0,.slice none 0 0,.slice none 0 0,.int .i64 0] w2 λ e w'=>∃D k,e=.returned (.pointer (some ⟨k.ps,0,none⟩))/\Below W.heap.size W w'/\StV D w' k (st0 s) 0/\∀x,StO D k x->W.heap.size<=x):=by
   refine hN.mono ?_
   rintro e w1 ⟨hb,⟨hn,_⟩ | ⟨_,p,rfl,hd⟩⟩
   ·exact (hn hr).elim
   ·refine ⟨p,rfl,(Qq0 0 0 none 0 0 [] hd (Qrr hr) (by unfold Qai;omega) (Qfa _) (Nat.le_refl _)).mono ?_⟩
    rintro e w2 ⟨rfl,O2,hd2,hO2,ho2⟩;refine ⟨⟨_,rfl⟩,(Q3t hd2 (Qok (Qrr hr) 0 0 [])).mono ?_⟩
    have hb':Below W.heap.size W w1:=HB.out.trans (hb.mono HB.out.size);have hW2:W.heap.size<=w2.heap.size:=Nat.le_trans hb'.size ho2.size;have hge:∀x,O2 x->W.heap.size<=x:=λ x hx=>by
     rcases hO2 x hx with h | h
     ·have:(W.alloc (.cells #[.int .i64 s.z,.int .i64 s.zb,.int .i64 s.b,.int .i64 s.r] 23)).heap.size=W.heap.size+1:=by simp
      rw [this] at h;omega
     ·have:=hb'.size;omega
    have hb2:Below W.heap.size W w2:=hb'.trans (ho2.below hb'.size (λ j hj=>by
     have:(W.alloc (.cells #[.int .i64 s.z,.int .i64 s.zb,.int .i64 s.b,.int .i64 s.r] 23)).heap.size=W.heap.size+1:=by simp
     rw [this] at hj;omega))
    rintro e w' ⟨hb3,k,rfl,hv,hk⟩;refine ⟨_,k,rfl,hb2.trans (hb3.mono hW2),hv,λ x hx=>?_⟩
    rcases hx with hx | hx
    ·exact hge x hx.1
    ·have:=hk x hx;omega
  clear hN b0;go_enter func25,ntmps25
  go_wp2_with (first
   | (go_at_call 39;refine HN.out.mono ?_;rintro e w1 ⟨p,rfl,h1⟩)
   | (go_at_call 67;refine h1.mono ?_;rintro e w2 ⟨⟨v2,rfl⟩,h2⟩)
   | (go_at_call 60;refine h2.mono ?_;rintro e w3 ⟨D3,k3,rfl,h3⟩))
  go_ret
  exact ⟨h3.1,.inr ⟨hr,D3,k3,rfl,h3.2⟩⟩
 ·have HN:Hid (Calls prog 39 #[.agg #[.int .i64 s.z,.int .i64 s.zb,.int .i64 s.b,.int .i64 s.r]] (W.alloc (.cells #[.int .i64 s.z,.int .i64 s.zb,.int .i64 s.b,.int .i64 s.r] 23)) λ e w1=>e=.returned (.pointer none)/\Below W.heap.size W w1):=by
   refine hN.mono ?_
   rintro e w1 ⟨hb,⟨_,rfl⟩ | ⟨hh,_⟩⟩
   ·exact ⟨rfl,HB.out.trans (hb.mono HB.out.size)⟩
   ·exact (hr hh).elim
  clear hN b0;go_enter func25,ntmps25
  go_wp2_with (go_at_call 39;refine HN.out.mono ?_;rintro e w1 ⟨rfl,hb1⟩)
  go_ret
  exact ⟨hb1,.inl ⟨hr,rfl⟩⟩
section
structure Inv (st:St):Prop where
 wf:Wf st.s st.zs
 plc:Plc st.zs st.S
 len:st.L.length=st.zs.length
theorem Qvf {s:Sh} {p:Pt} (hr:Qat s) (ho:p.x=true\/(p.d.length:Int)=s.b):Qci (itP p):=by
 unfold itP;split
 ·exact .inr ⟨rfl,rfl,rfl⟩
 ·rename_i hx
  have he:Qdl p.d<=p.d.length:=(Qhh p.d).1;have hb:=(Qar (show s.b∈PowR from hr.2.2.2.2.1)).2;have:=ho.resolve_left hx;exact .inl ⟨rfl,by show ((Qdl p.d:Nat):Int)<=4096;omega⟩
section
variable {st:St} {z:Nat} {l:List Pt}
end
theorem Qu2 {s:Sh} (hr:Qat s):2<=Qbu s.b/\((Qbu s.b).toNat:Int)=Qbu s.b:=by
 have hb:s.b∈PowR:=hr.2.2.2.2.1;have:=Qar hb;have e:Qbu s.b=(s.b - 19) / 19:=by unfold Qbu;rw [if_pos hb]
 omega
end
section
section
variable {D:Nat->Prop} {W:World} {k:Bs} {st:St} {c:Nat}
def Q3b:Value->Nat
 | .slice _ m _=>m
 | _=>0
theorem Qym (h:StV D W k st c) (a:Option Addr) (m cc:Nat) (p:Pt) (l:List Pt) (X:Nat->Prop) (hl:PtsIn X W a m (p :: l)) (hcc:m<=cc) (hX:∀x,X x->¬StO D k x/\x<W.heap.size) (hc:c+m<100000) :
  Calls prog 74 #[.pointer (some ⟨k.ps,0,none⟩),.int .i64 (Qa9 p)] W λ e w3=>e=.returned (.tuple #[.int .i64 (Qa6 st.s st.zs (Qa9 p) st.L).1,.bool (Qa6 st.s st.zs (Qa9 p) st.L).2.1])/\Sv D W k {st with L:=(Qa6 st.s st.zs (Qa9 p) st.L).2.2} c w3/\
   ((Qa6 st.s st.zs (Qa9 p) st.L).2.1=true->Calls prog 78 #[.pointer (some ⟨k.ps,0,none⟩),.int .i64 (Qa6 st.s st.zs (Qa9 p) st.L).1] w3 λ e w4=>e=.returned (.int .i64 (Qbv st.s st.zs (Qa6 st.s st.zs (Qa9 p) st.L).1))/\
    Calls prog 76 #[.slice a m cc,.int .i64 (Qbu st.s.b),.int .i64 (Qbv st.s st.zs (Qa6 st.s st.zs (Qa9 p) st.L).1 - 1)] w4 λ e w5=>e=.returned (.slice a (Qca st (Qa6 st.s st.zs (Qa9 p) st.L).1 (p :: l)) cc)/\
     Calls prog 79 #[.pointer (some ⟨k.ps,0,none⟩),.int .i64 (Qa6 st.s st.zs (Qa9 p) st.L).1,.slice a (Qca st (Qa6 st.s st.zs (Qa9 p) st.L).1 (p :: l)) cc] w5 λ e w6=>e=.returned (.tuple #[])/\Sv D W k (Qcu {st with L:=(Qa6 st.s st.zs (Qa9 p) st.L).2.2} (Qa6 st.s st.zs (Qa9 p) st.L).1 ((p :: l).take (Qca st (Qa6 st.s st.zs (Qa9 p) st.L).1 (p :: l)))) (c+Qca st (Qa6 st.s st.zs (Qa9 p) st.L).1 (p :: l)) w6):=by
 refine (Q15 (Qa9 p) h).mono ?_
 rintro e w3 ⟨rfl,sv3⟩;refine ⟨rfl,sv3,λ hb=>?_⟩
 obtain ⟨i,h1,h2,h3,h4⟩:=Qqq st.s st.zs (Qa9 p) _ st.L rfl hb;rw [h1];obtain ⟨D3,hv3,hD3,ho3⟩:=sv3;refine (Qib (i:Nat) hv3).mono ?_
 rintro e w4 ⟨rfl,b4⟩;have hR:=Qu2 h.wf.right;have hrl:=Qj6 st.s.b;have hat:=h.wf.at_le i;have hzb:=h.wf.right.2.2.2.1;have hr0:Qbv st.s st.zs i<=4096:=by unfold Qbv;omega
 have hr1:1<=Qbv st.s st.zs i:=by have:1<=Qa9 p:=(by unfold Qa9;split <;> omega);omega
 refine ⟨rfl,?_⟩
 have ho4:=ho3.under b4;have hl4:=hl.out ho4 (λ x hx=>(hX x hx).1);rw [<-hR.2];refine (Qzt a m cc (p :: l) X (Qbu st.s.b).toNat (Qbv st.s st.zs i - 1) hl4 hcc (by omega) ⟨by omega,by omega⟩).mono ?_
 rintro e w5 ⟨rfl,b5⟩;refine ⟨rfl,?_⟩
 have hv5:=(hv3.under b4).under b5;have hle:=(Qqj (p :: l) (Qbu st.s.b).toNat (Qbv st.s st.zs i - 1)).1;have hlm:=hl.1;refine (Qzo i hv5 (by show i<st.zs.length;rw [<-h.len.1];exact h2) a (Qca st i (p :: l)) cc ((p :: l).take (Qca st i (p :: l))) X ((hl4.below b5).front _ (by rw [<-hlm];exact hle)) (λ x hx=>⟨λ hs=>?_,?_⟩) (by have:Qca st i (p :: l)<=m:=(by rw [<-hlm];exact hle);omega)).mono ?_
 ·rcases hs with hs | hs
  ·rcases hD3 x hs with h | h
   ·exact (hX x hx).1 (.inl h)
   ·have:=(hX x hx).2;omega
  ·exact (hX x hx).1 (.inr hs)
 ·have:=(hX x hx).2;have:=ho4.size;have:=b5.size;omega
 ·rintro e w6 ⟨rfl,sv6⟩
  exact ⟨rfl,Sv.next hD3 (ho4.under b5) sv6⟩
set_option maxHeartbeats 4000000 in
theorem Q1n (h:StV D W k st c) (a:Option Addr) (n cc:Nat) (l:List Pt) (X:Nat->Prop) (hl:PtsIn X W a n l) (hcc:n<=cc) (hX:∀x,X x->¬StO D k x/\x<W.heap.size) (hc:c+n<100000) :
  Calls prog 29 #[.pointer (some ⟨k.ps,0,none⟩),.slice a n cc] W λ e w'=>e=.returned (.int .u16 (putM st l).1)/\Sv D W k (putM st l).2 (c+n) w':=by
 obtain ⟨s0,_⟩:=h.cells;have H:=Jh4 h hl hX hc;have hn1:=hl.2.1;have hfb:=Tryz.shape_b (.int .i64 st.s.z) (.int .i64 st.s.zb) (.int .i64 st.s.b) (.int .i64 st.s.r);have HSh:Hid (Calls prog 72 #[.pointer (some ⟨k.pd,0,none⟩)] W λ e w'=>e=.returned (.agg #[.int .i64 st.s.z,.int .i64 st.s.zb,.int .i64 st.s.b,.int .i64 st.s.r])/\Below W.heap.size W w'):=Qdf h.dv;clear h hl hX hc;go_enter func29,ntmps29
 go_wp2_with (go_at_call 72;refine HSh.out.mono ?_;rintro e W1 ⟨rfl,hb1⟩)
 clear s0 hfb HSh;have HB1:=Jh1 hb1;clear hb1;go_loopw [20] (λ x wr=>∃j:Nat,x=.int .i64 j/\j<=n/\Below W.heap.size W wr/\∀i p,i<j->l[i]?=some p->p.x=true\/(p.d.length:Int)=st.s.b) (λ x _=>n - (intOf x).toNat)
 case atStart=>exact ⟨0,rfl,Nat.zero_le _,HB1.out,λ i p hi=>by omega⟩
 case round=>
  obtain ⟨j,rfl,hj,hb,hok⟩:=hrel;rcases Nat.lt_or_ge j n with hlt | hge
  ·have hj':(j:Int)<n:=by omega
   have hwj:IntKind.i64.wrap ((j:Int)+1)=(j:Int)+1:=by rw [IntKind.wrap_i64];omega
   obtain ⟨p,b,off,hp,rfl,hbx,A1,L1,C1,hcl,hbin,_⟩:=((J2 H).below hb).at X hlt;have x0:wr.cell? ⟨b,off+j*4,none⟩=some (.int .u32 p.t):=hcl 0 _ rfl;have x1:wr.cell? ⟨b,off+j*4+1,none⟩=some (.int .u64 p.b):=hcl 1 _ rfl;have x2:wr.cell? ⟨b,off+j*4+2,none⟩=some (.bool p.x):=hcl 2 _ rfl;have x3:wr.cell? ⟨b,off+j*4+3,none⟩=some (.slice A1 L1 C1):=hcl 3 _ rfl;have hbV:∀o,Below W.heap.size W (wr.alloc o):=λ o=>hb.alloc hb.size o
   have hL:p.d.length=L1:=hbin.1;have HN:=Jh1 @hok;have HBV:=Jh1 @hbV;have HP:=Jh2 hp hL;clear hcl hbin hbV hp hok hb hL;cases hx:p.x with
   | true=>
    rw [hx] at x2;go_wp2
    go_roundw
    case rel=>exact ⟨j+1,by simp,by omega,HBV.out _,λ i q hi hq=>by
     rcases Nat.lt_or_ge i j with h | h
     ·exact HN.out i q h hq
     ·obtain rfl:i=j:=by omega
      rw [HP.out.1] at hq;cases hq
      exact .inl hx⟩
    case measure=>simp [intOf];omega
   | false=>
    rw [hx] at x2;by_cases hLb:(L1:Int)=st.s.b
    ·have hLn:((L1:Int) != st.s.b)=false:=by simp [hLb]
     go_wp2
     go_roundw
     case rel=>exact ⟨j+1,by simp,by omega,HBV.out _,λ i q hi hq=>by
      rcases Nat.lt_or_ge i j with h | h
      ·exact HN.out i q h hq
      ·obtain rfl:i=j:=by omega
       rw [HP.out.1] at hq;cases hq
       exact .inr (by rw [HP.out.2];exact hLb)⟩
     case measure=>simp [intOf];omega
    ·have hLn:((L1:Int) != st.s.b)=true:=by simp [hLb]
     have HM:Hid (putM st l=(1,st)):=by
      show _=_;unfold putM;rw [if_neg (λ ho=>by
       have:=ho p (List.mem_of_getElem? HP.out.1);rw [hx,HP.out.2] at this;exact hLb (this.resolve_left (by decide)))]
     clear hLb;go_wp2
     go_ret
     rw [HM.out];exact ⟨rfl,((Sv.start H.out.1).under (HBV.out _)).mono (by omega)⟩
  ·obtain rfl:j=n:=by omega
   have HO:Hid (okP st.s l/\Below W.heap.size W wr):=⟨λ p hp=>by
    obtain ⟨i,hi⟩:=List.getElem?_of_mem hp;exact hok i p (by have:=(List.getElem?_eq_some_iff.1 hi).1;rw [(J2 H).1] at this;exact this) hi,hb⟩
   clear hok hb;go_wp2_with fail
   go_loopw [8] (λ v wr=>∃(l':List Pt) (a':Option Addr) (m cc' f:Nat) (st':St) (c':Nat),v=.slice a' m cc'/\m<=cc'/\PtsIn X W a' m l'/\st'.s=st.s/\l'.length<=f/\c'+m<=c+j/\Sv D W k st' c' wr/\putF f st' l'=putF l.length st l) (λ v _=>Q3b v)
   case atStart=>exact ⟨l,a,j,cc,l.length,st,c,rfl,hcc,(J2 H),rfl,Nat.le_refl _,Nat.le_refl _,(Sv.start H.out.1).under HO.out.2,rfl⟩
   case round=>
    obtain ⟨l',a',m,cc',f,st',c',rfl,hmc,hpts,hss,hlf,hcm,⟨D',hv,hD,ho⟩,hput⟩:=hrel;have HM:Hid (putM st l=putF f st' l'):=by show _=_;unfold putM;rw [if_pos HO.out.1,hput]
    cases l' with
    | nil=>
     have hm0:m=0:=hpts.1.symm;subst hm0;have HS:Hid (Sv D W k st' (c+j) wr):=Sv.mono ⟨D',hv,hD,ho⟩ (by omega);clear hv hD ho hput hpts;go_wp2
     go_ret
     rw [HM.out,Q1s];exact ⟨rfl,HS.out⟩
    | cons p r=>
     obtain ⟨f,rfl⟩:∃f',f=f'+1:=⟨f - 1,by simp only [List.length_cons] at hlf;omega⟩
     have hm1:m=r.length+1:=hpts.1.symm;have hm0:0<m:=by omega
     have hm0':(0:Int)<m:=by omega
     have hpw:=hpts.out ho (λ x hx=>((J3 H) x hx).1);obtain ⟨p',b,off,hp,rfl,hbx,A1,L1,C1,hcl,_⟩:=hpw.at X hm0;simp only [List.getElem?_cons_zero,Option.some.injEq] at hp
     subst hp;have x0:wr.cell? ⟨b,off,none⟩=some (.int .u32 p.t):=by simpa using hcl 0 _ rfl
     have x1:wr.cell? ⟨b,off+1,none⟩=some (.int .u64 p.b):=by simpa using hcl 1 _ rfl
     have x2:wr.cell? ⟨b,off+2,none⟩=some (.bool p.x):=by simpa using hcl 2 _ rfl
     have x3:wr.cell? ⟨b,off+3,none⟩=some (.slice A1 L1 C1):=by simpa using hcl 3 _ rfl
     have hX':∀w',Below wr.heap.size wr w'->∀x,X x->¬StO D' k x/\x<w'.heap.size:=λ w' hb x hx=>⟨λ hs=>by
      rcases hs with hs | hs
      ·rcases hD x hs with h | h
       ·exact ((J3 H) x hx).1 (.inl h)
       ·have:=((J3 H) x hx).2;omega
      ·exact ((J3 H) x hx).1 (.inr hs),by have:=((J3 H) x hx).2;have:=ho.size;have:=hb.size;omega⟩
     have HNe:Hid (Calls prog 75 #[.agg #[.int .u32 p.t,.int .u64 p.b,.bool p.x,.slice A1 L1 C1]] wr λ e w'=>e=.returned (.int .i64 (Qa9 p))/\Below wr.heap.size wr w'):=Q2y p _ wr;have HSt:Hid (∀w',Below wr.heap.size wr w'->_):=λ w' hb=>Qym (hv.under hb) (some ⟨b,off,none⟩) m cc' p r X (hpw.below hb) hmc (hX' w' hb) (by have:=(Jz3 H);omega)
     have HSv:Hid ((∀x,D' x->D x\/W.heap.size<=x)/\(∀w',Below wr.heap.size wr w'->Out (StO D k) W w')):=⟨hD,λ w' hb=>ho.under hb⟩
     have HP:=Jh1 hpts;have hbs:st'.s.b=st.s.b:=by rw [hss]
     have HR:=Jh1 hv.wf.right;have HF:Hid (putF (f+1) st' (p :: r)=if (Qa6 st'.s st'.zs (Qa9 p) st'.L).2.1=true then putF f (Qcu {st' with L:=(Qa6 st'.s st'.zs (Qa9 p) st'.L).2.2} (Qa6 st'.s st'.zs (Qa9 p) st'.L).1 ((p :: r).take (Qca st' (Qa6 st'.s st'.zs (Qa9 p) st'.L).1 (p :: r)))) ((p :: r).drop (Qca st' (Qa6 st'.s st'.zs (Qa9 p) st'.L).1 (p :: r))) else (160,{st' with L:=(Qa6 st'.s st'.zs (Qa9 p) st'.L).2.2})):=rfl;have HOI:Hid ((Qa6 st'.s st'.zs (Qa9 p) st'.L).2.1=true->0<Qca st' (Qa6 st'.s st'.zs (Qa9 p) st'.L).1 (p :: r)/\Qca st' (Qa6 st'.s st'.zs (Qa9 p) st'.L).1 (p :: r)<=m/\Qbv st'.s st'.zs (Qa6 st'.s st'.zs (Qa9 p) st'.L).1<=4096/\1<=Qbv st'.s st'.zs (Qa6 st'.s st'.zs (Qa9 p) st'.L).1):=λ hb=>by
      obtain ⟨i,h1,h2,h3,h4⟩:=Qqq st'.s st'.zs (Qa9 p) _ st'.L rfl hb;rw [h1];have hle:=(Qqj (p :: r) (Qbu st'.s.b).toNat (Qbv st'.s st'.zs i - 1)).1;have hzb:=hv.wf.right.2.2.2.1;refine ⟨Qws hv.wf.right h4,by rw [hm1];exact hle,by unfold Qbv;omega,?_⟩
      have:1<=Qa9 p:=by unfold Qa9;split <;> omega
      omega
     generalize hoz:Qa6 st'.s st'.zs (Qa9 p) st'.L=oz at HSt HF HOI;obtain ⟨oa,ob,oL⟩:=oz;simp only at HSt HF HOI
     generalize hfn:Qca st' oa (p :: r)=fn at HSt HF HOI;have HM1:=Jh1 hm1;clear hcl hv hD ho hpw hX' hput hoz hfn hpts hm1;cases ob with
     | false=>
      rw [if_neg (by decide)] at HF;go_wp2_with (first
       | (go_at_call 75;refine HNe.out.mono ?_;rintro e w2 ⟨rfl,b2⟩)
       | (go_at_call 74;refine (HSt.out _ b2).mono ?_;rintro e w3 ⟨rfl,sv3,_⟩))
      go_ret
      rw [HM.out,HF.out];exact ⟨rfl,Sv.mono (Sv.next HSv.out.1 (HSv.out.2 _ b2) sv3) (by omega)⟩
     | true=>
      rw [if_pos rfl] at HF;obtain ⟨hn0,hnm,hr1,hr2⟩:=HOI.out rfl;obtain ⟨RZ,hRZ⟩:∃RZ,RZ=Qbv st'.s st'.zs oa:=⟨_,rfl⟩
      rw [<-hRZ] at hr1 hr2;have hwr:IntKind.i64.wrap (RZ - 1)=RZ - 1:=by rw [IntKind.wrap_i64];omega
      have hrm:=Qu0 st.s.b;have hsb:=Qou (some ⟨b,off,none⟩) m cc' fn hnm;rw [<-hRZ,hbs] at HSt;have HS2:Hid (∀w',Below wr.heap.size wr w'->Calls prog 74 #[.pointer (some ⟨k.ps,0,none⟩),.int .i64 (Qa9 p)] w' λ e w3=>e=.returned (.tuple #[.int .i64 oa,.bool true])/\Calls prog 78 #[.pointer (some ⟨k.ps,0,none⟩),.int .i64 oa] w3 λ e w4=>e=.returned (.int .i64 RZ)/\Calls prog 76 #[.slice (some ⟨b,off,none⟩) m cc',.int .i64 (Qbu st.s.b),.int .i64 (RZ - 1)] w4 λ e w5=>e=.returned (.slice (some ⟨b,off,none⟩) fn cc')/\Calls prog 79 #[.pointer (some ⟨k.ps,0,none⟩),.int .i64 oa,.slice (some ⟨b,off,none⟩) fn cc'] w5 λ e w6=>e=.returned (.tuple #[])/\Sv D' w' k (Qcu {st' with L:=oL} oa ((p :: r).take fn)) (c'+fn) w6):=λ w' hb=>(HSt.out w' hb).mono (λ e w3 h=>⟨h.1,h.2.2 rfl⟩)
      clear hRZ HOI HSt;go_wp2_with (first
       | (go_at_call 75;refine HNe.out.mono ?_;rintro e w2 ⟨rfl,b2⟩)
       | (go_at_call 74;refine (HS2.out _ b2).mono ?_;rintro e w3 ⟨rfl,hst2⟩)
       | (go_at_call 77;refine (hrm _).mono ?_;rintro e w9 ⟨rfl,rfl⟩)
       | (go_at_call 78;refine hst2.mono ?_;rintro e w4 ⟨rfl,hst3⟩)
       | (go_at_call 76;refine hst3.mono ?_;rintro e w5 ⟨rfl,hst4⟩)
       | (go_at_call 79;refine hst4.mono ?_;rintro e w6 ⟨rfl,sv6⟩))
      have H6:Hid (Sv D W k (Qcu {st' with L:=oL} oa ((p :: r).take fn)) (c'+fn) w6):=Sv.next HSv.out.1 (HSv.out.2 _ b2) sv6;have HW6:Hid (PtsIn X W (Qfo (some ⟨b,off,none⟩) cc' fn) (m - fn) ((p :: r).drop fn)):=HP.out.back fn hnm hmc;clear sv6;go_wp2
      go_roundw
      case rel=>exact ⟨(p :: r).drop fn,Qfo (some ⟨b,off,none⟩) cc' fn,m - fn,cc' - fn,f,Qcu {st' with L:=oL} oa ((p :: r).take fn),c'+fn,rfl,by omega,HW6.out,hss,by rw [List.length_drop];simp only [List.length_cons] at hlf ⊢;omega,by omega,H6.out,by rw [<-HF.out,<-HM.out];unfold putM;rw [if_pos HO.out.1]⟩
      case measure=>simp [Q3b];omega
end
end
theorem Q2s {w:World} {g n:Nat} {F:List Int} (h:Blk w g (u8s F) 5) (hn:F.length=n) (hf:∀z∈F,Qaf z) (hm:n<=maxLen):BIn w (some ⟨g,0,none⟩) n F:=by
 refine ⟨hn,hm,hf,.inr ⟨g,0,rfl,λ i hi=>?_⟩⟩
 rw [Nat.zero_add,h.cell];simp [u8s,List.getD,show i<F.length by omega]
section
section
variable {X Y O:Nat->Prop} {w w':World} {l:List Pt} {vs:List Value}
end
section
variable {X:Nat->Prop} {q:Nat} {W wr w':World} {A:Option Addr} {j C:Nat} {l:List Pt}
end
end
def trB (b:Bool):Int:=if b=true then 1 else 0
end Go.Proofs.YtcdnjeiamihhbaaGreat
namespace Go.Proofs.YtcdnjeiamihhbaaGreat
open Go.RowKit Go.ChangeShapes Go.WideShapes
section
section
variable {H:Type} {enc:TypeId × Value->H} {W:World}
abbrev Came (enc:TypeId × Value->H) (W:World) (t:TypeId) (v:Value) (d:DataW H) (p:List MemPlace):Prop:=DataW.Trod enc prog W 0 (λ _=>true) true t v d p
def F64 (z:Int):Prop:=-9223372036854775808<=z/\z<9223372036854775808
theorem Qnm {v:Value} {n:Nat} {y:DataW H × List MemPlace} (h:DataW.trod enc prog W 0 (λ _=>true) true n 3 [v]=some y):∃z,v=.int .i64 z/\F64 z:=by
 obtain ⟨z,hv,_,hw⟩:=DataW.trod_int Tryz.underlying3 h;have:=bounds_i64 hw;simp only [List.cons.injEq,and_true] at hv
 exact ⟨z,hv,by unfold F64;omega⟩
theorem Qko {t e:TypeId} {v:Value} {n:Nat} {y:DataW H × List MemPlace} (ht:prog.underlying t=some (.slice e)) (h:DataW.trod enc prog W 0 (λ _=>true) true n t [v]=some y):∃a l c,v=.slice a l c:=by
 rcases DataW.trod_slice ht h with ⟨hcs,_⟩ | ⟨a,l,c,_,_,_,_,hcs,_⟩
 ·simp only [List.cons.injEq,and_true] at hcs;exact ⟨_,_,_,hcs⟩
 ·simp only [List.cons.injEq,and_true] at hcs;exact ⟨_,_,_,hcs⟩
theorem Qtf {k:IntKind} {a:Option Addr} {len cap:Nat} {t e:TypeId} {fuel:Nat} {x:DataW H × List MemPlace} (ht:prog.underlying t=some (.slice e)) (he:prog.underlying e=some (.int k)) (hc:prog.cellsOf e=1)
  (h:DataW.trod enc prog W 0 (λ _=>true) true fuel t [.slice a len cap]=some x) :
  (a=none/\len=0/\cap=0)\/∃(b off:Nat) (zs:List Int),(len=0\/a=some ⟨b,off,none⟩)/\a≠none/\len<=cap/\cap<=maxLen/\zs.length=cap/\(∀z∈zs,(Lit.int k z).wf=true)/\∀i,i<len->W.cell? ⟨b,off+i,none⟩=some (.int k (zs.getD i 0)):=by
 rcases open_ints ht he hc h with ⟨hcs,_⟩ | ⟨x,l,c,zs,hcs,_,hl,hm,hz,_,hcell,hwz⟩
 ·simp at hcs
  obtain ⟨rfl,rfl,rfl⟩:=hcs;exact .inl ⟨rfl,rfl,rfl⟩
 ·simp at hcs
  obtain ⟨rfl,rfl,rfl⟩:=hcs;right
  have hz':zs.length=cap:=by simpa using hz
  by_cases h0:len=0
  ·exact ⟨0,0,zs,.inl h0,by simp,hl,hm,hz',hwz,λ i hi=>by omega⟩
  ·obtain ⟨b,off,spot⟩:=x
   have hc0:=hcell 0 (by omega);have hs:spot=none:=by simpa [Addr.add] using World.cell?_spot hc0
   subst hs;refine ⟨b,off,zs,.inr rfl,by simp,hl,hm,hz',hwz,λ i hi=>?_⟩
   have:=hcell i (by omega);rwa [Addr.add_mid] at this
theorem Qy2 {a:Option Addr} {len cap:Nat} {fuel:Nat} {x:DataW H × List MemPlace} (h:DataW.trod enc prog W 0 (λ _=>true) true fuel 71 [.slice a len cap]=some x) :
  ∃zs,BIn W a len zs/\len<=cap/\(a=none->len=0/\cap=0):=by
 rcases Qtf Tryz.underlying71 Tryz.underlying5 (by kernel_rfl) h with ⟨rfl,rfl,rfl⟩ | ⟨b,off,zs,ha,hn,hl,hm,hz,hwz,hcell⟩
 ·exact ⟨[],Qx5 _,Nat.le_refl _,λ _=>⟨rfl,rfl⟩⟩
 ·refine ⟨zs.take len,⟨by simp [hz];omega,Nat.le_trans hl hm,λ z hz'=>?_,?_⟩,hl,λ h=>absurd h hn⟩
  ·have:=bounds_u8 (hwz z (List.mem_of_mem_take hz'))
   unfold Qaf;omega
  ·rcases ha with ha | ha
   ·exact .inl ha
   ·exact .inr ⟨b,off,ha,λ i hi=>by rw [hcell i hi];simp [List.getD,hi]⟩
theorem Quu {α:Type} {n:Nat} {p:Nat->α->Prop} (h:∀i,i<n->∃x,p i x):∃l:List α,l.length=n/\∀i x,l[i]?=some x->p i x:=by
 induction n with
 | zero=>exact ⟨[],rfl,λ i x hx=>by simp at hx⟩
 | succ n ih=>
  obtain ⟨l,hl,hp⟩:=ih (λ i hi=>h i (by omega));obtain ⟨x,hx⟩:=h n (by omega);refine ⟨l ++ [x],by simp [hl],λ i y hy=>?_⟩
  by_cases hi:i<l.length
  ·rw [List.getElem?_append_left hi] at hy
   exact hp i y hy
  ·have hi':i=l.length:=by
    have:=(List.getElem?_eq_some_iff.1 hy).1;simp at this
    omega
   subst hi';simp at hy
   subst hy;rw [hl];exact hx
theorem Qvt {t e:TypeId} {sz:Nat} {a:Option Addr} {len cap fuel:Nat} {y:DataW H × List MemPlace} (ht:prog.underlying t=some (.slice e)) (hc:prog.cellsOf e=sz) (hs0:0<sz) (h:DataW.trod enc prog W 0 (λ _=>true) true fuel t [.slice a len cap]=some y) :
  (len<=cap/\cap<=maxLen/\(a=none->len=0/\cap=0))/\(len=0\/∃b off,a=some ⟨b,off,none⟩/\∀i,i<len->∃cs,cs.length=sz/\(∀j,j<sz->W.cell? ⟨b,off+i*sz+j,none⟩=cs[j]?)/\∃fuel' y',DataW.trod enc prog W 0 (λ _=>true) true fuel' e cs=some y'):=by
 rcases Deep.open_slice ht h with ⟨hcs,_⟩ | ⟨x,l,c,m,n,D,Pl,hcs,_,hl,hm,hmm,_,hx⟩
 ·simp at hcs
  obtain ⟨rfl,rfl,rfl⟩:=hcs;exact ⟨⟨Nat.le_refl _,Nat.zero_le _,λ _=>⟨rfl,rfl⟩⟩,.inl rfl⟩
 ·simp at hcs
  obtain ⟨rfl,rfl,rfl⟩:=hcs;simp only [if_true] at hmm
  subst hmm;rw [hc] at hx;refine ⟨⟨hl,hm,λ h=>by cases h⟩,?_⟩
  by_cases h0:len=0
  ·exact .inl h0
  ·obtain ⟨b,off,spot⟩:=x
   obtain ⟨cs,h1,_⟩:=hx 0 (by omega);obtain ⟨_,hlen,hcell⟩:=World.cells?_some h1;have hc0:=hcell 0 (by omega);rw [List.getElem?_eq_getElem (by omega)] at hc0;have hs:spot=none:=by simpa [Addr.add] using World.cell?_spot hc0
   subst hs;refine .inr ⟨b,off,rfl,λ i hi=>?_⟩
   obtain ⟨cs',h1',h2'⟩:=hx i (by omega);obtain ⟨_,hlen',hcell'⟩:=World.cells?_some h1';refine ⟨cs',hlen',λ j hj=>?_,_,_,h2'⟩
   have:=hcell' j (by omega);rw [Addr.add_mid,Addr.add_mid] at this;exact this
def ShF (s:Sh):Prop:=F64 s.z/\F64 s.zb/\F64 s.b/\F64 s.r
theorem Qsw {r:Reach} {b0:Nat} {v:Value} {d:DataW H} {p:List MemPlace} (hv:Value.okWide prog W r b0 23 v) (h:Came enc W 23 v d p):∃s:Sh,v=.agg (shL s).toArray/\ShF s:=by
 obtain ⟨cs,rfl,hsz⟩:=okWide_struct Tryz.underlying23 hv;obtain ⟨fuel,hf⟩:=h;have hf':DataW.trod enc prog W 0 (λ _=>true) true fuel 23 cs.toList=some (d,p):=by simpa [Value.cells] using hf
 obtain ⟨xs,m,_,_,hlen,hxl,hf⟩:=DataW.trod_struct Tryz.underlying23 hf';have hc4:prog.cellsOf 23=4:=by kernel_rfl
 rw [hc4] at hlen;obtain ⟨L,rfl⟩:∃L:List Value,cs=L.toArray:=⟨cs.toList,by simp⟩
 simp only at hlen hf
 match L,hlen,xs,hxl with
 | [v0,v1,v2,v3],_,[x0,x1,x2,x3],_=>
  have h0:=hf 0 _ rfl;have h1:=hf 1 _ rfl;have h2:=hf 2 _ rfl;have h3:=hf 3 _ rfl;simp only [List.getElem?_cons_zero,List.getElem?_cons_succ] at h0 h1 h2 h3
  obtain ⟨z,rfl,f0⟩:=Qnm h0;obtain ⟨zb,rfl,f1⟩:=Qnm h1;obtain ⟨b,rfl,f2⟩:=Qnm h2;obtain ⟨r,rfl,f3⟩:=Qnm h3;exact ⟨⟨z,zb,b,r⟩,rfl,f0,f1,f2,f3⟩
end
end
end Go.Proofs.YtcdnjeiamihhbaaGreat
namespace Go.Proofs.YtcdnjeiamihhbaaGreat
open Go.RowKit
theorem Q27 (s:Sh) {i:Nat} (h1:1<=i):atZ (st0 s).zs i=([],0):=by
 have he:∀(n i:Nat),atZ (Qb5 n) i=([],0):=λ n i=>by
  unfold atZ Qb5;rw [if_pos (by omega),Int.toNat_natCast,List.getD_eq_getElem?_getD];by_cases h:i<n
  ·simp [h]
  ·simp [h]
 show atZ (svZ s (Qb5 s.z.toNat) 0 0 []) i=([],0);unfold svZ;split
 ·unfold putZ Qjw
  have h2:=he s.z.toNat i;unfold atZ at h2 ⊢;rw [if_pos (by omega),Int.toNat_natCast,List.getD_eq_getElem?_getD] at h2 ⊢;rw [List.getElem?_mapIdx,List.getElem?_set_ne (by simp;omega)];cases hz:(Qb5 s.z.toNat)[i]? with
  | none=>rfl
  | some z=>rw [hz] at h2;simp only [Option.getD_some] at h2;subst h2;rfl
 ·exact he _ _
def s6:Sh:=⟨6,8,64,2⟩
theorem Qic:Qat s6:=by unfold Qat s6 Powers;simp
def pA:Pt:=⟨1,5,false,List.replicate 64 0⟩
theorem Qt0:pA.Fits:=⟨by unfold Qas pA;simp,by unfold Qai pA;simp,λ z hz=>by have:=List.eq_of_mem_replicate hz;subst this;unfold Qaf;omega⟩
theorem Qrt {st:St} {p:Pt} {i:Nat} {L':List Int} (ho:okP st.s [p]) (hz:Qa6 st.s st.zs (Qa9 p) st.L=((i:Int),true,L')) (hf:Qca st i [p]=1):putM st [p]=(0,Qcu {st with L:=L'} i [p]):=by
 unfold putM;rw [if_pos ho];show putF 1 st [p]=_;unfold putF;rw [hz];simp only [if_pos]
 rw [hf];rfl
section
section
variable {D:Nat->Prop} {W:World} {k:Bs} {st:St} {c:Nat}
theorem Q1i (h:StV D W k st c):Calls prog 33 #[.pointer (some ⟨k.ps,0,none⟩)] W λ e w'=>e=.returned (.pointer (some ⟨k.pm,0,none⟩))/\w'=W:=by
 obtain ⟨_,_,s2,_⟩:=h.cells;clear h;go_enter func33,ntmps33
 go_wp2
 go_ret
 exact ⟨rfl,rfl⟩
theorem Qwk (h:StV D W k st c):Calls prog 17 #[.pointer (some ⟨k.ps,0,none⟩)] W λ e w'=>e=.returned (.pointer (some ⟨k.pd,0,none⟩))/\w'=W:=by
 obtain ⟨s0,_⟩:=h.cells;clear h;go_enter func17,ntmps17
 go_wp2
 go_ret
 exact ⟨rfl,rfl⟩
theorem Qul (h:StV D W k st c):Calls prog 21 #[.pointer (some ⟨k.ps,0,none⟩)] W λ e w'=>e=.returned (.int .u64 st.q)/\w'=W:=by
 obtain ⟨_,_,_,s3,_⟩:=h.cells;clear h;go_enter func21,ntmps21
 go_wp2
 go_ret
 exact ⟨rfl,rfl⟩
theorem Qz1 (h:StV D W k st c) (p:Pt) (a:Option Addr) (n cc:Nat) (hp:p.Fits) (hn:n<=10000) (hnil:a=none->n=0/\cc=0) {V:World} {g:Nat} {B:Nat} (hb:Below W.heap.size W V) (hB:B=W.heap.size) (hg:Blk V g [.int .u32 p.t,.int .u64 p.b,.bool p.x,.slice a n cc] 73) (hgB:B<=g) (hd:BIn V a n p.d) (hda:n≠0->∀y,a.map (·.block)=some y->B<=y/\y<V.heap.size) (hc:c+1<100000) :
  Calls prog 29 #[.pointer (some ⟨k.ps,0,none⟩),.slice (some ⟨g,0,none⟩) 1 1] V λ e w'=>e=.returned (.int .u16 (putM st [p]).1)/\Sv D W k (putM st [p]).2 (c+1) w':=by
 subst hB;have hlt:∀x,StO D k x->x<W.heap.size:=λ x hx=>by rcases hx with hx | hx;exact h.lt x hx;exact h.kin x hx
 refine (Q1n (h.under hb) (some ⟨g,0,none⟩) 1 1 [p] (λ x=>W.heap.size<=x/\x<V.heap.size) ⟨rfl,by omega,.inr ⟨g,0,rfl,⟨hgB,hg.lt⟩,λ i q hq=>?_⟩⟩ (Nat.le_refl _) (λ x hx=>⟨λ hs=>?_,hx.2⟩) hc).mono ?_
 ·have hi:i=0:=by have:=(List.getElem?_eq_some_iff.1 hq).1;simpa using this
  subst hi;simp only [List.getElem?_cons_zero,Option.some.injEq] at hq
  subst hq;exact ⟨a,n,cc,λ j v hv=>by rw [show 0+0*4+j=j by omega,hg.cell];exact hv,hd,hnil,hn,λ h0 y hy=>hda h0 y hy,hp⟩
 ·have:=hlt x hs;have:=hx.1;omega
 ·rintro e w' ⟨rfl,sv⟩
  exact ⟨rfl,sv.from hb⟩
end
end
section
def shC (s:Sh):List Value:=[.int .i64 s.z,.int .i64 s.zb,.int .i64 s.b,.int .i64 s.r]
section
variable {w W W':World} {s:Sh} {D:Nat->Prop} {k:Bs} {st st':St} {c c':Nat} {A:Option Addr} {n C:Nat} {l:List Pt}
end
section
variable {w W W':World} {s:Sh} {D:Nat->Prop} {k:Bs} {st st':St} {c c':Nat} {A:Option Addr} {n C:Nat} {l:List Pt} {B:Nat}
end
end
section
structure Sq (w W:World) (s:Sh) (D:Nat->Prop) (k:Bs) (st:St) (c:Nat) (i:Nat):Prop where
 sv:StV D W k st c
 bel:Below w.heap.size w W
 sh:Blk W w.heap.size (shC s) 23
 low:∀x,StO D k x->w.heap.size<x
 inv:Inv st
 ss:st.s=s
 qb:0<=st.q/\st.q<=30*i
 cb:c<=30*i
section
variable {w W W':World} {s:Sh} {D:Nat->Prop} {k:Bs} {st:St} {c i:Nat}
end
end
section
def LmE (M:Nat->Prop) (w:World) (r:Nat) (S:List Pl):Prop:=
 (∃a n cc,Blk w r [.slice a n cc] 252/\w.ownsRow 0 137 4 (.slice a n cc) n (plC S)/\∀g,(Value.slice a n cc).ownBlock=some g->M g)/\Good S
theorem LmE.d {M:Nat->Prop} {w:World} {r:Nat} {S:List Pl} (h:LmE M w r S):LmD w r S:=by
 obtain ⟨⟨a,n,cc,h1,h2,_⟩,hg⟩:=h;exact ⟨⟨a,n,cc,h1,h2⟩,hg⟩
theorem LmE.lt {M:Nat->Prop} {w:World} {r:Nat} {S:List Pl} (h:LmE M w r S):r<w.heap.size:=h.d.lt
theorem LmE.out {M O:Nat->Prop} {w w':World} {r:Nat} {S:List Pl} (h:LmE M w r S) (ho:Out O w w') (hr:¬O r) (hM:∀x,M x->¬O x):LmE M w' r S:=by
 obtain ⟨⟨a,n,cc,h1,h2,h3⟩,hg⟩:=h;exact ⟨⟨a,n,cc,ho.blk h1 hr,ho.own h2 (λ g hg=>hM g (h3 g hg)),h3⟩,hg⟩
theorem LmN.e {B:Nat} {w:World} {r:Nat} {S:List Pl} (h:LmN B w r S):LmE (λ x=>B<=x/\x<w.heap.size) w r S:=by
 obtain ⟨⟨a,n,cc,h1,h2⟩,hg⟩:=h;exact ⟨⟨a,n,cc,h1,Qbh h2,λ g hg=>h2.lt g hg⟩,hg⟩
structure Rs where
 ps:Nat
 pd:Nat
 pg:Nat
 gg:Nat
 gc:Nat
 pm:Nat
 lb:Nat
def Rs.has (k:Rs) (x:Nat):Prop:=x=k.ps\/x=k.pg\/x=k.gg\/x=k.pm\/x=k.lb
def sdL (k:Rs) (q:Int) (n:Nat) (o:Int):List Value:=[.pointer (some ⟨k.pd,0,none⟩),.pointer (some ⟨k.pg,0,none⟩),.pointer (some ⟨k.pm,0,none⟩),.int .u64 q,.slice (some ⟨k.lb,0,none⟩) n n,.int .i64 o]
structure SdV (D M:Nat->Prop) (W:World) (k:Rs) (st:St):Prop where
 hp:Blk W k.ps (sdL k st.q st.la.length st.o) 48
 dv:Dv 101 D W k.pd st.s st.zs
 sg:SegR W k.pg k.gg k.gc st.s st.L
 mp:LmE M W k.pm st.S
 hl:Blk W k.lb (Qaj .u64 st.la) 45
 wf:Wf st.s st.zs
 fq:Qai st.q
 len:st.L.length=st.zs.length/\st.la.length=st.zs.length
 lt:∀x,D x\/M x->x<W.heap.size
 nd:∀x,k.has x->¬D x/\¬M x
 dm:∀x,D x->¬M x
 ap:[k.ps,k.pg,k.gg,k.pm,k.lb].Nodup
def SdO (D M:Nat->Prop) (k:Rs):Nat->Prop:=λ x=>D x\/M x\/k.has x
def Sd (R:Nat->Prop) (V:World) (k:Rs) (st:St) (W:World):Prop:=∃D M,SdV D M W k st/\(∀x,SdO D M k x->R x\/V.heap.size<=x)/\Out R V W
section
variable {D M R:Nat->Prop} {V W W':World} {k:Rs} {st st':St}
theorem Qq8 {a b c d e:Nat} (h:[a,b,c,d,e].Nodup):(a≠b/\a≠c/\a≠d/\a≠e)/\(b≠c/\b≠d/\b≠e)/\(c≠d/\c≠e)/\d≠e:=by
 simpa [List.nodup_cons,not_or,and_assoc] using h
theorem SdV.kin (h:SdV D M W k st):∀x,k.has x->x<W.heap.size:=by
 rintro x (rfl | rfl | rfl | rfl | rfl)
 ·exact h.hp.lt
 ·exact h.sg.lt.1
 ·exact h.sg.lt.2
 ·exact h.mp.lt
 ·exact h.hl.lt
theorem SdV.out {O:Nat->Prop} (h:SdV D M W k st) (ho:Out O W W') (hO:∀x,SdO D M k x->¬O x):SdV D M W' k st:=by
 have hk:∀x,k.has x->¬O x:=λ x hx=>hO x (.inr (.inr hx))
 refine ⟨ho.blk h.hp (hk _ (.inl rfl)),?_,h.sg.out ho (hk _ (.inr (.inl rfl))) (hk _ (.inr (.inr (.inl rfl)))),h.mp.out ho (hk _ (.inr (.inr (.inr (.inl rfl))))) (λ x hx=>hO x (.inr (.inl hx))),ho.blk h.hl (hk _ (.inr (.inr (.inr (.inr rfl))))),h.wf,h.fq,h.len,λ x hx=>Nat.lt_of_lt_of_le (h.lt x hx) ho.size,h.nd,h.dm,h.ap⟩
 obtain ⟨g,cc,vs,hv⟩:=h.dv;exact ⟨g,cc,vs,hv.out ho (λ x hx=>hO x (.inl hx))⟩
theorem SdV.under (h:SdV D M W k st) (hb:Below W.heap.size W W'):SdV D M W' k st:=h.out (Qab Non hb) (λ _ _ e=>e)
theorem Sd.start (h:SdV D M W k st):Sd (SdO D M k) W k st W:=⟨D,M,h,λ _ h=>.inl h,Out.refl _ _⟩
theorem Sd.under (h:Sd R V k st W) (hb:Below W.heap.size W W'):Sd R V k st W':=by
 obtain ⟨D,M,h1,h2,h3⟩:=h;exact ⟨D,M,h1.under hb,h2,h3.under hb⟩
theorem Sd.next (hR:∀x,SdO D M k x->R x\/V.heap.size<=x) (ho:Out R V W) (h:Sd (SdO D M k) W k st' W'):Sd R V k st' W':=by
 obtain ⟨D',M',h1,h2,h3⟩:=h;refine ⟨D',M',h1,λ x hx=>?_,ho.trans h3 (λ j hj=>hR j hj)⟩
 rcases h2 x hx with h | h
 ·exact hR x h
 ·have:=ho.size;exact .inr (by omega)
theorem Sd.from {W1:World} (hb:Below V.heap.size V W1) (h:Sd R W1 k st W):Sd R V k st W:=by
 obtain ⟨D,M,h1,h2,h3⟩:=h;refine ⟨D,M,h1,λ x hx=>?_,(Qab _ hb).trans h3 (λ j e=>.inl e)⟩
 rcases h2 x hx with h | h
 ·exact .inl h
 ·have:=hb.size;exact .inr (by omega)
theorem SdV.sgstep {L':List Int} (h:SdV D M W k st) (hs:SegR W' k.pg k.gg k.gc st.s L') (ho:Out (λ j=>j=k.gg) W W') (hl:L'.length=st.L.length):Sd (SdO D M k) W k {st with L:=L'} W':=by
 obtain ⟨a1,a2,a3,a4⟩:=Qq8 h.ap;have hg:=h.nd k.gg (.inr (.inr (.inl rfl)));refine ⟨D,M,⟨ho.blk h.hp (by omega),?_,hs,h.mp.out ho (by omega) (λ x hx e=>by subst e;exact hg.2 hx),ho.blk h.hl (by omega),h.wf,h.fq,by rw [hl];exact h.len,λ x hx=>Nat.lt_of_lt_of_le (h.lt x hx) ho.size,h.nd,h.dm,h.ap⟩,λ x hx=>.inl hx,ho.mono (λ j e _=>.inr (.inr (.inr (.inr (.inl e)))))⟩
 obtain ⟨g,cc,vs,hv⟩:=h.dv;exact ⟨g,cc,vs,hv.out ho (λ x hx e=>by subst e;exact hg.1 hx)⟩
theorem SdV.mpstep {S':List Pl} (h:SdV D M W k st) (hs:LmN W.heap.size W' k.pm S') (ho:Out (λ j=>j=k.pm) W W'):Sd (SdO D M k) W k {st with S:=S'} W':=by
 obtain ⟨a1,a2,a3,a4⟩:=Qq8 h.ap;have hg:=h.nd k.pm (.inr (.inr (.inr (.inl rfl))));refine ⟨D,λ x=>W.heap.size<=x/\x<W'.heap.size,⟨ho.blk h.hp (by omega),?_,h.sg.out ho (by omega) (by omega),hs.e,ho.blk h.hl (by omega),h.wf,h.fq,h.len,?_,?_,?_,h.ap⟩,?_,ho.mono (λ j e _=>.inr (.inr (.inr (.inr (.inr (.inl e))))))⟩
 ·obtain ⟨g,cc,vs,hv⟩:=h.dv
  exact ⟨g,cc,vs,hv.out ho (λ x hx e=>by subst e;exact hg.1 hx)⟩
 ·rintro x (hx | hx)
  ·exact Nat.lt_of_lt_of_le (h.lt x (.inl hx)) ho.size
  ·exact hx.2
 ·intro x hx
  refine ⟨(h.nd x hx).1,λ hm=>?_⟩
  have:=h.kin x hx;omega
 ·intro x hx hm
  have:=h.lt x (.inl hx);omega
 ·rintro x (hx | hx | hx)
  ·exact .inl (.inl hx)
  ·exact .inr hx.1
  ·exact .inl (.inr (.inr hx))
theorem SdV.setP (h:SdV D M W k st) {q o:Int} {i:Nat} {v:Value} (hL:(sdL k st.q st.la.length st.o).set i v=sdL k q st.la.length o) (hq:Qai q):Sd (SdO D M k) W k {st with q:=q,o:=o} (W.setCell ⟨k.ps,i,none⟩ v):=by
 obtain ⟨a1,a2,a3,a4⟩:=Qq8 h.ap;have n1:¬k.pg=k.ps:=λ e=>a1.1 e.symm
 have n2:¬k.gg=k.ps:=λ e=>a1.2.1 e.symm
 have n3:¬k.pm=k.ps:=λ e=>a1.2.2.1 e.symm
 have n4:¬k.lb=k.ps:=λ e=>a1.2.2.2 e.symm
 have hg:=h.nd k.ps (.inl rfl);have ho:=Qdg W k.ps i v;have hp:=h.hp.set i v;rw [hL] at hp;clear hL a1 a2 a3 a4;generalize W.setCell ⟨k.ps,i,none⟩ v=W' at ho hp ⊢;have dv:Dv 101 D W' k.pd st.s st.zs:=by
  obtain ⟨g,cc,vs,hv⟩:=h.dv;exact ⟨g,cc,vs,hv.out ho (λ x hx e=>by subst e;exact hg.1 hx)⟩
 have hlt:∀x,D x\/M x->x<W'.heap.size:=λ x hx=>Nat.lt_of_lt_of_le (h.lt x hx) ho.size
 exact ⟨D,M,⟨hp,dv,h.sg.out ho n1 n2,h.mp.out ho n3 (λ x hx e=>by subst e;exact hg.2 hx),ho.blk h.hl n4,h.wf,hq,h.len,hlt,h.nd,h.dm,h.ap⟩,λ x hx=>.inl hx,ho.mono (λ j e _=>.inr (.inr (.inl e)))⟩
theorem SdV.setLa (h:SdV D M W k st) (i:Nat) (b:Int):Sd (SdO D M k) W k {st with la:=st.la.set i b} (W.setCell ⟨k.lb,i,none⟩ (.int .u64 b)):=by
 obtain ⟨a1,a2,a3,a4⟩:=Qq8 h.ap;have hg:=h.nd k.lb (.inr (.inr (.inr (.inr rfl))));have ho:Out (λ j=>j=k.lb) W (W.setCell ⟨k.lb,i,none⟩ (.int .u64 b)):=Qdg W k.lb i _;have hp:=h.hl.set i (.int .u64 b);rw [Qnj] at hp;generalize W.setCell ⟨k.lb,i,none⟩ (.int .u64 b)=W' at ho hp ⊢;refine ⟨D,M,⟨?_,?_,h.sg.out ho (by omega) (by omega),h.mp.out ho (by omega) (λ x hx e=>by subst e;exact hg.2 hx),hp,h.wf,h.fq,⟨h.len.1,by simpa using h.len.2⟩,λ x hx=>Nat.lt_of_lt_of_le (h.lt x hx) ho.size,h.nd,h.dm,h.ap⟩,λ x hx=>.inl hx,ho.mono (λ j e _=>.inr (.inr (.inr (.inr (.inr (.inr e))))))⟩
 ·have:=ho.blk h.hp (by omega)
  simpa using this
 ·obtain ⟨g,cc,vs,hv⟩:=h.dv
  exact ⟨g,cc,vs,hv.out ho (λ x hx e=>by subst e;exact hg.1 hx)⟩
theorem SdV.cells (h:SdV D M W k st):W.cell? ⟨k.ps,0,none⟩=some (.pointer (some ⟨k.pd,0,none⟩))/\W.cell? ⟨k.ps,1,none⟩=some (.pointer (some ⟨k.pg,0,none⟩))/\W.cell? ⟨k.ps,2,none⟩=some (.pointer (some ⟨k.pm,0,none⟩))/\W.cell? ⟨k.ps,3,none⟩=some (.int .u64 st.q)/\W.cell? ⟨k.ps,4,none⟩=some (.slice (some ⟨k.lb,0,none⟩) st.la.length st.la.length)/\W.cell? ⟨k.ps,5,none⟩=some (.int .i64 st.o):=
 ⟨h.hp.cell 0,h.hp.cell 1,h.hp.cell 2,h.hp.cell 3,h.hp.cell 4,h.hp.cell 5⟩
theorem SdV.dcells (h:SdV D M W k st):W.cell? ⟨k.pd,0,none⟩=some (.int .i64 st.s.z)/\W.cell? ⟨k.pd,1,none⟩=some (.int .i64 st.s.zb)/\W.cell? ⟨k.pd,2,none⟩=some (.int .i64 st.s.b)/\W.cell? ⟨k.pd,3,none⟩=some (.int .i64 st.s.r):=by
 obtain ⟨g,cc,vs,hv⟩:=h.dv;exact ⟨hv.pcell.1,hv.pcell.2.1,hv.pcell.2.2.1,hv.pcell.2.2.2.1⟩
end
end
end Go.Proofs.YtcdnjeiamihhbaaGreat
