/- P29 -/
import Derived.Test.YtcdnjeiamihhbaaGreatP28
set_option linter.unusedVariables false
set_option maxRecDepth 4000
open Go.Proofs.Tryz
namespace Go.Proofs.YtcdnjeiamihhbaaGreat
open Go.RowKit
theorem Sd.farP {P:Nat->Prop} {R:Nat->Prop} {W V W':World} {k:Rs} {st:St} (h:Sd R V k st W') (hb:Below W.heap.size W V) (hR:∀x,R x->P x):Out P W W':=by
 obtain ⟨D,M,_,_,ho⟩:=h;have h1:Out P W V:=Qab _ hb;exact h1.trans ho (λ j hj=>.inl (hR j hj))
theorem Qzj (s:Sh) (zs:List Zn) (q sl:Int) {l:List Pl} (hf:∀x∈l,Qdu x):∀i,i<=l.length->Good (onP2 s zs q sl (l.take i)).S/\(onP2 s zs q sl (l.take i)).S.length<=i:=by
 intro i;induction i with
 | zero=>intro _;exact ⟨good_nil,Nat.le_refl _⟩
 | succ i ih=>
  intro hi;obtain ⟨h1,h2⟩:=ih (by omega);obtain ⟨x,hx⟩:∃x,l[i]?=some x:=⟨l[i],by simp [show i<l.length by omega]⟩
  rw [Qlq hx];have:=Qgx h1 x;exact ⟨h1.put (hf x (List.mem_of_getElem? hx)),by show (putS _ x).length<=_;omega⟩
set_option maxHeartbeats 4000000 in
theorem Q2w {O:Nat->Prop} {W:World} {p:Nat} {s:Sh} {zs:List Zn} (hd:Dv 101 O W p s zs) (hw:Wf s zs) (q:Int) (hq:Qai q) (sl:Int) (P:Nat->Prop) (hB:∀x,W.heap.size<=x->P x) (hO:∀x,O x->P x) (a1:Option Addr) (n1 c1:Nat) (l:List Pl) (hl:∀V,Out P W V->KIn V a1 n1 l) (hn1:n1<=9000) (a2:Option Addr) (n2 c2:Nat) (f:List Int) (hf:∀V,Out P W V->NIn .i64 V a2 n2 f) (hn2:n2<=1000) :
  Calls prog 106 #[.pointer (some ⟨p,0,none⟩),.int .u64 q,.slice a1 n1 c1,.slice a2 n2 c2,.int .i64 sl] W λ e w'=>∃(k:Rs) (V:World) (D M:Nat->Prop),e=.returned (.pointer (some ⟨k.ps,0,none⟩))/\Below W.heap.size W V/\Sd (SdO D M k) V k (onG2 s zs q sl l f) w'/\∀x,SdO D M k x->O x\/W.heap.size<=x:=by
 obtain ⟨N,hN⟩:∃N:Nat,s.z=N:=⟨s.z.toNat,by have:=hw.right.1;omega⟩
 have hN1:6<=N/\N<=256:=by have:=hw.right.1;have:=hw.right.2.1;omega
 have H:=Jh4 hd hw hN hq;have HL:=Jh4 hl hf hO hB;have hl1:=(hl W (Out.refl _ _)).1;have hf1:=(hf W (Out.refl _ _)).1;have hmk:=run_make_row' (P:=prog) 46 45 (.int .u64 0) 8 Tryz.underlying46 Tryz.zero_u64s rfl .i64 .i64 N (by omega) (by omega);have HX:Hid (∀Y,Below W.heap.size W Y->Y.cell? ⟨p,0,none⟩=some (.int .i64 (N:Int))/\Y.cell? ⟨p,1,none⟩=some (.int .i64 s.zb)/\Y.cell? ⟨p,2,none⟩=some (.int .i64 s.b)/\Y.cell? ⟨p,3,none⟩=some (.int .i64 s.r)):=λ Y hY=>by
  obtain ⟨g,c,vs,hv⟩:=hd;have hc:=(hv.under hY).pcell;rw [hN] at hc;exact ⟨hc.1,hc.2.1,hc.2.2.1,hc.2.2.2.1⟩
 obtain ⟨x0,x1,x2,x3⟩:=HX.out W (Below.refl _ _);have k0:∀o,(W.alloc o).cell? ⟨p,0,none⟩=some (.int .i64 (N:Int)):=λ o=>(HX.out _ ((Below.refl _ _).alloc (Nat.le_refl _) o)).1
 have k1:∀o,(W.alloc o).cell? ⟨p,1,none⟩=some (.int .i64 s.zb):=λ o=>(HX.out _ ((Below.refl _ _).alloc (Nat.le_refl _) o)).2.1
 have k2:∀o,(W.alloc o).cell? ⟨p,2,none⟩=some (.int .i64 s.b):=λ o=>(HX.out _ ((Below.refl _ _).alloc (Nat.le_refl _) o)).2.2.1
 have k3:∀o,(W.alloc o).cell? ⟨p,3,none⟩=some (.int .i64 s.r):=λ o=>(HX.out _ ((Below.refl _ _).alloc (Nat.le_refl _) o)).2.2.2
 have HG:Hid (∀Y,Below W.heap.size W Y->Calls prog 165 #[.agg #[.int .i64 (N:Int),.int .i64 s.zb,.int .i64 s.b,.int .i64 s.r]] Y λ e Z=>∃pg gg gc,e=.returned (.pointer (some ⟨pg,0,none⟩))/\(SegR Z pg gg gc s (newZ s.z.toNat)/\Y.heap.size<=pg/\Y.heap.size<=gg/\Below Y.heap.size Y Z/\Below W.heap.size W Z)/\Z.cell? ⟨p,0,none⟩=some (.int .i64 (N:Int))/\(∀o,(Z.alloc o).cell? ⟨p,0,none⟩=some (.int .i64 (N:Int)))):=λ Y hY=>by
  have:=Qyj s Y (by have:=(J2 H).right.1;omega);rw [show shL s=[.int .i64 (N:Int),.int .i64 s.zb,.int .i64 s.b,.int .i64 s.r] by unfold shL;rw [(J3 H)]] at this;refine this.mono ?_
  rintro e Z (⟨hr,_⟩ | ⟨_,pg,gg,gc,rfl,h1,h2,h3,h4⟩)
  ·exact (hr (J2 H).right).elim
  ·have hb:=hY.trans (h4.mono hY.size)
   exact ⟨pg,gg,gc,rfl,⟨h1,h2,h3,h4,hb⟩,(HX.out Z hb).1,λ o=>(HX.out _ (hb.alloc hb.size o)).1⟩
 have HM:Hid (∀Y,Below W.heap.size W Y->Calls prog 102 #[] Y λ e Z=>e=.returned (.pointer (some ⟨Y.heap.size,0,none⟩))/\(Blk Z Y.heap.size [.slice none 0 0] 252/\Below Y.heap.size Y Z/\Below W.heap.size W Z)/\Z.cell? ⟨p,0,none⟩=some (.int .i64 (N:Int))/\(∀o,(Z.alloc o).cell? ⟨p,0,none⟩=some (.int .i64 (N:Int)))):=λ Y hY=>by
  refine (Qt7 Y).mono ?_
  rintro e Z ⟨rfl,h1,h2⟩;have hb:=hY.trans (h2.mono hY.size);exact ⟨rfl,⟨h1,h2,hb⟩,(HX.out Z hb).1,λ o=>(HX.out _ (hb.alloc hb.size o)).1⟩
 clear hd hw hN hq hl hf hO hB;go_enter func106,ntmps106
 go_wp2_with fail
 go_cut [11] (λ v X=>∃k:Rs,v=.pointer (some ⟨k.ps,0,none⟩)/\SdV (λ x=>O x/\x<W.heap.size) (λ _=>False) X k (Qfr s zs q sl)/\Below W.heap.size W X/\∀x,k.has x->W.heap.size<=x)
 case first=>
  go_region_law (first
   | (go_simp;go_at_call 165;refine (HG.out _ (by first | exact (Below.refl _ _).drew | exact ((Below.refl _ _).alloc (Nat.le_refl _) _).drew)).mono ?_;rintro e V2 ⟨pg,gg,gc,rfl,sg2,y0,y0a⟩)
   | (go_simp;go_at_call 102;refine (HM.out _ (by first | exact sg2.2.2.2.2 | exact sg2.2.2.2.2.alloc sg2.2.2.2.2.size _)).mono ?_;rintro e V3 ⟨rfl,lm3,z0,z0a⟩))
  all_goals (
   have hz:(s.z.toNat:Int)=s.z:=by rw [(J3 H)];simp
   have hzN:s.z.toNat=N:=by rw [(J3 H)];simp
   have g1:=sg2.2.1;have g2:=sg2.2.2.1;try simp at g1 g2
   first
   | (
    have q3:=lm3.2.1.size;have q9:=sg2.2.2.2.2.size;have hpl:V2.heap.size<V3.heap.size:=lm3.1.lt;have hb:Below W.heap.size W ((V3.alloc (.cells (madeCells #[.int .u64 0] N) 45)).alloc (.cells #[.pointer (some ⟨p,0,none⟩),.pointer (some ⟨pg,0,none⟩),.pointer (some ⟨V2.heap.size,0,none⟩),.int .u64 q,.slice (some ⟨V3.heap.size,0,none⟩) N N,.int .i64 sl] 48)):=(lm3.2.2.alloc (by omega) _).alloc (by simp;omega) _;have PK:Hid (SdV (λ x=>O x/\x<W.heap.size) (λ _=>False) ((V3.alloc (.cells (madeCells #[.int .u64 0] N) 45)).alloc (.cells #[.pointer (some ⟨p,0,none⟩),.pointer (some ⟨pg,0,none⟩),.pointer (some ⟨V2.heap.size,0,none⟩),.int .u64 q,.slice (some ⟨V3.heap.size,0,none⟩) N N,.int .i64 sl] 48)) ⟨V3.heap.size+1,p,pg,gg,gc,V2.heap.size,V3.heap.size⟩ (Qfr s zs q sl)/\Below W.heap.size W ((V3.alloc (.cells (madeCells #[.int .u64 0] N) 45)).alloc (.cells #[.pointer (some ⟨p,0,none⟩),.pointer (some ⟨pg,0,none⟩),.pointer (some ⟨V2.heap.size,0,none⟩),.int .u64 q,.slice (some ⟨V3.heap.size,0,none⟩) N N,.int .i64 sl] 48))/\∀x,Rs.has ⟨V3.heap.size+1,p,pg,gg,gc,V2.heap.size,V3.heap.size⟩ x->W.heap.size<=x):=by
     refine ⟨Qln (k:=⟨V3.heap.size+1,p,pg,gg,gc,V2.heap.size,V3.heap.size⟩) H.out.1 (J2 H) hb (Jz3 H) rfl hz ?_ ?_ ?_ ?_ (by show W.heap.size<=pg;omega) (by show W.heap.size<=gg;omega) (by show W.heap.size<=V2.heap.size;omega) (by show W.heap.size<=V3.heap.size;omega) (by show W.heap.size<=V3.heap.size+1;omega),hb,?_⟩
     ·exact ((sg2.1.under lm3.2.1).under ((Below.refl _ _).alloc (Nat.le_refl _) _)).under ((Below.refl _ _).alloc (Nat.le_refl _) _)
     ·exact (lm3.1.alloc _).alloc _
     ·rw [hzN];exact (Qc3 N V3).alloc _
     ·rw [hzN];exact Blk.new' (by simp) rfl
     ·rintro x (rfl | rfl | rfl | rfl | rfl) <;> (try simp only) <;> omega
    generalize World.alloc _ (.cells #[.pointer (some ⟨p,0,none⟩),.pointer (some ⟨pg,0,none⟩),.pointer (some ⟨V2.heap.size,0,none⟩),.int .u64 q,.slice (some ⟨V3.heap.size,0,none⟩) N N,.int .i64 sl] 48)=V9 at PK ⊢;generalize V3.heap.size+1=ps at PK ⊢;go_wp2_with fail
    go_meet
    case rel=>exact ⟨_,rfl,PK.out.1,(J2 PK),(Jz2 PK)⟩)
   | (
    have lmb:Below (V2.heap.size+1) (V2.alloc (.cells (madeCells #[.int .u64 0] N) 45)) V3:=by have:=lm3.2.1;simpa using this
    have e3:Below V2.heap.size V2 V3:=((Below.refl _ _).alloc (Nat.le_refl _) _).trans (lmb.mono (by omega));have q3:=e3.size;have q9:=sg2.2.2.2.2.size;have hm3:Blk V3 (V2.heap.size+1) [.slice none 0 0] 252:=by have:=lm3.1;simpa using this
    have hpl:V2.heap.size+1<V3.heap.size:=hm3.lt;have hb:Below W.heap.size W (V3.alloc (.cells #[.pointer (some ⟨p,0,none⟩),.pointer (some ⟨pg,0,none⟩),.pointer (some ⟨V2.heap.size+1,0,none⟩),.int .u64 q,.slice (some ⟨V2.heap.size,0,none⟩) N N,.int .i64 sl] 48)):=lm3.2.2.alloc (by omega) _;have PK:Hid (SdV (λ x=>O x/\x<W.heap.size) (λ _=>False) (V3.alloc (.cells #[.pointer (some ⟨p,0,none⟩),.pointer (some ⟨pg,0,none⟩),.pointer (some ⟨V2.heap.size+1,0,none⟩),.int .u64 q,.slice (some ⟨V2.heap.size,0,none⟩) N N,.int .i64 sl] 48)) ⟨V3.heap.size,p,pg,gg,gc,V2.heap.size+1,V2.heap.size⟩ (Qfr s zs q sl)/\Below W.heap.size W (V3.alloc (.cells #[.pointer (some ⟨p,0,none⟩),.pointer (some ⟨pg,0,none⟩),.pointer (some ⟨V2.heap.size+1,0,none⟩),.int .u64 q,.slice (some ⟨V2.heap.size,0,none⟩) N N,.int .i64 sl] 48))/\∀x,Rs.has ⟨V3.heap.size,p,pg,gg,gc,V2.heap.size+1,V2.heap.size⟩ x->W.heap.size<=x):=by
     refine ⟨Qln (k:=⟨V3.heap.size,p,pg,gg,gc,V2.heap.size+1,V2.heap.size⟩) H.out.1 (J2 H) hb (Jz3 H) rfl hz ?_ ?_ ?_ ?_ (by show W.heap.size<=pg;omega) (by show W.heap.size<=gg;omega) (by show W.heap.size<=V2.heap.size+1;omega) (by show W.heap.size<=V2.heap.size;omega) (by show W.heap.size<=V3.heap.size;omega),hb,?_⟩
     ·exact (sg2.1.under e3).under ((Below.refl _ _).alloc (Nat.le_refl _) _)
     ·exact hm3.alloc _
     ·rw [hzN];exact ((Qc3 N V2).below lmb (by omega)).alloc _
     ·rw [hzN];exact Blk.new' (by simp) rfl
     ·rintro x (rfl | rfl | rfl | rfl | rfl) <;> (try simp only) <;> omega
    generalize World.alloc _ (.cells #[.pointer (some ⟨p,0,none⟩),.pointer (some ⟨pg,0,none⟩),.pointer (some ⟨V2.heap.size+1,0,none⟩),.int .u64 q,.slice (some ⟨V2.heap.size,0,none⟩) N N,.int .i64 sl] 48)=V9 at PK ⊢;generalize V3.heap.size=ps at PK ⊢;go_wp2_with fail
    go_meet
    case rel=>exact ⟨_,rfl,PK.out.1,(J2 PK),(Jz2 PK)⟩)
   | (
    have sgb:Below (W.heap.size+1) (W.alloc (.cells (madeCells #[.int .u64 0] N) 45)) V2:=by have:=(Below.refl _ _).drew.trans sg2.2.2.2.1;simpa using this
    have e3:=lm3.2.1;have q3:=e3.size;have q9:=sg2.2.2.2.2.size;have q4:W.heap.size+1<=V2.heap.size:=by have:=sgb.size;simpa using this
    have l2:W.heap.size+1<=pg/\W.heap.size+1<=gg:=by have h1:=sg2.2.1;have h2:=sg2.2.2.1;simpa using (And.intro h1 h2)
    have hpl:V2.heap.size<V3.heap.size:=lm3.1.lt;have hb:Below W.heap.size W (V3.alloc (.cells #[.pointer (some ⟨p,0,none⟩),.pointer (some ⟨pg,0,none⟩),.pointer (some ⟨V2.heap.size,0,none⟩),.int .u64 q,.slice (some ⟨W.heap.size,0,none⟩) N N,.int .i64 sl] 48)):=lm3.2.2.alloc (by omega) _;have PK:Hid (SdV (λ x=>O x/\x<W.heap.size) (λ _=>False) (V3.alloc (.cells #[.pointer (some ⟨p,0,none⟩),.pointer (some ⟨pg,0,none⟩),.pointer (some ⟨V2.heap.size,0,none⟩),.int .u64 q,.slice (some ⟨W.heap.size,0,none⟩) N N,.int .i64 sl] 48)) ⟨V3.heap.size,p,pg,gg,gc,V2.heap.size,W.heap.size⟩ (Qfr s zs q sl)/\Below W.heap.size W (V3.alloc (.cells #[.pointer (some ⟨p,0,none⟩),.pointer (some ⟨pg,0,none⟩),.pointer (some ⟨V2.heap.size,0,none⟩),.int .u64 q,.slice (some ⟨W.heap.size,0,none⟩) N N,.int .i64 sl] 48))/\∀x,Rs.has ⟨V3.heap.size,p,pg,gg,gc,V2.heap.size,W.heap.size⟩ x->W.heap.size<=x):=by
     refine ⟨Qln (k:=⟨V3.heap.size,p,pg,gg,gc,V2.heap.size,W.heap.size⟩) H.out.1 (J2 H) hb (Jz3 H) rfl hz ?_ ?_ ?_ ?_ (by show W.heap.size<=pg;omega) (by show W.heap.size<=gg;omega) (by show W.heap.size<=V2.heap.size;omega) (by show W.heap.size<=W.heap.size;omega) (by show W.heap.size<=V3.heap.size;omega),hb,?_⟩
     ·exact (sg2.1.under e3).under ((Below.refl _ _).alloc (Nat.le_refl _) _)
     ·exact lm3.1.alloc _
     ·rw [hzN];exact (((Qc3 N W).below sgb (by omega)).below e3 (by omega)).alloc _
     ·rw [hzN];exact Blk.new' (by simp) rfl
     ·rintro x (rfl | rfl | rfl | rfl | rfl) <;> (try simp only) <;> omega
    generalize World.alloc _ (.cells #[.pointer (some ⟨p,0,none⟩),.pointer (some ⟨pg,0,none⟩),.pointer (some ⟨V2.heap.size,0,none⟩),.int .u64 q,.slice (some ⟨W.heap.size,0,none⟩) N N,.int .i64 sl] 48)=V9 at PK ⊢;generalize V3.heap.size=ps at PK ⊢;go_wp2_with fail
    go_meet
    case rel=>exact ⟨_,rfl,PK.out.1,(J2 PK),(Jz2 PK)⟩))
 case rest=>
  obtain ⟨k,rfl,hk,hb,hh⟩:=hcut;have PS:Hid (Sd (SdO (λ x=>O x/\x<W.heap.size) (λ _=>False) k) wc k (onP2 s zs q sl (l.take 0)) wc/\Below W.heap.size W wc/\∀x,SdO (λ x=>O x/\x<W.heap.size) (λ _=>False) k x->O x\/W.heap.size<=x):=⟨Sd.start hk,hb,λ x hx=>by rcases hx with h | h | h;exact .inl h.1;exact h.elim;exact .inr (hh x h)⟩
  clear hk hb hh x0 x1 x2 x3 k0 k1 k2 k3 HG HM HX;obtain ⟨V9,hV9⟩:∃V9:World,V9=wc:=⟨_,rfl⟩
  rw [<-hV9] at PS ⊢;clear hV9;obtain ⟨ps,hps⟩:∃ps,ps=k.ps:=⟨_,rfl⟩
  obtain ⟨pm,hpm⟩:∃pm,pm=k.pm:=⟨_,rfl⟩
  obtain ⟨pg,hpg⟩:∃pg,pg=k.pg:=⟨_,rfl⟩
  obtain ⟨lb,hlb⟩:∃lb,lb=k.lb:=⟨_,rfl⟩
  have HK:=Jh4 hps hpm hpg hlb;rw [<-hps];clear hps hpm hpg hlb;have HB:Hid (∀x,SdO (λ x=>O x/\x<W.heap.size) (λ _=>False) k x->P x):=λ x hx=>by
   rcases (Jz2 PS) x hx with h | h
   ·exact (J3 HL) x h
   ·exact (Jz3 HL) x (by omega)
  have hfl:=(HL.out.1 W (Out.refl _ _)).2.2.1;have HLen:Hid (∀i,i<=l.length->Good (onP2 s zs q sl (l.take i)).S/\(onP2 s zs q sl (l.take i)).S.length<=i):=Qzj s zs q sl hfl;clear hfl;go_wp2_with fail
  go_loopw [12] (λ x wr=>∃i:Nat,x=.int .i64 i/\i<=n1/\Sd (SdO (λ x=>O x/\x<W.heap.size) (λ _=>False) k) V9 k (onP2 s zs q sl (l.take i)) wr) (λ x _=>n1 - (intOf x).toNat)
  case atStart=>exact ⟨0,rfl,Nat.zero_le _,PS.out.1⟩
  case round=>
   obtain ⟨i,rfl,hi,sv⟩:=hrel;have hfar:=sv.farP (J2 PS) HB.out;rcases Nat.lt_or_ge i n1 with hlt | hge
   ·have hi':(i:Int)<n1:=by omega
    have hwi:IntKind.i64.wrap ((i:Int)+1)=(i:Int)+1:=by rw [IntKind.wrap_i64];omega
    obtain ⟨x,b,off,hx,hfx,rfl,y0,y1,y2,y3⟩:=(HL.out.1 wr hfar).at4 hlt;have HY:Hid (∀V c',Sd (SdO (λ x=>O x/\x<W.heap.size) (λ _=>False) k) V9 k c' V->V.cell? ⟨b,off+i*4,none⟩=some (.int .u32 x.1.1)/\V.cell? ⟨b,off+i*4+1,none⟩=some (.int .u64 x.1.2)/\V.cell? ⟨b,off+i*4+2,none⟩=some (.int .i64 x.2.1)/\V.cell? ⟨b,off+i*4+3,none⟩=some (.int .i64 x.2.2)):=λ V c' hs=>by
     obtain ⟨x',b',off',hx',_,hb',z0,z1,z2,z3⟩:=(HL.out.1 V (hs.farP (J2 PS) HB.out)).at4 hlt;rw [hx] at hx';cases hx'
     cases hb'
     exact ⟨z0,z1,z2,z3⟩
    have HU:Hid (∀V c',Sd (SdO (λ x=>O x/\x<W.heap.size) (λ _=>False) k) V9 k c' V->V.cell? ⟨ps,2,none⟩=some (.pointer (some ⟨pm,0,none⟩))):=λ V c' hs=>by
     obtain ⟨D',M',hv,_,_⟩:=hs;rw [HK.out.1,(J2 HK)];exact hv.cells.2.2.1
    have HP:Hid (∀V,Sd (SdO (λ x=>O x/\x<W.heap.size) (λ _=>False) k) V9 k (onP2 s zs q sl (l.take i)) V->Calls prog 103 #[.pointer (some ⟨pm,0,none⟩),.agg #[.int .u32 x.1.1,.int .u64 x.1.2,.int .i64 x.2.1,.int .i64 x.2.2]] V λ e w'=>(∃v,e=.returned v)/\Sd (SdO (λ x=>O x/\x<W.heap.size) (λ _=>False) k) V9 k (onP2 s zs q sl (l.take (i+1))) w'):=λ V hs=>by
     obtain ⟨D',M',hv,hD',ho'⟩:=hs;rw [(J2 HK)];refine (Ql6 k.pm _ x V hv.mp.d hfx (by have:=(HLen.out i (by omega)).2;omega)).mono ?_
     rintro e w' ⟨rfl,h1,h2⟩;refine ⟨⟨_,rfl⟩,?_⟩
     rw [Qlq hx];exact Sd.next hD' ho' (hv.mpstep h1 h2)
    have HS:=Jh1 sv;have u2:=HU.out _ _ sv;clear sv hx hfx hfar;have HP2:=HP.out wr.drew (HS.out.under (Below.refl _ _).drew);go_wp2_with fail
    go_region_held3 (λ Y=>Y.cell? ⟨ps,2,none⟩=some (.pointer (some ⟨pm,0,none⟩))/\Y.cell? ⟨b,off+i*4,none⟩=some (.int .u32 x.1.1)/\Y.cell? ⟨b,off+i*4+1,none⟩=some (.int .u64 x.1.2)/\Y.cell? ⟨b,off+i*4+2,none⟩=some (.int .i64 x.2.1)/\Y.cell? ⟨b,off+i*4+3,none⟩=some (.int .i64 x.2.2)) (first | exact ⟨u2,y0,y1,y2,y3⟩ | exact ⟨HU.out _ _ s7,HY.out _ _ s7⟩)
     (first | (go_simp;go_at_call 103;refine HP2.mono ?_;rintro e w7 ⟨⟨v7,rfl⟩,s7⟩))
    have H7:=Jh1 s7;clear s7 y0 y1 y2 y3 u2 HP2;go_wp2
    go_roundw
    case rel=>exact ⟨i+1,by simp,by omega,H7.out⟩
    case measure=>simp [intOf];omega
   ·obtain rfl:i=n1:=by omega
    have PT:Hid (Sd (SdO (λ x=>O x/\x<W.heap.size) (λ _=>False) k) V9 k (onG2 s zs q sl l (f.take 0)) wr):=by
     rw [List.take_of_length_le (by omega)] at sv;exact sv
    clear sv hfar;go_wp2_with fail
    go_loopw [13] (λ x wr=>∃j:Nat,x=.int .i64 j/\j<=n2/\Sd (SdO (λ x=>O x/\x<W.heap.size) (λ _=>False) k) V9 k (onG2 s zs q sl l (f.take j)) wr) (λ x _=>n2 - (intOf x).toNat)
    case atStart=>exact ⟨0,rfl,Nat.zero_le _,PT.out⟩
    case round=>
     obtain ⟨j,rfl,hj,sv⟩:=hrel;rcases Nat.lt_or_ge j n2 with hlt | hge
     ·have hj':(j:Int)<n2:=by omega
      have hwj:IntKind.i64.wrap ((j:Int)+1)=(j:Int)+1:=by rw [IntKind.wrap_i64];omega
      obtain ⟨z,hz⟩:∃z,f[j]?=some z:=⟨f[j],by simp [show j<f.length by omega]⟩
      obtain ⟨b,off,rfl,_⟩:=((J2 HL) wr (sv.farP (J2 PS) HB.out)).2.2.2.resolve_left (by omega);have HC:Hid (∀V c',Sd (SdO (λ x=>O x/\x<W.heap.size) (λ _=>False) k) V9 k c' V->V.cell? ⟨b,off+j,none⟩=some (.int .i64 z)/\V.cell? ⟨ps,1,none⟩=some (.pointer (some ⟨pg,0,none⟩))):=λ V c' hs=>by
       obtain ⟨b',off',e',hc⟩:=((J2 HL) V (hs.farP (J2 PS) HB.out)).2.2.2.resolve_left (by omega);cases e'
       have:=hc j hlt;rw [show f.getD j 0=z by simp [List.getD,hz]] at this;obtain ⟨D',M',hv,_,_⟩:=hs;rw [HK.out.1,(J3 HK)];exact ⟨this,hv.cells.2.1⟩
      obtain ⟨y0,u1⟩:=HC.out wr _ sv;have hnx:=Qrc (s:=s) (zs:=zs) (q:=q) (sl:=sl) (l:=l) hz;have hla:(onG2 s zs q sl l (f.take j)).la.length=(onG2 s zs q sl l (f.take j)).L.length:=by obtain ⟨D',M',hv,_,_⟩:=sv;have:=hv.len;omega
      have HS:Hid (Sd (SdO (λ x=>O x/\x<W.heap.size) (λ _=>False) k) V9 k (onG2 s zs q sl l (f.take j)) wr.drew):=sv.under (Below.refl _ _).drew;by_cases h1:stZ (onG2 s zs q sl l (f.take j)).L z=1
      ·rw [if_pos h1] at hnx
       obtain ⟨m,rfl,hm⟩:∃m:Nat,z=m/\m<(onG2 s zs q sl l (f.take j)).L.length:=by
        by_cases h0:z<0\/((onG2 s zs q sl l (f.take j)).L.length:Int)<=z
        ·rw [Qey h0] at h1;cases h1
        ·exact ⟨z.toNat,by omega,by omega⟩
       rw [Int.toNat_natCast] at hnx;obtain ⟨NL,hNL⟩:∃NL,NL=(onG2 s zs q sl l (f.take j)).la.length:=⟨_,rfl⟩
       have hmN:m<NL:=by omega
       have HF:Hid (Calls prog 166 #[.pointer (some ⟨pg,0,none⟩),.int .i64 (m:Nat)] wr.drew λ e w'=>e=.returned (.bool true)/\Sd (SdO (λ x=>O x/\x<W.heap.size) (λ _=>False) k) V9 k {onG2 s zs q sl l (f.take j) with L:=Qcm (onG2 s zs q sl l (f.take j)).L m 1 3} w'):=by
        obtain ⟨D',M',hv,hD',ho'⟩:=HS.out;rw [(J3 HK)];refine (Qk2 k.pg k.gg k.gc _ _ m wr.drew hv.sg).mono ?_
        rintro e w' ⟨rfl,k1,k2⟩;rw [decide_eq_true h1];exact ⟨rfl,Sd.next hD' ho' (hv.sgstep k1 k2 (Qbz _ _ _ _))⟩
       have HW:Hid (∀V,Sd (SdO (λ x=>O x/\x<W.heap.size) (λ _=>False) k) V9 k {onG2 s zs q sl l (f.take j) with L:=Qcm (onG2 s zs q sl l (f.take j)).L m 1 3} V->(∃old,V.cell? ⟨lb,m,none⟩=some (.int .u64 old))/\V.frozen? ⟨lb,m,none⟩=false/\V.cell? ⟨ps,4,none⟩=some (.slice (some ⟨lb,0,none⟩) NL NL)/\Sd (SdO (λ x=>O x/\x<W.heap.size) (λ _=>False) k) V9 k (onG2 s zs q sl l (f.take (j+1))) (V.setCell ⟨lb,m,none⟩ (.int .u64 q))):=λ V hs=>by
        obtain ⟨D5,M5,hv5,hD5,ho5⟩:=hs;rw [HK.out.1,(Jz3 HK)];refine ⟨⟨(onG2 s zs q sl l (f.take j)).la[m],?_⟩,hv5.hl.frozen _,by rw [hNL];exact hv5.cells.2.2.2.2.1,?_⟩
        ·have:=hv5.hl.cell m
         rw [this];show (Qaj .u64 (onG2 s zs q sl l (f.take j)).la)[m]?=_;simp [Qaj,show m<(onG2 s zs q sl l (f.take j)).la.length by omega]
        ·rw [hnx]
         exact Sd.next hD5 ho5 (hv5.setLa m q)
       clear sv hz h1 hm hla hnx hNL;go_wp2_with fail
       go_region_held3 (λ Y=>Y.cell? ⟨b,off+j,none⟩=some (.int .i64 (m:Nat))/\Y.cell? ⟨ps,1,none⟩=some (.pointer (some ⟨pg,0,none⟩))) (first | exact ⟨y0,u1⟩ | exact HC.out _ _ s7)
        (first | (go_simp;go_at_call 166;refine HF.out.mono ?_;rintro e w7 ⟨rfl,s7⟩))
       have z0:=(HC.out _ _ s7).1;obtain ⟨⟨old,g1⟩,g2,g3,s8⟩:=HW.out _ s7;have H8:=Jh1 s8;clear s7 s8 y0 u1;have H9:Hid (Sd (SdO (λ x=>O x/\x<W.heap.size) (λ _=>False) k) V9 k (onG2 s zs q sl l (f.take (j+1))) (w7.setCell ⟨lb,m,none⟩ (.int .u64 q)).drew):=H8.out.under (Below.refl _ _).drew;go_wp2_with fail
       go_region
       go_wp2
       go_roundw
       case rel=>exact ⟨j+1,by simp,by omega,H9.out⟩
       case measure=>simp [intOf];omega
      ·rw [if_neg h1] at hnx
       have HF:Hid (Calls prog 166 #[.pointer (some ⟨pg,0,none⟩),.int .i64 z] wr.drew λ e w'=>e=.returned (.bool false)/\Sd (SdO (λ x=>O x/\x<W.heap.size) (λ _=>False) k) V9 k (onG2 s zs q sl l (f.take (j+1))) w'):=by
        obtain ⟨D',M',hv,hD',ho'⟩:=HS.out;rw [(J3 HK)];refine (Qk2 k.pg k.gg k.gc _ _ z wr.drew hv.sg).mono ?_
        rintro e w' ⟨rfl,k1,k2⟩;rw [decide_eq_false h1];refine ⟨rfl,?_⟩
        rw [hnx];exact Sd.next hD' ho' (hv.sgstep k1 k2 (Qbz _ _ _ _))
       clear sv hz h1 hla hnx;go_wp2_with fail
       go_region_held3 (λ Y=>Y.cell? ⟨b,off+j,none⟩=some (.int .i64 z)/\Y.cell? ⟨ps,1,none⟩=some (.pointer (some ⟨pg,0,none⟩))) (first | exact ⟨y0,u1⟩ | exact HC.out _ _ s7)
        (first | (go_simp;go_at_call 166;refine HF.out.mono ?_;rintro e w7 ⟨rfl,s7⟩))
       have H7:=Jh1 s7;clear s7 y0 u1;go_wp2
       go_roundw
       case rel=>exact ⟨j+1,by simp,by omega,H7.out⟩
       case measure=>simp [intOf];omega
     ·obtain rfl:j=n2:=by omega
      have PU:Hid (Sd (SdO (λ x=>O x/\x<W.heap.size) (λ _=>False) k) V9 k (onG2 s zs q sl l f) wr):=by
       rw [List.take_of_length_le (by omega)] at sv;exact sv
      clear sv;go_wp2
      go_ret
      exact ⟨k,V9,_,_,by rw [<-HK.out.1];rfl,(J2 PS),PU.out,(Jz2 PS)⟩
theorem Tryz.zero_dfound:(prog.info? 199).map (λ i=>(i.zero,i.size,i.bytes))=some (some (.agg #[.int .u64 0,.slice none 0 0,.int .i64 0,.int .i64 0]),4,48):=by kernel_rfl
theorem Tryz.underlying196:prog.underlying 196=some (.slice 199):=by kernel_rfl
theorem Tryz.four_dfounds:∀w:World,(sizeOf (prog.elem 196)).run prog w=.ok 4 w:=λ _=>by kernel_rfl
theorem Qlp (a:Option Addr) (n c k:Nat) (hk:k<=c) (w:World) :
  (Instr.slice 196 (.slice a n c) none (some (.int .i64 (k:Int))) none).run prog w=.ok (.slice a k c) w:=by
 rw [run_slice_h (P:=prog) w 196 a n c Tryz.underlying196 .i64 k (by omega) (by omega),Tryz.four_dfounds w];simp only [Result.andThen,Int.toNat_natCast]
 unfold sliced;cases a with
 | none=>simp
 | some x=>simp [Addr.add]
theorem Qn6 (a:Option Addr) (n c k:Nat) (hk:k<=n) (w:World) :
  (Instr.slice 196 (.slice a n c) (some (.int .i64 (k:Int))) none none).run prog w=.ok (.slice (Qfo a c k) (n - k) (c - k)) w:=by
 rw [run_slice_l (P:=prog) w 196 a n c Tryz.underlying196 .i64 k (by omega) (by omega),Tryz.four_dfounds w];simp only [Result.andThen,Int.toNat_natCast]
 rfl
theorem Qmv (a:Option Addr) (n c k:Nat) (z:Int) (hz:z=k) (hk:k<=c) (w:World) :
  (Instr.slice 196 (.slice a n c) none (some (.int .i64 z)) none).run prog w=.ok (.slice a k c) w:=by subst hz;exact Qlp a n c k hk w
theorem Qqh (a:Option Addr) (n c k:Nat) (z:Int) (hz:z=k) (hk:k<=n) (w:World) :
  (Instr.slice 196 (.slice a n c) (some (.int .i64 z)) none none).run prog w=.ok (.slice (Qfo a c k) (n - k) (c - k)) w:=by subst hz;exact Qn6 a n c k hk w
theorem FoIn.front {w:World} {A:Option Addr} {n:Nat} {l:List Fo} (h:FoIn w A n l) (k:Nat) (hk:k<=n):FoIn w A k (l.take k):=by
 obtain ⟨h1,h2,h3⟩:=h;refine ⟨by rw [List.length_take,h1];omega,by omega,?_⟩
 by_cases h0:k=0
 ·exact .inl h0
 ·obtain ⟨g,off,rfl,hc⟩:=h3.resolve_left (by omega)
  exact .inr ⟨g,off,rfl,λ i f hf j v hv=>hc i f (by rw [List.getElem?_take] at hf;split at hf;exact hf;cases hf) j v hv⟩
theorem FoIn.back {w:World} {A:Option Addr} {n c:Nat} {l:List Fo} (h:FoIn w A n l) (k:Nat) (hk:k<=n) (hc:n<=c):FoIn w (Qfo A c k) (n - k) (l.drop k):=by
 obtain ⟨h1,h2,h3⟩:=h;refine ⟨by rw [List.length_drop,h1],by omega,?_⟩
 by_cases h0:n - k=0
 ·exact .inl h0
 ·obtain ⟨g,off,rfl,hcl⟩:=h3.resolve_left (by omega)
  unfold Qfo;rw [if_neg (by omega)];refine .inr ⟨g,off+k*4,by simp [Addr.add],λ i f hf j v hv=>?_⟩
  rw [List.getElem?_drop] at hf;have:=hcl (k+i) f hf j v hv;rw [show off+(k+i)*4+j=off+k*4+i*4+j by omega] at this;exact this
theorem Qtl (xs ys:List Fo):foC (xs ++ ys)=foC xs ++ foC ys:=by simp [foC]
theorem Qzz {w:World} {g off n:Nat} {l:List Fo} (hl:l.length=n) (hc:∀(i:Nat) (f:Fo),l[i]?=some f->∀(j:Nat) (v:Value),(foL f)[j]?=some v->w.cell? ⟨g,off+i*4+j,none⟩=some v):∀j u,(foC l)[j]?=some u->w.cell? ⟨g,off+j,none⟩=some u:=by
 intro j u hu;have hj:j<(foC l).length:=(List.getElem?_eq_some_iff.1 hu).1;rw [Qcj] at hj;have hi:j / 4<l.length:=by omega
 obtain ⟨f,hf⟩:∃f,l[j / 4]?=some f:=⟨l[j / 4],by simp [hi]⟩
 have h1:=Qob l (j / 4) f (j % 4) hf (Nat.mod_lt _ (by decide));rw [show j / 4*4+j % 4=j by omega,hu] at h1;have:=hc (j / 4) f hf (j % 4) u h1.symm;rw [show off+j / 4*4+j % 4=off+j by omega] at this;exact this
theorem Qvk {w:World} {base:Nat} (hb:base<=w.heap.size) {a0:Option Addr} {n0 c0:Nat} {xs:List Fo} (hown:w.ownsRow base 199 4 (.slice a0 n0 c0) n0 (foC xs)) {a1:Option Addr} {n1 c1:Nat} {ys:List Fo} (hin:FoIn w a1 n1 ys) (hnil:a1=none->n1=0/\c1=0) (hle:n0+n1<=100000) :
  ∃a' c' w',(Builtin.append_ #[196,196] 196 #[.slice a0 n0 c0,.slice a1 n1 c1]).run prog w=.ok (.slice a' (n0+n1) c') w'/\w'.ownsRow base 199 4 (.slice a' (n0+n1) c') (n0+n1) (foC (xs ++ ys))/\w.grownBy w' (Value.slice a0 n0 c0).ownBlock/\Below base w w':=by
 obtain ⟨i0,hi,hz0,hz1,hz2⟩:=info_parts Tryz.zero_dfound;obtain ⟨hl,hm,hcell⟩:=hin;cases a1 with
 | none=>
  obtain ⟨rfl,rfl⟩:=hnil rfl;have:ys=[]:=List.length_eq_zero_iff.1 hl;subst this;refine ⟨a0,c0,w,run_append_owned_none (P:=prog) (w:=w) base 196 196 199 i0 4 Tryz.underlying196 hi _ n0 (foC xs) hown,by simpa using hown,World.grownBy.refl _ _,Below.refl _ _⟩
 | some ad=>
  have hcl:∀j u,(foC ys)[j]?=some u->w.cell? (ad.add j)=some u:=by
   by_cases h0:n1=0
   ·have:ys=[]:=List.length_eq_zero_iff.1 (by omega)
    subst this;intro j u hu;simp [foC] at hu
   ·obtain ⟨g,off,e,hc⟩:=hcell.resolve_left h0
    cases e
    intro j u hu;rw [Addr.add_mid];exact Qzz hl hc j u hu
  obtain ⟨v',w',h1,h2,h3,h4⟩:=run_append_own (P:=prog) w base 196 196 199 i0 _ 4 48 Tryz.underlying196 hi hz0 hz1 hz2 rfl (by decide) (.slice a0 n0 c0) n0 (foC xs) hown ad n1 c1 (foC ys) (by rw [Qcj,hl]) hcl (by
   intro u hu;obtain ⟨f,hf,hu⟩:=List.mem_flatMap.1 hu;exact Qt6 f u hu) (by unfold maxLen;omega) (by omega) hb
  obtain ⟨a',c',rfl⟩:∃a' c',v'=.slice a' (n0+n1) c':=Qam h2;exact ⟨a',c',w',h1,by rw [Qtl];exact h2,h3,(Below.refl _ _).grown h3 hb (λ k hk=>(hown.lt k hk).1)⟩
def insK (l:List Fo) (s:Int):Nat->Nat
 | 0=>0
 | k+1=>if s<(l.getD k default).s then insK l s k else k+1
def insO (l:List Fo) (x:Fo):List Fo:=l.take (insK l x.s l.length) ++ [x] ++ l.drop (insK l x.s l.length)
theorem Qux (l:List Fo) (s:Int):∀k,insK l s k<=k
 | 0=>Nat.le_refl _
 | k+1=>by
  show (if _ then _ else _)<=_;split
  ·have:=Qux l s k;omega
  ·exact Nat.le_refl _
theorem FoIn.one {w:World} {g:Nat} {x:Fo} (h:Blk w g (foL x) 199):FoIn w (some ⟨g,0,none⟩) 1 [x]:=by
 refine ⟨rfl,by unfold maxLen;omega,.inr ⟨g,0,rfl,λ i f hf j v hv=>?_⟩⟩
 match i,hf with
 | 0,hf=>
  cases hf
  simp only [Nat.zero_mul,Nat.zero_add]
  rw [h.cell j];exact hv
theorem Qqc {w:World} {base:Nat} (hb:base<=w.heap.size) {A:Option Addr} {n C k:Nat} {l:List Fo} (x:Fo) (hl:FoIn w A n l) (hnil:A=none->n=0/\C=0) (hC:n<=C) (hn:n<=1000) (hk:k<=n) :
  ∃a1 c1 w1 a2 c2 w2 a3 c3 w3,(Builtin.append_ #[196,196] 196 #[.slice none 0 0,.slice A k C]).run prog w=.ok (.slice a1 k c1) w1/\Below w.heap.size w w1/\
   (Builtin.append_ #[196,196] 196 #[.slice a1 k c1,.slice (some ⟨w1.heap.size,0,none⟩) 1 1]).run prog (w1.alloc (.cells #[.int .u64 x.s,.slice x.a x.m x.c,.int .i64 x.z,.int .i64 x.b] 199))=.ok (.slice a2 (k+1) c2) w2/\
   (Builtin.append_ #[196,196] 196 #[.slice a2 (k+1) c2,.slice (Qfo A C k) (n - k) (C - k)]).run prog w2=.ok (.slice a3 (n+1) c3) w3/\w3.ownsRow base 199 4 (.slice a3 (n+1) c3) (n+1) (foC (l.take k ++ [x] ++ l.drop k))/\Below w.heap.size w w3:=by
 obtain ⟨a1,c1,w1,e1,o1,g1,b1⟩:=Qvk (base:=w.heap.size) (Nat.le_refl _) (a0:=none) (n0:=0) (c0:=0) (xs:=[]) (World.ownsRow_nil w w.heap.size 199 4) (c1:=C) (hl.front k hk) (λ h=>⟨by have:=hnil h;omega,(hnil h).2⟩) (by omega);simp only [Nat.zero_add,List.nil_append] at e1 o1
 have ba:Below w1.heap.size w1 (w1.alloc (.cells #[.int .u64 x.s,.slice x.a x.m x.c,.int .i64 x.z,.int .i64 x.b] 199)):=(Below.refl _ _).alloc (Nat.le_refl _) _;have kx:Blk (w1.alloc (.cells #[.int .u64 x.s,.slice x.a x.m x.c,.int .i64 x.z,.int .i64 x.b] 199)) w1.heap.size (foL x) 199:=Blk.new' rfl rfl;have o1':(w1.alloc (.cells #[.int .u64 x.s,.slice x.a x.m x.c,.int .i64 x.z,.int .i64 x.b] 199)).ownsRow w.heap.size 199 4 (.slice a1 k c1) k (foC (l.take k)):=(Qab Non ba).own o1 (λ _ _ e=>e);obtain ⟨a2,c2,w2,e2,o2,g2,b2⟩:=Qvk (base:=w.heap.size) (by have:=b1.size;have:=ba.size;omega) o1' (a1:=some ⟨w1.heap.size,0,none⟩) (n1:=1) (c1:=1) (FoIn.one kx) (by simp) (by omega);have bw2:=(b1.trans (ba.mono b1.size)).trans b2;obtain ⟨a3,c3,w3,e3,o3,g3,b3⟩:=Qvk (base:=w.heap.size) bw2.size o2 (c1:=C - k) ((hl.outO (Qab Non bw2) (λ _ _ _ e=>e)).back k hk hC) (λ h=>by have:=hnil (Qut h);omega) (by omega);rw [show k+1+(n - k)=n+1 by omega] at e3 o3;exact ⟨a1,c1,w1,a2,c2,w2,a3,c3,w3,e1,b1,e2,e3,Qdr o3 (λ g hg=>Nat.le_trans hb (o3.lt g hg).1),bw2.trans b3⟩
set_option maxHeartbeats 4000000 in
theorem Qwb {W:World} (A:Option Addr) (n C:Nat) (l:List Fo) (x:Fo) (hl:FoIn W A n l) (hnil:A=none->n=0/\C=0) (hC:n<=C) (hn:n<=1000) :
  Calls prog 104 #[.slice A n C,.agg #[.int .u64 x.s,.slice x.a x.m x.c,.int .i64 x.z,.int .i64 x.b]] W λ e w'=>∃a' c',e=.returned (.slice a' (n+1) c')/\w'.ownsRow W.heap.size 199 4 (.slice a' (n+1) c') (n+1) (foC (insO l x))/\Below W.heap.size W w':=by
 obtain ⟨q,hq⟩:∃q,q=W.heap.size:=⟨_,rfl⟩
 have hb0:Below W.heap.size W (W.alloc (.cells #[.int .u64 x.s,.slice x.a x.m x.c,.int .i64 x.z,.int .i64 x.b] 199)):=(Below.refl _ _).alloc (Nat.le_refl _) _;have HV0:Blk (W.alloc (.cells #[.int .u64 x.s,.slice x.a x.m x.c,.int .i64 x.z,.int .i64 x.b] 199)) q (foL x) 199/\FoIn (W.alloc (.cells #[.int .u64 x.s,.slice x.a x.m x.c,.int .i64 x.z,.int .i64 x.b] 199)) A n l/\Below W.heap.size W (W.alloc (.cells #[.int .u64 x.s,.slice x.a x.m x.c,.int .i64 x.z,.int .i64 x.b] 199)):=⟨Blk.new' hq.symm rfl,hl.outO (Qab Non hb0) (λ _ _ _ e=>e),hb0⟩
 have HH:=Jh5 hnil hC hn hl.1 hq;clear hl hnil hb0;go_enter func104,ntmps104
 go_wp2_with fail
 rw [<-hq];clear hq;generalize World.alloc W _=V at HV0 ⊢;have HV:=Jh1 HV0;clear HV0;have q0:V.cell? ⟨q,0,none⟩=some (.int .u64 x.s):=HV.out.1.cell 0;go_loopw [5] (λ v wr=>∃k:Nat,v=.int .i64 k/\k<=n/\insK l x.s n=insK l x.s k/\Below V.heap.size V wr) (λ v _=>(intOf v).toNat)
 case atStart=>exact ⟨n,rfl,Nat.le_refl _,rfl,Below.refl _ _⟩
 case round=>
  obtain ⟨k,rfl,hk,he,hb⟩:=hrel;have q1:wr.drew.cell? ⟨q,0,none⟩=some (.int .u64 x.s):=(HV.out.1.below (hb.trans ((Below.refl _ _).drew.mono hb.size)) HV.out.1.lt).cell 0;have HK:Hid (k<=n/\insK l x.s n=insK l x.s k/\Below V.heap.size V wr.drew):=⟨hk,he,hb.trans ((Below.refl _ _).drew.mono hb.size)⟩
  rcases Nat.eq_zero_or_pos k with h0 | hpos
  ·subst h0
   have hc:¬(0:Int)<0:=by omega
   clear hk he hb;go_wp2_with fail
   go_region
   obtain ⟨a1,c1,w1,a2,c2,w2,a3,c3,w3,e1,b1,e2,e3,o3,b3⟩:=Qqc (base:=W.heap.size) (k:=0) (by have h1:=(Jz2 HV).size;have h2:=(Jz2 HK).size;omega) x ((J2 HV).outO (Qab Non (Jz2 HK)) (λ _ _ _ e=>e)) HH.out.1 (J2 HH) (J3 HH) (by omega);have hs1:=λ w=>Qmv A n C (0) 0 (by omega) (by have:=(J2 HH);omega) w
   have hs2:=λ w=>Qqh A n C (0) 0 (by omega) (by omega) w
   have kq:=(HV.out.1.below (Jz2 HK) HV.out.1.lt).below b1 (HV.out.1.below (Jz2 HK) HV.out.1.lt).lt;have z0:w1.cell? ⟨q,0,none⟩=some (.int .u64 x.s):=kq.cell 0;have z1:w1.cell? ⟨q,1,none⟩=some (.slice x.a x.m x.c):=kq.cell 1;have z2:w1.cell? ⟨q,2,none⟩=some (.int .i64 x.z):=kq.cell 2;have z3:w1.cell? ⟨q,3,none⟩=some (.int .i64 x.b):=kq.cell 3;have HO:Hid (w3.ownsRow W.heap.size 199 4 (.slice a3 (n+1) c3) (n+1) (foC (insO l x))/\Below W.heap.size W w3):=⟨by rw [show insO l x=l.take (0) ++ [x] ++ l.drop (0) by unfold insO;rw [(J4 HH),show insK l x.s n=0 from (J2 HK)]];exact o3,((Jz2 HV).trans ((Jz2 HK).mono (Jz2 HV).size)).trans (b3.mono (Nat.le_trans (Jz2 HV).size (Jz2 HK).size))⟩
   clear o3 b1 b3 kq;go_wp2_with (first
    | (at_builtin;refine Qag rfl _ _ 196 196 rfl _ _ rfl rfl _ _ e1 ?_;clear e1)
    | (at_builtin;refine Qag rfl _ _ 196 196 rfl _ _ rfl rfl _ _ e2 ?_;clear e2)
    | (at_builtin;refine Qag rfl _ _ 196 196 rfl _ _ rfl rfl _ _ e3 ?_;clear e3))
   go_ret
   exact ⟨a3,c3,rfl,HO.out⟩
  ·obtain ⟨j,rfl⟩:∃j,k=j+1:=⟨k - 1,by omega⟩
   have hjn:j<n:=by omega
   have hwj:IntKind.i64.wrap (((j+1:Nat):Int) - 1)=(j:Int):=by rw [IntKind.wrap_i64];have:=(J3 HH);omega
   have hc:(0:Int)<((j+1:Nat):Int):=by omega
   have hj':(j:Int)<n:=by omega
   obtain ⟨g,off,rfl,hcl⟩:=(J2 HV).2.2.resolve_left (by omega);obtain ⟨f,hf⟩:∃f,l[j]?=some f:=⟨l[j]'(by have:=(J4 HH);omega),by simp⟩
   have y0:wr.drew.cell? ⟨g,off+j*4,none⟩=some (.int .u64 f.s):=(Qab Non (Jz2 HK)).cell (hcl j f hf 0 _ rfl) (λ e=>e);have hin:insK l x.s (j+1)=if x.s<f.s then insK l x.s j else j+1:=by
    show (if _ then _ else _)=_;rw [show (l.getD j default)=f by simp [List.getD,hf]]
   clear hcl hk he hb;by_cases hs:x.s<f.s
   ·have hs':decide (f.s > x.s)=true:=by simp [hs]
    have HN:Hid (insK l x.s n=insK l x.s j):=by show _=_;rw [(J2 HK),hin,if_pos hs]
    clear hin;go_wp2_with fail
    go_region
    go_wp2_with fail
    exact ⟨⟨j,rfl,by have:=HK.out.1;omega,HN.out,(Jz2 HK)⟩,by simp [intOf]⟩
   ·have HN:Hid (insK l x.s n=j+1):=by show _=_;rw [(J2 HK),hin,if_neg hs]
    clear hin;go_wp2_with fail
    go_region
    obtain ⟨a1,c1,w1,a2,c2,w2,a3,c3,w3,e1,b1,e2,e3,o3,b3⟩:=Qqc (base:=W.heap.size) (k:=j+1) (by have h1:=(Jz2 HV).size;have h2:=(Jz2 HK).size;omega) x ((J2 HV).outO (Qab Non (Jz2 HK)) (λ _ _ _ e=>e)) HH.out.1 (J2 HH) (J3 HH) (by omega);have hs1:=λ w=>Qmv (some ⟨g,off,none⟩) n C (j+1) ((j:Int)+1) (by omega) (by have:=(J2 HH);omega) w
    have hs2:=λ w=>Qqh (some ⟨g,off,none⟩) n C (j+1) ((j:Int)+1) (by omega) (by omega) w
    have kq:=(HV.out.1.below (Jz2 HK) HV.out.1.lt).below b1 (HV.out.1.below (Jz2 HK) HV.out.1.lt).lt;have z0:w1.cell? ⟨q,0,none⟩=some (.int .u64 x.s):=kq.cell 0;have z1:w1.cell? ⟨q,1,none⟩=some (.slice x.a x.m x.c):=kq.cell 1;have z2:w1.cell? ⟨q,2,none⟩=some (.int .i64 x.z):=kq.cell 2;have z3:w1.cell? ⟨q,3,none⟩=some (.int .i64 x.b):=kq.cell 3;have HO:Hid (w3.ownsRow W.heap.size 199 4 (.slice a3 (n+1) c3) (n+1) (foC (insO l x))/\Below W.heap.size W w3):=⟨by rw [show insO l x=l.take (j+1) ++ [x] ++ l.drop (j+1) by unfold insO;rw [(J4 HH),HN.out]];exact o3,((Jz2 HV).trans ((Jz2 HK).mono (Jz2 HV).size)).trans (b3.mono (Nat.le_trans (Jz2 HV).size (Jz2 HK).size))⟩
    clear o3 b1 b3 kq;go_wp2_with (first
     | (at_builtin;refine Qag rfl _ _ 196 196 rfl _ _ rfl rfl _ _ e1 ?_;clear e1)
     | (at_builtin;refine Qag rfl _ _ 196 196 rfl _ _ rfl rfl _ _ e2 ?_;clear e2)
     | (at_builtin;refine Qag rfl _ _ 196 196 rfl _ _ rfl rfl _ _ e3 ?_;clear e3))
    go_ret
    exact ⟨a3,c3,rfl,HO.out⟩
abbrev UpO (l:List Fo):Prop:=l.Pairwise (λ x y=>ltO y x=false)
theorem Qka {x y:Fo}:ltO y x=false↔(x.s<y.s\/(x.s=y.s/\(x.z<y.z\/(x.z=y.z/\x.b<=y.b)))):=by
 unfold ltO;simp only [decide_eq_false_iff_not]
 omega
theorem Qkj (l:List Fo) (s:Int):∀(k i:Nat) (f:Fo),insK l s k<=i->i<k->l[i]?=some f->s<f.s
 | 0,i,f,_,h,_=>by omega
 | k+1,i,f,h1,h2,hf=>by
  have e:insK l s (k+1)=if s<(l.getD k default).s then insK l s k else k+1:=rfl
  rw [e] at h1;split at h1
  ·rename_i hs
   rcases Nat.lt_or_ge i k with h | h
   ·exact Qkj l s k i f h1 h hf
   ·obtain rfl:i=k:=by omega
    rw [show l.getD i default=f by simp [List.getD,hf]] at hs;exact hs
  ·omega
theorem Qwz (l:List Fo) (s:Int):∀(k j:Nat) (f:Fo),insK l s k=j+1->l[j]?=some f->¬s<f.s
 | 0,j,f,h,_=>by exact absurd h (by show ¬0=j+1;omega)
 | k+1,j,f,h,hf=>by
  have e:insK l s (k+1)=if s<(l.getD k default).s then insK l s k else k+1:=rfl
  rw [e] at h;split at h
  ·exact Qwz l s k j f h hf
  ·rename_i hs
   obtain rfl:k=j:=by omega
   rw [show l.getD k default=f by simp [List.getD,hf]] at hs;exact hs
theorem Qix (l:List Fo) (x:Fo):(insO l x).Perm (l ++ [x]):=by
 unfold insO;have h:=List.take_append_drop (insK l x.s l.length) l;refine (List.Perm.append_right _ (List.perm_append_comm)).trans ?_
 rw [List.append_assoc,h];exact List.perm_append_comm
theorem Ql3 {l:List Fo} {x f:Fo} (h:f∈insO l x):f∈l\/f=x:=by
 have:=(Qix l x).mem_iff.1 h;simpa using this
theorem Qw1 {l:List Fo} {x:Fo} (h:UpO l) (hx:∀f∈l,f.z<x.z\/(f.z=x.z/\f.b<x.b)):UpO (insO l x):=by
 unfold insO;have hk:=Qux l x.s l.length;have hb:∀f∈l.take (insK l x.s l.length),¬x.s<f.s:=by
  intro f hf;obtain ⟨i,hi⟩:=List.getElem?_of_mem hf;have hil:=(List.getElem?_eq_some_iff.1 hi).1;rw [List.length_take] at hil;rw [List.getElem?_take_of_lt (by omega)] at hi;obtain ⟨j,hj⟩:∃j,insK l x.s l.length=j+1:=⟨insK l x.s l.length - 1,by omega⟩
  obtain ⟨g,hg⟩:∃g,l[j]?=some g:=⟨l[j]'(by omega),by simp⟩
  have h1:=Qwz l x.s l.length j g hj hg;rcases Nat.lt_or_ge i j with h2 | h2
  ·have h3:=List.pairwise_iff_getElem.1 h i j (by omega) (by omega) h2
   rw [(List.getElem?_eq_some_iff.1 hi).2,(List.getElem?_eq_some_iff.1 hg).2] at h3;have:=Qka.1 h3;omega
  ·obtain rfl:i=j:=by omega
   rw [hi] at hg;cases hg
   exact h1
 have ha:∀f∈l.drop (insK l x.s l.length),x.s<f.s:=by
  intro f hf;obtain ⟨i,hi⟩:=List.getElem?_of_mem hf;rw [List.getElem?_drop] at hi;exact Qkj l x.s l.length _ f (by omega) (List.getElem?_eq_some_iff.1 hi).1 hi
 refine List.pairwise_append.2 ⟨List.pairwise_append.2 ⟨h.sublist (List.take_sublist _ _),List.pairwise_singleton _ _,?_⟩,h.sublist (List.drop_sublist _ _),?_⟩
 ·intro f hf y hy
  simp only [List.mem_singleton] at hy
  subst hy;have h1:=hb f hf;have h2:=hx f (List.mem_of_mem_take hf);rw [Qka];omega
 ·intro f hf y hy
  have h1:=ha y hy;rcases List.mem_append.1 hf with h2 | h2
  ·have h3:=hb f h2
   rw [Qka];omega
  ·simp only [List.mem_singleton] at h2
   subst h2;rw [Qka];omega
theorem Q10:∀{l l':List Fo},UpO l->UpO l'->(l.map foK).Perm (l'.map foK)->l.map foK=l'.map foK:=by
 intro l l' h h' hp;have t:∀{l:List Fo},UpO l->(l.map foK).Pairwise (λ a b:Int × Int × Int=>a.1<b.1\/(a.1=b.1/\(a.2.1<b.2.1\/(a.2.1=b.2.1/\a.2.2<=b.2.2)))):=by
  intro l h;rw [List.pairwise_map];exact h.imp (λ hh=>Qka.1 hh)
 refine List.Perm.eq_of_pairwise (le:=λ a b:Int × Int × Int=>a.1<b.1\/(a.1=b.1/\(a.2.1<b.2.1\/(a.2.1=b.2.1/\a.2.2<=b.2.2)))) (λ a b _ _ h1 h2=>?_) (t h) (t h') hp
 obtain ⟨a1,a2,a3⟩:=a;obtain ⟨b1,b2,b3⟩:=b;simp only at h1 h2
 simp only [Prod.mk.injEq]
 omega
theorem Qjq {zs:List Zn}:∀{l l':List Fo} (q:Int) (P:List Pl),l.map foK=l'.map foK->folS (foX zs) q P l=folS (foX zs) q P l'
 | [],[],q,P,_=>rfl
 | [],_ :: _,q,P,h=>by simp at h
 | _ :: _,[],q,P,h=>by simp at h
 | f :: l,g :: l',q,P,h=>by
  rw [List.map_cons,List.map_cons,List.cons.injEq] at h;obtain ⟨hk,hr⟩:=h;have h1:f.s=g.s:=congrArg (·.1) hk;have h2:f.z=g.z:=congrArg (·.2.1) hk;have h3:f.b=g.b:=congrArg (·.2.2) hk;have h4:foX zs f=foX zs g:=by unfold foX;rw [h2,h3]
  by_cases c1:f.s=q
  ·rw [Qex c1,Qex (by rw [<-h1];exact c1)]
   exact Qjq q P hr
  ·by_cases c2:f.s=IntKind.u64.wrap (q+1)
   ·rw [Qdz c1 c2,Qdz (by rw [<-h1];exact c1) (by rw [<-h1];exact c2),h2,h3,h4]
    exact Qjq _ _ hr
   ·rw [Qe8 c1 c2,Qe8 (by rw [<-h1];exact c1) (by rw [<-h1];exact c2)]
theorem Qtn {l l':List Fo} (q:Int) (h:l.map foK=l'.map foK):Qcc q l=Qcc q l':=by
 have e:∀l:List Fo,Qcc q l=match (l.map foK).getLast? with | some k=>k.1 | none=>q:=by
  intro l;unfold Qcc;rw [List.getLast?_map];cases l.getLast? <;> rfl
 rw [e,e,h]
def mxS (q:Int) (l:List Fo):Int:=l.foldl (λ a f=>if a<f.s then f.s else a) q
theorem Qq2 (q:Int) (l:List Fo) (f:Fo):mxS q (l ++ [f])=if mxS q l<f.s then f.s else mxS q l:=by
 unfold mxS;rw [List.foldl_append];rfl
theorem Q3u {q m:Int} (hq:q<=m):∀{l:List Fo},(∀f∈l,f.s<=m)->mxS q l<=m:=by
 intro l;unfold mxS;induction l generalizing q with
 | nil=>intro _;exact hq
 | cons f l ih=>
  intro h;rw [List.foldl_cons];refine ih ?_ (λ g hg=>h g (by simp [hg]))
  have:=h f (by simp);split <;> omega
theorem Qwd {q:Int} {l:List Fo} (h:UpO l) (hq:∀f∈l,q<f.s):mxS q l=Qcc q l:=by
 unfold Qcc;cases hl:l.getLast? with
 | none=>
  rw [List.getLast?_eq_none_iff] at hl;subst hl;rfl
 | some f=>
  obtain ⟨l',rfl⟩:=List.getLast?_eq_some_iff.1 hl;have hf:=hq f (by simp);have h2:mxS q l'<=f.s:=Q3u (by omega) (λ g hg=>by
   have:=(List.pairwise_append.1 h).2.2 g hg f (by simp);have:=Qka.1 this;omega)
  rw [Qq2];show _=f.s;split <;> omega
section
theorem Qnc {w:World} {B:Nat} {e:TypeId} {A:Option Addr} {n C:Nat} {l:List Fo} (h:w.ownsRow B e 4 (.slice A n C) n (foC l)) (hn:n<=maxLen):FoIn w A n l/\(A=none->n=0/\C=0)/\n<=C/\l.length=n:=by
 have hl:l.length=n:=by have:=h.1;rw [Qcj] at this;omega
 refine ⟨⟨hl,hn,?_⟩,λ hA=>?_,(Qev h).1,hl⟩
 ·rcases h.2 with ⟨hv,h0⟩ | ⟨g,cap,cur,hv,_⟩
  ·exact .inl h0
  ·obtain ⟨rfl,-,rfl⟩:A=some ⟨g,0,none⟩/\n=n/\C=cap:=by
    simp only [Value.slice.injEq] at hv
    exact ⟨hv.1,rfl,hv.2.2⟩
   refine .inr ⟨g,0,rfl,λ i f hf j v hv=>?_⟩
   have hi:=(List.getElem?_eq_some_iff.1 hf).1;have hj:j<4:=by
    have:=(List.getElem?_eq_some_iff.1 hv).1;simpa [foL] using this
   rw [Nat.zero_add,h.cellAt (i*4+j) (by omega),Qob l i f j hf hj];exact hv
 ·rcases h.2 with ⟨hv,h0⟩ | ⟨g,cap,cur,hv,_⟩
  ·simp only [Value.slice.injEq] at hv
   exact ⟨h0,hv.2.2⟩
  ·rw [hA] at hv
   simp at hv
structure RvS (zs:List Zn) (B ga r:Nat) (gl:List Value) (S:List Pl) (wr:World) (A:Option Addr) (n C:Nat) (l:List Fo) (F:Option Addr) (k cF:Nat) (fl:List Int):Prop where
 row:wr.ownsRow B 199 4 (.slice A n C) n (foC l)
 its:∀f∈l,ItsIn wr f.a f.m (foX zs f)/\(f.m≠0->∀y,f.a.map (·.block)=some y->B<=y/\(Value.slice F k cF).ownBlock≠some y)
 ful:wr.ownsRow B 3 1 (.slice F k cF) k (Qaj .i64 fl)
 md:LmD wr r S
 st:Blk wr ga gl 82
 lt:ga<B/\r<B
section
variable {zs:List Zn} {B ga r:Nat} {gl:List Value} {S S':List Pl} {wr X:World} {A:Option Addr} {n C:Nat} {l:List Fo} {F:Option Addr} {k cF:Nat} {fl:List Int}
theorem RvS.below (h:RvS zs B ga r gl S wr A n C l F k cF fl) (hb:Below wr.heap.size wr X):RvS zs B ga r gl S X A n C l F k cF fl:=
 ⟨(Qab Non hb).own h.row (λ _ _ e=>e),λ f hf=>⟨(h.its f hf).1.below hb,(h.its f hf).2⟩,(Qab Non hb).own h.ful (λ _ _ e=>e),h.md.below hb,h.st.below hb h.st.lt,h.lt⟩
theorem RvS.start (hm:LmD wr r S) (hs:Blk wr ga gl 82) (hl:ga<B/\r<B):RvS zs B ga r gl S wr none 0 0 [] none 0 0 []:=
 ⟨World.ownsRow_nil _ _ _ _,by simp,World.ownsRow_nil _ _ _ _,hm,hs,hl⟩
theorem RvS.put (h:RvS zs B ga r gl S wr A n C l F k cF fl) {a':Option Addr} {c':Nat} {x:Fo} (hb:Below wr.heap.size wr X) (ho:X.ownsRow wr.heap.size 199 4 (.slice a' (n+1) c') (n+1) (foC (insO l x))) (hB:B<=wr.heap.size) (hx:ItsIn wr x.a x.m (foX zs x)) (hx2:x.m≠0->∀y,x.a.map (·.block)=some y->B<=y/\(Value.slice F k cF).ownBlock≠some y) :
  RvS zs B ga r gl S X a' (n+1) c' (insO l x) F k cF fl:=by
 have hX:=h.below hb;refine ⟨Qdr ho (λ g hg=>Nat.le_trans hB (ho.lt g hg).1),λ f hf=>?_,hX.ful,hX.md,hX.st,hX.lt⟩
 rcases Ql3 hf with hf | rfl
 ·exact hX.its f hf
 ·exact ⟨hx.below hb,hx2⟩
theorem RvS.full (h:RvS zs B ga r gl S wr A n C l F k cF fl) {g2:Nat} {z:Int} (hc:wr.cell? ⟨g2,0,none⟩=some (.int .i64 z)) (hk:k+1<=100000) (hB:B<=wr.heap.size) :
  ∃a' c' w',(Builtin.append_ #[103,103] 103 #[.slice F k cF,.slice (some ⟨g2,0,none⟩) 1 1]).run prog wr=.ok (.slice a' (k+1) c') w'/\RvS zs B ga r gl S w' A n C l a' (k+1) c' (fl ++ [z])/\Below B wr w':=by
 obtain ⟨v8,w8,e8,o8,g8,b8⟩:=Qde (e:=3) (t:=103) (ty:=103) (size:=1) (bytes:=8) Tryz.underlying103 Tryz.zero_int rfl (by decide) (by decide) (Qbh h.ful) ⟨g2,0,none⟩ 1 1 [.int .i64 z] rfl (by
  intro j u hj;rw [Addr.add_mid,Nat.zero_add];match j,hj with
  | 0,hj=>cases hj;exact hc) (by intro u hu;simp only [List.mem_cons,List.not_mem_nil,or_false] at hu;rw [hu];rfl) (by omega)
 obtain ⟨a8,c8,rfl⟩:∃a' c',v8=.slice a' (k+1) c':=Qam o8;have ho8:Out (λ j=>(Value.slice F k cF).ownBlock=some j) wr w8:=(Out.refl (λ j=>(Value.slice F k cF).ownBlock=some j) wr).grown g8 (λ j hj=>.inl hj);have hFB:∀j,(Value.slice F k cF).ownBlock=some j->B<=j:=λ j hj=>(h.ful.lt j hj).1
 have hbB:=ho8.below hB hFB;refine ⟨a8,c8,w8,e8,⟨ho8.own h.row (λ g hg e=>?_),λ f hf=>⟨(h.its f hf).1.outO ho8 (λ hm y hy=>((h.its f hf).2 hm y hy).2),λ hm y hy=>⟨((h.its f hf).2 hm y hy).1,λ e=>?_⟩⟩,?_,?_,ho8.blk h.st (λ e=>?_),h.lt⟩,hbB⟩
 ·rcases Qbi h.row h.ful (by decide) with h1 | h1
  ·rw [h1] at hg;cases hg
  ·exact h1 (hg.trans e.symm)
 ·rcases b8 with h1 | h1
  ·exact ((h.its f hf).2 hm y hy).2 (h1 ▸ e)
  ·have h2:=h1 y e
   have h3:=Qjb (h.its f hf).1 hm hy;omega
 ·have:w8.ownsRow 0 3 1 (.slice a8 (k+1) c8) (k+1) (Qaj .i64 (fl ++ [z])):=by simpa [Qaj] using o8
  refine Qdr this (λ g hg=>?_)
  rcases b8 with h1 | h1
  ·exact hFB g (h1 ▸ hg)
  ·exact Nat.le_trans hB (h1 g hg)
 ·obtain ⟨a,m,cc,hb,hr⟩:=h.md.row
  refine ⟨⟨a,m,cc,ho8.blk hb (λ e=>?_),ho8.own hr (λ g hg e=>?_)⟩,h.md.good⟩
  ·have:=hFB r e;have:=h.lt.2;omega
  ·rcases Qbi hr h.ful (by decide) with h1 | h1
   ·rw [h1] at hg;cases hg
   ·exact h1 (hg.trans e.symm)
 ·have:=hFB ga e;have:=h.lt.1;omega
theorem RvS.map (h:RvS zs B ga r gl S wr A n C l F k cF fl) (hm:LmD X r S') (ho:Out (λ j=>j=r) wr X) (hg:ga≠r):RvS zs B ga r gl S' X A n C l F k cF fl:=by
 have hr:=h.lt.2;refine ⟨ho.own h.row (λ g hg e=>?_),λ f hf=>⟨(h.its f hf).1.outO ho (λ hn y hy e=>?_),(h.its f hf).2⟩,ho.own h.ful (λ g hg e=>?_),hm,ho.blk h.st (λ e=>hg e),h.lt⟩
 ·have:=(h.row.lt g hg).1;omega
 ·have:=((h.its f hf).2 hn y hy).1;omega
 ·have:=(h.ful.lt g hg).1;omega
end
end
theorem ScD.recd {q:Nat} {V wr:World} {A B:Option Addr} {n C k cB:Nat} {l:List (List Int)} {is:List Int} (h:ScD q V wr A n C B k cB l is) {i:Nat} {E:List Int} (hE:l[i]?=some E) :
  ∃(g:Nat) (a:Option Addr) (m c:Nat),A=some ⟨g,0,none⟩/\wr.cell? ⟨g,i*2,none⟩=some (.int .u64 (decS E))/\wr.cell? ⟨g,i*2+1,none⟩=some (.slice a m c)/\ItsIn wr a m (decX E)/\(m≠0->∀y,a.map (·.block)=some y->q<=y):=by
 obtain ⟨vs,Z,r1,r2,r3,_,_⟩:=h.rows;have hil:=(List.getElem?_eq_some_iff.1 hE).1;have hln:=h.ln;obtain ⟨v,hv⟩:∃v,vs[i]?=some v:=⟨vs[i]'(by rw [r2.1];exact hil),by simp [r2.1,hil]⟩
 obtain ⟨a,m,c,rfl,hit,hz⟩:=r2.2 i E v hE hv;obtain ⟨h1,h2⟩:=Qre l vs i E _ hE hv;rcases r1.2 with ⟨hv0,hn0⟩ | ⟨g,cap,cur,hv0,_⟩
 ·omega
 ·simp only [Value.slice.injEq] at hv0
  obtain ⟨rfl,-,-⟩:=hv0;exact ⟨g,a,m,c,rfl,by rw [r1.cellAt (i*2) (by omega)];exact h1,by rw [r1.cellAt (i*2+1) (by omega)];exact h2,hit,λ hm y hy=>(r3 y (hz hm y hy)).1⟩
theorem ScD.num {q:Nat} {V wr:World} {A B:Option Addr} {n C k cB:Nat} {l:List (List Int)} {is:List Int} (h:ScD q V wr A n C B k cB l is) {i:Nat} {z:Int} (hE:is[i]?=some z) :
  ∃(g:Nat),B=some ⟨g,0,none⟩/\wr.cell? ⟨g,i,none⟩=some (.int .i64 z):=by
 have hil:=(List.getElem?_eq_some_iff.1 hE).1;have hln:=h.li;rcases h.ints.2 with ⟨hv0,hn0⟩ | ⟨g,cap,cur,hv0,_⟩
 ·omega
 ·simp only [Value.slice.injEq] at hv0
  obtain ⟨rfl,-,-⟩:=hv0;refine ⟨g,rfl,?_⟩
  rw [h.ints.cellAt i (by omega)];simp [Qaj,hE]
theorem KIn.next {V w w':World} {r:Nat} {A:Option Addr} {n:Nat} {P:List Pl} (h:KIn w A n P) (hV:KIn V A n P) (hr:V.heap.size<=r) (ho:Out (λ j=>j=r) w w'):KIn w' A n P:=by
 by_cases h0:n=0
 ·exact ⟨h.1,h.2.1,h.2.2.1,.inl h0⟩
 ·refine h.out ho (λ b hb e=>?_)
  obtain ⟨x,b',off,hx,hf,hA,c0,_⟩:=hV.at4 (i:=0) (by omega);rw [hA] at hb;simp only [Option.map_some,Option.some.injEq] at hb
  have:b'<_:=Qaa c0;omega
theorem Qvw (r:Nat) (S:List Pl) (w:World) (h:LmD w r S) (hS:S.length<=10000) :
  Calls prog 107 #[.pointer (some ⟨r,0,none⟩)] w λ e w'=>∃a cc,e=.returned (.slice a S.length cc)/\w'.ownsRow w.heap.size 137 4 (.slice a S.length cc) S.length (plC S)/\Below w.heap.size w w':=by
 obtain ⟨a,cc,hb,hr⟩:=h.list;have c0:=hb.cell 0;simp only [List.getElem?_cons_zero] at c0
 have hnone:w.ownsRow w.heap.size 137 4 (.slice none 0 0) 0 (plC []):=⟨rfl,.inl ⟨rfl,rfl⟩⟩
 obtain ⟨a',cc',W',hrun,hO,hg⟩:=Qp5 hnone (Qeh hr).o (Qq1 hr) (by omega) (Nat.le_refl _);rw [Nat.zero_add,List.nil_append] at hO;rw [Nat.zero_add] at hrun;have HO:Hid (W'.ownsRow w.heap.size 137 4 (.slice a' S.length cc') S.length (plC S)/\Below w.heap.size w W'):=⟨hO,(Below.refl _ _).grown hg (Nat.le_refl _) (λ k hk=>by cases hk)⟩
 clear h hb hr hnone hO hg;go_enter func107,ntmps107
 go_wp2_with (first | (at_builtin;refine Qag rfl _ _ 77 77 rfl _ _ rfl rfl _ _ hrun ?_;clear hrun) | go_in)
 go_ret
 exact ⟨a',cc',rfl,HO.out⟩
theorem Q16 {O:Nat->Prop} {W:World} {p B:Nat} {s:Sh} {zs:List Zn} (hd:Dv 101 O W p s zs) (hw:Wf s zs) (hlt:∀x,O x->x<B) (q:Int) (hq:Qai q) (sl:Int) (a1:Option Addr) (n1 c1:Nat) (l:List Pl) (hl:KIn W a1 n1 l) (hA1:∀y,a1.map (·.block)=some y->B<=y/\y<W.heap.size) (hn1:n1<=9000) (a2:Option Addr) (n2 c2:Nat) (f:List Int) (hf:NIn .i64 W a2 n2 f) (hA2:∀y,a2.map (·.block)=some y->B<=y/\y<W.heap.size) (hn2:n2<=1000) :
  Calls prog 106 #[.pointer (some ⟨p,0,none⟩),.int .u64 q,.slice a1 n1 c1,.slice a2 n2 c2,.int .i64 sl] W λ e w'=>∃(k:Rs) (V:World) (D M:Nat->Prop),e=.returned (.pointer (some ⟨k.ps,0,none⟩))/\Below W.heap.size W V/\Sd (SdO D M k) V k (onG2 s zs q sl l f) w'/\∀x,SdO D M k x->O x\/W.heap.size<=x:=by
 have no:∀y,B<=y/\y<W.heap.size->¬(O y\/W.heap.size<=y):=λ y hy h=>by
  rcases h with h | h
  ·have:=hlt y h;omega
  ·omega
 exact Q2w hd hw q hq sl (λ x=>O x\/W.heap.size<=x) (λ x h=>.inr h) (λ x h=>.inl h) a1 n1 c1 l (λ V hV=>hl.out hV (λ b hb=>no b (hA1 b hb))) hn1 a2 n2 c2 f (λ V hV=>hf.cells (λ b o v hb hv=>hV.cell hv (no b (hA2 b hb)))) hn2
theorem Qrf {zs:List Zn} {z:Int}:∀(f i:Nat),(∀j∈Qe6 zs z f i,i<=j)/\(Qe6 zs z f i).Pairwise (λ a b=>a<b)
 | 0,i=>by simp [Qe6]
 | f+1,i=>by
  cases he:Qbe zs z i with
  | none=>rw [Qga he];simp
  | some e=>
   obtain ⟨_,_,_,h3,_⟩:=Qdj he;obtain ⟨g1,g2⟩:=Qrf (zs:=zs) (z:=z) f e;rw [Qfn he];refine ⟨λ j hj=>?_,List.pairwise_cons.2 ⟨λ j hj=>?_,g2⟩⟩
   ·rcases List.mem_cons.1 hj with rfl | hj
    ·exact Nat.le_refl _
    ·have:=g1 j hj;omega
   ·have:=g1 j hj;omega
theorem Qri {zs:List Zn} {z:Int} {j k a b:Nat} (hjk:j<k) (ha:(Qay zs z)[j]?=some a) (hb:(Qay zs z)[k]?=some b):a<b:=by
 have h:=(Qrf (zs:=zs) (z:=z) (atZ zs z).1.length 0).2;have h1:=(List.getElem?_eq_some_iff.1 ha)
 have h2:=(List.getElem?_eq_some_iff.1 hb)
 have:=List.pairwise_iff_getElem.1 h j k h1.1 h2.1 hjk;obtain ⟨_,rfl⟩:=h1;obtain ⟨_,rfl⟩:=h2;exact this
end Go.Proofs.YtcdnjeiamihhbaaGreat
