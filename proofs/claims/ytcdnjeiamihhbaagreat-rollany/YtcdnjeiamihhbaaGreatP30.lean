/- P30 -/
import Derived.Test.YtcdnjeiamihhbaaGreatP29
set_option linter.unusedVariables false
set_option maxRecDepth 4000
open Go.Proofs.Tryz
namespace Go.Proofs.YtcdnjeiamihhbaaGreat
open Go.RowKit
section
def Q31 (O:Nat->Prop) (W:World) (s:Sh) (zs:List Zn) (e:Ending) (w':World):Prop:=
 ((Qa2 s zs 2).2.2.2≠0/\e=.returned (.tuple #[.pointer none,.int .i64 (Qa2 s zs 2).2.2.2])/\Below W.heap.size W w')\/
 ((Qa2 s zs 2).2.2.2=0/\∃(l:List Fo) (k:Rs) (V:World) (R:Nat->Prop),(l.map foK).Perm (Qa4 zs (Qa2 s zs 2).1 zs.length)/\UpO l/\Below W.heap.size W V/\Sd R V k (Qbb (recS s zs l)).2 w'/\(∀x,R x->O x\/W.heap.size<=x)/\
  e=.returned (.tuple #[.pointer (if (Qbb (recS s zs l)).1=0 then some ⟨k.ps,0,none⟩ else none),.int .i64 (Qbb (recS s zs l)).1]))
theorem LmN.toD {B:Nat} {w:World} {r:Nat} {S:List Pl} (h:LmN B w r S):LmD w r S:=by
 obtain ⟨⟨a,n,cc,h1,h2⟩,hg⟩:=h;exact ⟨⟨a,n,cc,h1,Qbh h2⟩,hg⟩
section
variable {O:Nat->Prop} {W:World} {p:Nat} {s:Sh} {zs:List Zn}
set_option maxHeartbeats 16000000 in
theorem Qjf (hd:Dv 101 O W p s zs) (hw:Wf s zs) (hsm:SmD s) (hlt:∀x,O x->x<W.heap.size) :
  Calls prog 48 #[.pointer (some ⟨p,0,none⟩)] W (Q31 O W s zs):=by
 have hN:(Qa4 zs (Qa2 s zs 2).1 zs.length).length<=192:=Qno hw hsm _;have hP:(Qa2 s zs 2).2.1.length<=112:=Qjv hw hsm 2;have hslot:=Qg5 s zs 2;have hfq:=Qhr hd 2;unfold Q31 recS;obtain ⟨q0,hq0⟩:∃q0,q0=(Qa2 s zs 2).1:=⟨_,rfl⟩
 obtain ⟨P0,hP0⟩:∃P0,P0=(Qa2 s zs 2).2.1:=⟨_,rfl⟩
 obtain ⟨sl,hsl⟩:∃sl,sl=(Qa2 s zs 2).2.2.1:=⟨_,rfl⟩
 obtain ⟨er,her⟩:∃er,er=(Qa2 s zs 2).2.2.2:=⟨_,rfl⟩
 have HLd:Hid (Calls prog 101 #[.pointer (some ⟨p,0,none⟩)] W λ e w'=>∃A n C,e=.returned (.tuple #[.agg #[.int .u64 q0,.slice A n C],.int .i64 sl,.int .i64 er])/\KIn w' A n P0/\n<=C/\Below W.heap.size W w'):=by rw [hq0,hP0,hsl,her];exact Qup hd hw
 have HD:=Jh4 hd hw hsm hlt;rw [<-hq0] at hN hfq;rw [<-hP0] at hP;rw [<-hsl,<-her] at hslot;rw [<-hq0,<-hP0,<-hsl,<-her];have HH:=Jh4 hN hP hfq hslot;have HRd:Hid (∀V z bn,Below W.heap.size W V->Calls prog 98 #[.pointer (some ⟨p,0,none⟩),.agg #[.int .i64 z,.int .i64 bn]] V λ e w'=>∃a n c,e=.returned (.tuple #[.slice a n c,.int .i64 (rdE zs z bn)])/\Below V.heap.size V w'/\BIn w' a n (rdB zs z bn)/\(a=none->n=0/\c=0)/\n<=c):=λ V z bn hV=>Qqm (hd.later hV) hw z bn
 have HAt:Hid (∀V z,Below W.heap.size W V->Calls prog 97 #[.pointer (some ⟨p,0,none⟩),.int .i64 z] V λ e w'=>e=.returned (.tuple #[.int .i64 ((atZ zs z).1.length:Nat),.int .i64 (atZ zs z).2])/\Below V.heap.size V w'):=λ V z hV=>Qt5 z (hd.later hV)
 have HSc:Hid (∀V z,Below W.heap.size W V->Calls prog 45 #[.pointer (some ⟨p,0,none⟩),.int .i64 z] V (Quj V zs z)):=λ V z hV=>Qr4 z (hd.later hV) hw
 have hpc:W.cell? ⟨p,0,none⟩=some (.int .i64 s.z):=by obtain ⟨g,c,vs,hv⟩:=hd;exact hv.pcell.1
 have hpl:p<W.heap.size:=by obtain ⟨g,c,vs,hv⟩:=hd;exact hv.lt.1
 have HPc:Hid (∀V,Below W.heap.size W V->V.cell? ⟨p,0,none⟩=some (.int .i64 s.z)):=λ V hV=>by rw [World.cell?_of_block (hV.block p hpl)];exact hpc
 clear hd hw hN hP hq0 hP0 hsl her hfq hslot hsm hlt hpc hpl;by_cases h0:er=0
 ·have h0':(er != 0)=false:=by simp [h0]
  go_enter func48,ntmps48
  go_wp2_with (go_at_call 101;refine HLd.out.mono ?_;rintro e W1 ⟨A,n,C,rfl,hk,hnC,hb1⟩)
  have HV:Hid (Below W.heap.size W (W1.alloc (.cells #[.int .u64 q0,.slice A n C] 82))/\Blk (W1.alloc (.cells #[.int .u64 q0,.slice A n C] 82)) W1.heap.size [.int .u64 q0,.slice A n C] 82/\KIn (W1.alloc (.cells #[.int .u64 q0,.slice A n C] 82)) A n P0):=⟨hb1.alloc hb1.size _,Blk.new' rfl rfl,hk.below (Qbg _ _)⟩
  clear hk hb1;generalize World.alloc W1 _=V at HV ⊢;generalize W1.heap.size=ga at HV ⊢;go_wp2_with (go_at_call 102;refine (Qy4 V).mono ?_;rintro e W2 ⟨rfl,hm2,hb2⟩)
  obtain ⟨r,hr⟩:∃r,r=V.heap.size:=⟨_,rfl⟩
  rw [<-hr] at hm2 ⊢;have HR:Hid (r=V.heap.size/\ga<r/\W.heap.size<=r):=⟨hr,by have:=(J2 HV).lt;omega,by have:=HV.out.1.size;omega⟩
  have H2:=Jh2 hm2 hb2;have hnl:P0.length=n:=(J3 HV)
  have HP:Hid (P0.length=n/\n<=112/\∀x∈P0,Qdu x):=⟨hnl,by have:=(J2 HH);omega,(J5 HV)⟩
  clear hm2 hb2 hr hnl;go_wp2_with fail
  go_loopw [8] (λ x wr=>∃i:Nat,x=.int .i64 i/\i<=n/\LmD wr r (Qbn zs (P0.take i))/\Below W.heap.size W wr/\Blk wr ga [.int .u64 q0,.slice A n C] 82/\KIn wr A n P0) (λ x _=>n - (intOf x).toNat)
  case atStart=>exact ⟨0,rfl,Nat.zero_le _,H2.out.1.toD,HV.out.1.trans (H2.out.2.mono HV.out.1.size),(J2 HV).below H2.out.2 (J2 HV).lt,(Jz2 HV).below H2.out.2⟩
  case round=>
   obtain ⟨i,rfl,hi,hm,hb,kg,hk⟩:=hrel;have g1:wr.cell? ⟨ga,1,none⟩=some (.slice A n C):=kg.cell 1;rcases Nat.lt_or_ge i n with hlt | hge
   ·have hlt':(i:Int)<n:=by omega
    have hwi:IntKind.i64.wrap ((i:Int)+1)=(i:Int)+1:=by rw [IntKind.wrap_i64];have:=(J2 HP);omega
    obtain ⟨x,b,off,hx,hfx,rfl,y0,y1,y2,y3⟩:=hk.at4 hlt;obtain ⟨⟨t,u⟩,⟨z,bn⟩⟩:=x;simp only at y0 y1 y2 y3
    have hS:=Qgj zs (P0.take i) (λ x hx=>(Jz2 HP) x (List.mem_of_mem_take hx));have hSl:(Qbn zs (P0.take i)).length<=112:=by have h1:=hS.2;rw [List.length_take] at h1;have:=(J2 HP);omega
    have hRd:=HRd.out wr z bn hb;obtain ⟨E0,hE0⟩:∃E0,E0=rdE zs z bn:=⟨_,rfl⟩
    rw [<-hE0] at hRd;have HK:=Jh8 hm hb kg hk hfx hSl hx hE0;clear hm hb kg hk hfx hS hSl hx hE0;by_cases hE:E0=0
    ·have hE':(E0 == 0)=true:=by simp [hE]
     have HS:Hid (Qbn zs (P0.take (i+1))=putS (Qbn zs (P0.take i)) ((t,u),(z,bn))):=by
      show _=_;rw [Qig (J7 HK),if_pos];cases hB:blkZ zs (z,bn) with
      | some _=>rfl
      | none=>
       have:=Qjx hB;have h2:=(Jz7 HK)
       simp only at this
       omega
     go_wp2_with (first
      | (go_at_call 98;refine hRd.mono ?_;rintro e w3 ⟨da,dn,dc,rfl,hb3,_,_,_⟩;have k3:=(J3 HK).below hb3 (J3 HK).lt;have g3:w3.cell? ⟨ga,1,none⟩=some (.slice (some ⟨b,off,none⟩) n C):=k3.cell 1;have x0:=(Qab Non hb3).cell y0 (λ e=>e);have x1:=(Qab Non hb3).cell y1 (λ e=>e);have x2:=(Qab Non hb3).cell y2 (λ e=>e);have x3:=(Qab Non hb3).cell y3 (λ e=>e))
      | (go_at_call 103;refine (Ql6 r (Qbn zs (P0.take i)) ((t,u),(z,bn)) _ (HK.out.1.below hb3) (J5 HK) (by have:=(J6 HK);omega)).mono ?_;rintro e w4 ⟨rfl,hm4,ho4⟩))
     have hne:ga≠r:=by have:=(J2 HR);omega
     have hrW:W.heap.size<=r:=(Jz2 HR)
     have hb3W:=(J2 HK).trans (hb3.mono (J2 HK).size);exact ⟨⟨i+1,by simp,by omega,by rw [HS.out];exact hm4.toD,hb3W.trans (ho4.below hb3W.size (λ j hj=>by omega)),ho4.blk k3 hne,((J4 HK).below hb3).next (Jz2 HV) (by rw [HR.out.1];exact Nat.le_refl _) ho4⟩,by simp [intOf];omega⟩
    ·have hE':(E0 == 0)=false:=by simp [hE]
     have HS:Hid (Qbn zs (P0.take (i+1))=Qbn zs (P0.take i)):=by
      show _=_;rw [Qig (J7 HK),if_neg];intro hB;cases hB2:blkZ zs (z,bn) with
      | some E=>
       have:=(Qg9 hB2).1;have h2:=(Jz7 HK)
       simp only at this
       omega
      | none=>
       simp only at hB
       rw [hB2] at hB;cases hB
     go_wp2_with (go_at_call 98;refine hRd.mono ?_;rintro e w3 ⟨da,dn,dc,rfl,hb3,_,_,_⟩)
     have hb3W:=(J2 HK).trans (hb3.mono (J2 HK).size);exact ⟨⟨i+1,by simp,by omega,by rw [HS.out];exact HK.out.1.below hb3,hb3W,(J3 HK).below hb3 (J3 HK).lt,(J4 HK).below hb3⟩,by simp [intOf];omega⟩
   ·obtain rfl:i=n:=by omega
    have hge':¬((i:Int)<i):=by omega
    obtain ⟨S0,hS0⟩:∃S0,S0=Qbn zs P0:=⟨_,rfl⟩
    rw [List.take_of_length_le (by have:=HP.out.1;omega),<-hS0] at hm;obtain ⟨Z,hZ⟩:∃Z:Nat,s.z=Z:=⟨s.z.toNat,by have:=(J2 HD).right.1;omega⟩
    have hZl:zs.length=Z:=by have:=(J2 HD).len;omega
    have hZ12:Z<=12:=by have:=(J3 HD).1;omega
    have hZ6:6<=Z:=by have:=(J2 HD).right.1;omega
    have hgS:=Qgj zs P0 (Jz2 HP);rw [<-hS0] at hgS;have HZ:Hid (S0=Qbn zs P0/\zs.length=Z/\Z<=12/\6<=Z/\Good S0/\S0.length<=112/\s.z=(Z:Int)):=⟨hS0,hZl,hZ12,hZ6,hgS.1,by have h1:=hgS.2;have h2:=(J2 HH);omega,hZ⟩
    have HPc2:Hid (∀V,Below W.heap.size W V->V.cell? ⟨p,0,none⟩=some (.int .i64 (Z:Nat))):=λ V hV=>by rw [<-hZ];exact HPc.out V hV
    clear hS0 hZ hZl hZ12 hZ6 hgS HPc;obtain ⟨B,hB⟩:∃B,B=wr.heap.size:=⟨_,rfl⟩
    have HB:Hid (ga<B/\r<B/\W.heap.size<=B):=⟨by have:=kg.lt;omega,by have:=hm.lt;omega,by have:=hb.size;omega⟩
    have HV0:Hid (RvS zs B ga r [.int .u64 q0,.slice A i C] S0 wr none 0 0 [] none 0 0 []/\Below W.heap.size W wr/\B<=wr.heap.size):=⟨RvS.start hm kg ⟨HB.out.1,(J2 HB)⟩,hb,by omega⟩
    clear hm hb kg hk hB hge;go_wp2_with fail
    clear g1;go_loopw [11,12,13] (λ u v x wr=>∃(z n1 C1 n2 C2:Nat) (A1 A2:Option Addr) (l:List Fo),u=.slice A1 n1 C1/\v=.slice A2 n2 C2/\x=.int .i64 (z:Nat)/\2<=z/\z<=Z/\RvS zs B ga r [.int .u64 q0,.slice A i C] S0 wr A1 n1 C1 l A2 n2 C2 (Qal zs z)/\Below W.heap.size W wr/\B<=wr.heap.size/\(l.map foK).Perm (Qa4 zs q0 z)/\UpO l/\(∀f∈l,f.z<z)) (λ _ _ x _=>Z - (intOf x).toNat)
    case atStart=>exact ⟨2,0,0,0,0,none,none,[],rfl,rfl,rfl,by omega,by have:=(J4 HZ);omega,by rw [Qfg];exact HV0.out.1,(J2 HV0),(Jz2 HV0),by rw [Qi5];exact List.Perm.nil,List.Pairwise.nil,by simp⟩
    case round=>
     obtain ⟨z,n1,C1,n2,C2,A1,A2,l,rfl,rfl,rfl,hz2,hzZ,hrv,hbW,hBw,hpm,hup,hlz⟩:=hrel;have pc:=HPc2.out wr hbW;rcases Nat.lt_or_ge z Z with hlt | hge
     ·have hlt':(z:Int)<Z:=by omega
      have hwz:IntKind.i64.wrap ((z:Int)+1)=(z:Int)+1:=by rw [IntKind.wrap_i64];have:=(J3 HZ);omega
      have hAt:=HAt.out wr (z:Nat) hbW;obtain ⟨L,hL⟩:∃L,L=(atZ zs (z:Nat)).1.length:=⟨_,rfl⟩
      rw [<-hL] at hAt;have hq4:=Jh2 hBw hbW;by_cases hL0:L=0
      ·have hL':decide ((0:Int)<(L:Nat))=false:=by simp;omega
       have hFu:Qal zs (z+1)=Qal zs z:=Qjd (by omega);rw [<-hFu] at hrv;go_wp2_with (first
        | (go_at_call 97;refine hAt.mono ?_;rintro e w4 ⟨rfl,hb4⟩;have hbW4:=hbW.trans (hb4.mono hbW.size);have hrv4:=hrv.below hb4;have hBw4:B<=w4.heap.size:=Nat.le_trans hBw hb4.size;have hSc4:=HSc.out w4 (z:Nat) hbW4)
        | (go_at_call 45;refine hSc4.mono ?_;rintro e w5 ⟨A5,C5,B5,cB5,n5,rfl,hsc5⟩;have hb45:=hsc5.bel;have hrv5:=hrv4.below hb45;have hbW5:=hbW4.trans (hb45.mono hbW4.size);have hBw5:B<=w5.heap.size:=Nat.le_trans hBw4 hb45.size))
       have hS5:=hSc4;obtain ⟨V5,hV5⟩:∃V5,V5=w5:=⟨_,rfl⟩
       rw [<-hV5] at hrv5 hsc5 hbW5 hBw5 hb45 ⊢;clear hV5 hS5 hSc4;have HF:Hid (∀g,(Value.slice A2 n2 C2).ownBlock=some g->g<w4.heap.size):=λ g hg=>(hrv4.ful.lt g hg).2
       have HB4:=Jh1 hBw4;have HP5:Hid ((l.map foK).Perm (Qa4 zs q0 z)/\z<Z/\2<=z/\Qay zs (z:Nat)=Qay zs (z:Nat)/\n5=(Qay zs (z:Nat)).length/\n5<=16):=⟨hpm,hlt,hz2,rfl,by have:=hsc5.ln;rw [List.length_map] at this;exact this.symm,by have h1:=hsc5.ln;rw [List.length_map] at h1;have h2:=Qd0 zs (z:Nat) (atZ zs (z:Nat)).1.length 0;have h3:=Qj0 (J2 HD) (J3 HD) (z:Nat);unfold Qay at h1;omega⟩
       have H0:=Jh6 hrv5 hbW5 hsc5 hup hlz hBw5;clear hrv5 hsc5 hbW5 hBw5 hb45 hpm hup hlz hrv4 hBw4 hbW4;go_loopw [11,18] (λ u x wr=>∃(k m1 D1:Nat) (E1:Option Addr) (l':List Fo),u=.slice E1 m1 D1/\x=.int .i64 (k:Nat)/\k<=n5/\RvS zs B ga r [.int .u64 q0,.slice A i C] S0 wr E1 m1 D1 l' A2 n2 C2 (Qal zs (z+1))/\Below V5.heap.size V5 wr/\(l'.map foK).Perm (Qa4 zs q0 z ++ Qb1 zs q0 z ((Qay zs (z:Nat)).take k))/\UpO l'/\(∀f∈l',f.z<z\/(f.z=z/\∃j i:Nat,j<k/\(Qay zs (z:Nat))[j]?=some i/\f.b=i))) (λ _ x _=>n5 - (intOf x).toNat)
       case atStart=>exact ⟨0,n1,C1,A1,l,rfl,rfl,Nat.zero_le _,H0.out.1,Below.refl _ _,by simpa [Qb1] using HP5.out.1,(J4 H0),λ f hf=>.inl ((J5 H0) f hf)⟩
       case round=>
        obtain ⟨k,m1,D1,E1,l',rfl,rfl,hk,hrv,hb,hpm,hup,hlz⟩:=hrel;rcases Nat.lt_or_ge k n5 with hlk | hgk
        ·have hlk':(k:Int)<n5:=by omega
         have hwk:IntKind.i64.wrap ((k:Int)+1)=(k:Int)+1:=by rw [IntKind.wrap_i64];have:=(Jz5 HP5);omega
         obtain ⟨ix,hix⟩:∃ix,(Qay zs (z:Nat))[k]?=some ix:=⟨(Qay zs (z:Nat))[k]'(by have:=(J5 HP5);omega),by simp⟩
         have bD:Below wr.heap.size wr wr.drew:=(Below.refl _ _).drew;have hbD:=hb.trans (bD.mono hb.size);have hrvD:=hrv.below bD;have hsc:=(J3 H0).below hbD;obtain ⟨gr,a6,m6,c6,hA5,t0,t1,hit6,hfr6⟩:=hsc.recd (i:=k) (E:=elB zs (z:Nat) ix) (by rw [List.getElem?_map,hix];rfl);obtain ⟨gb,hB5,t2⟩:=hsc.num (i:=k) (z:=((ix:Nat):Int)) (by rw [List.getElem?_map,hix];rfl);subst hA5;subst hB5;have g0:wr.drew.cell? ⟨ga,0,none⟩=some (.int .u64 q0):=hrvD.st.cell 0;have hml:m1<=208/\l'.length=m1:=by
          have h1:=hrv.row.1;rw [Qcj] at h1;have h2:=hpm.length_eq;rw [List.length_map,List.length_append] at h2;have h3:=Qgt (J2 HD) (J3 HD) q0 z;have h4:(Qb1 zs q0 z ((Qay zs (z:Nat)).take k)).length<=k:=by
           unfold Qb1;rw [List.length_map];exact Nat.le_trans (List.length_filter_le _ _) (by rw [List.length_take];omega)
          have h5:=(J2 HP5)
          have h6:=(J3 HZ)
          have h7:=(Jz5 HP5)
          omega
         have htk:(Qay zs (z:Nat)).take (k+1)=(Qay zs (z:Nat)).take k ++ [ix]:=Qao hix;obtain ⟨Sq,hSq⟩:∃Sq,Sq=decS (elB zs (z:Nat) ix):=⟨_,rfl⟩
         rw [<-hSq] at t0;have HK:=Jh12 hrvD hbD hpm hup hlz hlk hix hit6 hfr6 hml.1 htk hSq;clear hrv hb hrvD hbD bD hpm hup hlz hlk hsc hit6 hfr6 hml htk hix hSq;by_cases hq:q0<Sq
         ·have hq':decide (q0<Sq)=true:=by simp [hq]
          have bD2:Below wr.drew.heap.size wr.drew wr.drew.drew:=(Below.refl _ _).drew;have hrvE:=HK.out.1.below bD2;have hbE:=(J2 HK).trans (bD2.mono (J2 HK).size);have hitE:=(J8 HK).below bD2;have u0:wr.drew.drew.cell? ⟨gr,k*2,none⟩=some (.int .u64 Sq):=(Qab Non bD2).cell t0 (λ e=>e);have u1:wr.drew.drew.cell? ⟨gr,k*2+1,none⟩=some (.slice a6 m6 c6):=(Qab Non bD2).cell t1 (λ e=>e);have u2:wr.drew.drew.cell? ⟨gb,k,none⟩=some (.int .i64 ((ix:Nat):Int)):=(Qab Non bD2).cell t2 (λ e=>e);have HE2:=Jh3 hrvE hbE hitE;have hfo:=Qnc HE2.out.1.row (by have:=(J10 HK);unfold maxLen;omega);have hPt:=Qwb E1 m1 D1 l' ⟨Sq,a6,m6,c6,(z:Nat),(ix:Nat)⟩ hfo.1 hfo.2.1 hfo.2.2.1 (by have:=(J10 HK);omega);have HPt:=Jh1 @hPt;clear hPt hfo bD2 hrvE hbE hitE;go_wp2_with fail
          go_region
          go_wp2_with fail
          skip
          go_region_law (go_simp;go_at_call 104;refine HPt.out.mono ?_;rintro e w7 ⟨a7,c7,rfl,ow7,hb7⟩)
          all_goals (
           go_wp2_with fail
           have hrv7:=HE2.out.1.put (x:=⟨Sq,a6,m6,c6,(z:Nat),(ix:Nat)⟩) hb7 ow7 (by have h1:=(Jz5 H0);have h2:=(J2 HE2).size;omega) (Jz2 HE2) (λ hm y hy=>by
            have h1:=(J9 HK) hm y hy;have h2:=HB4.out;exact ⟨by omega,λ e=>by have:=HF.out y e;omega⟩)
           refine ⟨⟨k+1,m1+1,c7,a7,_,rfl,by simp,by have:=(J6 HK);omega,hrv7,(J2 HE2).trans (hb7.mono (J2 HE2).size),?_,Qw1 (J4 HK) (λ f hf=>?_),λ f hf=>?_⟩,by simp [intOf];have:=(J6 HK);omega⟩
           ·rw [(J11 HK),Qc7,if_pos (by rw [<-(Jz11 HK)];exact hq),<-List.append_assoc]
            refine ((Qix l' _).map foK).trans ?_
            rw [List.map_append];have e:[(⟨Sq,a6,m6,c6,(z:Nat),(ix:Nat)⟩:Fo)].map foK=[(decS (elB zs (z:Nat) ix),((z:Nat):Int),((ix:Nat):Int))]:=by rw [<-(Jz11 HK)];rfl
            rw [e];exact (J3 HK).append_right _
           ·rcases (J5 HK) f hf with h | ⟨h,j,i',hj,hi',hb'⟩
            ·exact .inl h
            ·refine .inr ⟨h,?_⟩
             have:=Qri hj hi' (J7 HK);show f.b<((ix:Nat):Int);omega
           ·rcases Ql3 hf with hf | rfl
            ·rcases (J5 HK) f hf with h | ⟨h,j,i',hj,hi',hb'⟩
             ·exact .inl h
             ·exact .inr ⟨h,j,i',by omega,hi',hb'⟩
            ·exact .inr ⟨rfl,k,ix,by omega,(J7 HK),rfl⟩)
         ·have hq':decide (q0<Sq)=false:=by simp;omega
          go_wp2_with fail
          go_region
          go_wp2_with fail
          refine ⟨⟨k+1,m1,D1,E1,l',rfl,by simp,by have:=(J6 HK);omega,HK.out.1,(J2 HK),?_,(J4 HK),λ f hf=>?_⟩,by simp [intOf];have:=(J6 HK);omega⟩
          ·rw [(J11 HK),Qc7,if_neg (by rw [<-(Jz11 HK)];omega)]
           exact (J3 HK)
          ·rcases (J5 HK) f hf with h | ⟨h,j,i',hj,hi',hb'⟩
           ·exact .inl h
           ·exact .inr ⟨h,j,i',by omega,hi',hb'⟩
        ·obtain rfl:k=n5:=by omega
         have hgk':¬((k:Int)<k):=by omega
         have HE:Hid (RvS zs B ga r [.int .u64 q0,.slice A i C] S0 wr E1 m1 D1 l' A2 n2 C2 (Qal zs (z+1))/\Below W.heap.size W wr/\B<=wr.heap.size/\(l'.map foK).Perm (Qa4 zs q0 (z+1))/\UpO l'/\(∀f∈l',f.z<((z+1:Nat):Int))):=by
          refine ⟨hrv,(J2 H0).trans (hb.mono (J2 H0).size),by have h1:=(Jz5 H0);have h2:=hb.size;omega,?_,hup,λ f hf=>?_⟩
          ·rw [Qbp (J3 HP5)]
           rw [List.take_of_length_le (by have:=(J5 HP5);omega)] at hpm;exact hpm
          ·rcases hlz f hf with h | ⟨h,_⟩ <;> omega
         clear hrv hb hpm hup hlz hgk;go_wp2_with fail
         exact ⟨⟨z+1,m1,D1,n2,C2,E1,A2,l',rfl,rfl,by simp,by omega,by have:=(J2 HP5);omega,HE.out.1,(J2 HE),(J3 HE),(J4 HE),(J5 HE),(Jz5 HE)⟩,by simp [intOf];have:=(J2 HP5);omega⟩
      ·have hL':decide ((0:Int)<(L:Nat))=true:=by simp;omega
       have hFu:Qal zs (z+1)=Qal zs z ++ [(z:Int)]:=Qhc hz2 (by omega);have hn2:n2+1<=100000:=by
        have h1:=hrv.ful.1;have h2:=Qdb zs z;have h3:=(J3 HZ)
        simp [Qaj] at h1
        omega
       go_wp2_with (first
        | (go_at_call 97;refine hAt.mono ?_;rintro e w3 ⟨rfl,hb3⟩;have hb3':=hb3.trans (Qbg w3 (.cells #[.int .i64 (z:Nat)] 3) |>.mono hb3.size);obtain ⟨a4,c4,w4,e4,hrv4,hb4⟩:=(hrv.below hb3').full (g2:=w3.heap.size) (World.cell?_alloc_mark ..) hn2 (Nat.le_trans hBw hb3'.size);rw [<-hFu] at hrv4;have hbW4:Below W.heap.size W w4:=(hbW.trans (hb3'.mono hbW.size)).trans (hb4.mono (Jz2 HB));have hBw4:B<=w4.heap.size:=Nat.le_trans (Nat.le_trans hBw hb3'.size) hb4.size;have hSc4:=HSc.out w4 (z:Nat) hbW4)
        | (at_builtin;refine Qag rfl _ _ 103 103 rfl _ _ rfl rfl _ _ e4 ?_;clear e4)
        | (go_at_call 45;refine hSc4.mono ?_;rintro e w5 ⟨A5,C5,B5,cB5,n5,rfl,hsc5⟩;have hb45:=hsc5.bel;have hrv5:=hrv4.below hb45;have hbW5:=hbW4.trans (hb45.mono hbW4.size);have hBw5:B<=w5.heap.size:=Nat.le_trans hBw4 hb45.size))
       have hS5:=hSc4;obtain ⟨V5,hV5⟩:∃V5,V5=w5:=⟨_,rfl⟩
       rw [<-hV5] at hrv5 hsc5 hbW5 hBw5 hb45 ⊢;clear hV5 hS5 hSc4;have HF:Hid (∀g,(Value.slice a4 (n2+1) c4).ownBlock=some g->g<w4.heap.size):=λ g hg=>(hrv4.ful.lt g hg).2
       have HB4:=Jh1 hBw4;have HP5:Hid ((l.map foK).Perm (Qa4 zs q0 z)/\z<Z/\2<=z/\Qay zs (z:Nat)=Qay zs (z:Nat)/\n5=(Qay zs (z:Nat)).length/\n5<=16):=⟨hpm,hlt,hz2,rfl,by have:=hsc5.ln;rw [List.length_map] at this;exact this.symm,by have h1:=hsc5.ln;rw [List.length_map] at h1;have h2:=Qd0 zs (z:Nat) (atZ zs (z:Nat)).1.length 0;have h3:=Qj0 (J2 HD) (J3 HD) (z:Nat);unfold Qay at h1;omega⟩
       have H0:=Jh6 hrv5 hbW5 hsc5 hup hlz hBw5;clear hrv5 hsc5 hbW5 hBw5 hb45 hpm hup hlz hrv4 hBw4 hbW4;go_loopw [11,18] (λ u x wr=>∃(k m1 D1:Nat) (E1:Option Addr) (l':List Fo),u=.slice E1 m1 D1/\x=.int .i64 (k:Nat)/\k<=n5/\RvS zs B ga r [.int .u64 q0,.slice A i C] S0 wr E1 m1 D1 l' a4 (n2+1) c4 (Qal zs (z+1))/\Below V5.heap.size V5 wr/\(l'.map foK).Perm (Qa4 zs q0 z ++ Qb1 zs q0 z ((Qay zs (z:Nat)).take k))/\UpO l'/\(∀f∈l',f.z<z\/(f.z=z/\∃j i:Nat,j<k/\(Qay zs (z:Nat))[j]?=some i/\f.b=i))) (λ _ x _=>n5 - (intOf x).toNat)
       case atStart=>exact ⟨0,n1,C1,A1,l,rfl,rfl,Nat.zero_le _,H0.out.1,Below.refl _ _,by simpa [Qb1] using HP5.out.1,(J4 H0),λ f hf=>.inl ((J5 H0) f hf)⟩
       case round=>
        obtain ⟨k,m1,D1,E1,l',rfl,rfl,hk,hrv,hb,hpm,hup,hlz⟩:=hrel;rcases Nat.lt_or_ge k n5 with hlk | hgk
        ·have hlk':(k:Int)<n5:=by omega
         have hwk:IntKind.i64.wrap ((k:Int)+1)=(k:Int)+1:=by rw [IntKind.wrap_i64];have:=(Jz5 HP5);omega
         obtain ⟨ix,hix⟩:∃ix,(Qay zs (z:Nat))[k]?=some ix:=⟨(Qay zs (z:Nat))[k]'(by have:=(J5 HP5);omega),by simp⟩
         have bD:Below wr.heap.size wr wr.drew:=(Below.refl _ _).drew;have hbD:=hb.trans (bD.mono hb.size);have hrvD:=hrv.below bD;have hsc:=(J3 H0).below hbD;obtain ⟨gr,a6,m6,c6,hA5,t0,t1,hit6,hfr6⟩:=hsc.recd (i:=k) (E:=elB zs (z:Nat) ix) (by rw [List.getElem?_map,hix];rfl);obtain ⟨gb,hB5,t2⟩:=hsc.num (i:=k) (z:=((ix:Nat):Int)) (by rw [List.getElem?_map,hix];rfl);subst hA5;subst hB5;have g0:wr.drew.cell? ⟨ga,0,none⟩=some (.int .u64 q0):=hrvD.st.cell 0;have hml:m1<=208/\l'.length=m1:=by
          have h1:=hrv.row.1;rw [Qcj] at h1;have h2:=hpm.length_eq;rw [List.length_map,List.length_append] at h2;have h3:=Qgt (J2 HD) (J3 HD) q0 z;have h4:(Qb1 zs q0 z ((Qay zs (z:Nat)).take k)).length<=k:=by
           unfold Qb1;rw [List.length_map];exact Nat.le_trans (List.length_filter_le _ _) (by rw [List.length_take];omega)
          have h5:=(J2 HP5)
          have h6:=(J3 HZ)
          have h7:=(Jz5 HP5)
          omega
         have htk:(Qay zs (z:Nat)).take (k+1)=(Qay zs (z:Nat)).take k ++ [ix]:=Qao hix;obtain ⟨Sq,hSq⟩:∃Sq,Sq=decS (elB zs (z:Nat) ix):=⟨_,rfl⟩
         rw [<-hSq] at t0;have HK:=Jh12 hrvD hbD hpm hup hlz hlk hix hit6 hfr6 hml.1 htk hSq;clear hrv hb hrvD hbD bD hpm hup hlz hlk hsc hit6 hfr6 hml htk hix hSq;by_cases hq:q0<Sq
         ·have hq':decide (q0<Sq)=true:=by simp [hq]
          have bD2:Below wr.drew.heap.size wr.drew wr.drew.drew:=(Below.refl _ _).drew;have hrvE:=HK.out.1.below bD2;have hbE:=(J2 HK).trans (bD2.mono (J2 HK).size);have hitE:=(J8 HK).below bD2;have u0:wr.drew.drew.cell? ⟨gr,k*2,none⟩=some (.int .u64 Sq):=(Qab Non bD2).cell t0 (λ e=>e);have u1:wr.drew.drew.cell? ⟨gr,k*2+1,none⟩=some (.slice a6 m6 c6):=(Qab Non bD2).cell t1 (λ e=>e);have u2:wr.drew.drew.cell? ⟨gb,k,none⟩=some (.int .i64 ((ix:Nat):Int)):=(Qab Non bD2).cell t2 (λ e=>e);have HE2:=Jh3 hrvE hbE hitE;have hfo:=Qnc HE2.out.1.row (by have:=(J10 HK);unfold maxLen;omega);have hPt:=Qwb E1 m1 D1 l' ⟨Sq,a6,m6,c6,(z:Nat),(ix:Nat)⟩ hfo.1 hfo.2.1 hfo.2.2.1 (by have:=(J10 HK);omega);have HPt:=Jh1 @hPt;clear hPt hfo bD2 hrvE hbE hitE;go_wp2_with fail
          go_region
          go_wp2_with fail
          skip
          go_region_law (go_simp;go_at_call 104;refine HPt.out.mono ?_;rintro e w7 ⟨a7,c7,rfl,ow7,hb7⟩)
          all_goals (
           go_wp2_with fail
           have hrv7:=HE2.out.1.put (x:=⟨Sq,a6,m6,c6,(z:Nat),(ix:Nat)⟩) hb7 ow7 (by have h1:=(Jz5 H0);have h2:=(J2 HE2).size;omega) (Jz2 HE2) (λ hm y hy=>by
            have h1:=(J9 HK) hm y hy;have h2:=HB4.out;exact ⟨by omega,λ e=>by have:=HF.out y e;omega⟩)
           refine ⟨⟨k+1,m1+1,c7,a7,_,rfl,by simp,by have:=(J6 HK);omega,hrv7,(J2 HE2).trans (hb7.mono (J2 HE2).size),?_,Qw1 (J4 HK) (λ f hf=>?_),λ f hf=>?_⟩,by simp [intOf];have:=(J6 HK);omega⟩
           ·rw [(J11 HK),Qc7,if_pos (by rw [<-(Jz11 HK)];exact hq),<-List.append_assoc]
            refine ((Qix l' _).map foK).trans ?_
            rw [List.map_append];have e:[(⟨Sq,a6,m6,c6,(z:Nat),(ix:Nat)⟩:Fo)].map foK=[(decS (elB zs (z:Nat) ix),((z:Nat):Int),((ix:Nat):Int))]:=by rw [<-(Jz11 HK)];rfl
            rw [e];exact (J3 HK).append_right _
           ·rcases (J5 HK) f hf with h | ⟨h,j,i',hj,hi',hb'⟩
            ·exact .inl h
            ·refine .inr ⟨h,?_⟩
             have:=Qri hj hi' (J7 HK);show f.b<((ix:Nat):Int);omega
           ·rcases Ql3 hf with hf | rfl
            ·rcases (J5 HK) f hf with h | ⟨h,j,i',hj,hi',hb'⟩
             ·exact .inl h
             ·exact .inr ⟨h,j,i',by omega,hi',hb'⟩
            ·exact .inr ⟨rfl,k,ix,by omega,(J7 HK),rfl⟩)
         ·have hq':decide (q0<Sq)=false:=by simp;omega
          go_wp2_with fail
          go_region
          go_wp2_with fail
          refine ⟨⟨k+1,m1,D1,E1,l',rfl,by simp,by have:=(J6 HK);omega,HK.out.1,(J2 HK),?_,(J4 HK),λ f hf=>?_⟩,by simp [intOf];have:=(J6 HK);omega⟩
          ·rw [(J11 HK),Qc7,if_neg (by rw [<-(Jz11 HK)];omega)]
           exact (J3 HK)
          ·rcases (J5 HK) f hf with h | ⟨h,j,i',hj,hi',hb'⟩
           ·exact .inl h
           ·exact .inr ⟨h,j,i',by omega,hi',hb'⟩
        ·obtain rfl:k=n5:=by omega
         have hgk':¬((k:Int)<k):=by omega
         have HE:Hid (RvS zs B ga r [.int .u64 q0,.slice A i C] S0 wr E1 m1 D1 l' a4 (n2+1) c4 (Qal zs (z+1))/\Below W.heap.size W wr/\B<=wr.heap.size/\(l'.map foK).Perm (Qa4 zs q0 (z+1))/\UpO l'/\(∀f∈l',f.z<((z+1:Nat):Int))):=by
          refine ⟨hrv,(J2 H0).trans (hb.mono (J2 H0).size),by have h1:=(Jz5 H0);have h2:=hb.size;omega,?_,hup,λ f hf=>?_⟩
          ·rw [Qbp (J3 HP5)]
           rw [List.take_of_length_le (by have:=(J5 HP5);omega)] at hpm;exact hpm
          ·rcases hlz f hf with h | ⟨h,_⟩ <;> omega
         clear hrv hb hpm hup hlz hgk;go_wp2_with fail
         exact ⟨⟨z+1,m1,D1,(n2+1),c4,E1,a4,l',rfl,rfl,by simp,by omega,by have:=(J2 HP5);omega,HE.out.1,(J2 HE),(J3 HE),(J4 HE),(J5 HE),(Jz5 HE)⟩,by simp [intOf];have:=(J2 HP5);omega⟩
     ·obtain rfl:z=Z:=by omega
      have hge':¬((z:Int)<z):=by omega
      have g0:wr.cell? ⟨ga,0,none⟩=some (.int .u64 q0):=hrv.st.cell 0;have hnl:=Qnc hrv.row (by
       have h1:=hrv.row.1;rw [Qcj] at h1;have h2:=hpm.length_eq;rw [List.length_map] at h2;have h3:=HH.out.1;rw [(J2 HZ)] at h3;unfold maxLen;omega)
      have hn192:n1<=192:=by
       have h2:=hpm.length_eq;rw [List.length_map] at h2;have h3:=HH.out.1;rw [(J2 HZ)] at h3;omega
      have HL:=Jh4 hpm hup hnl.2.2.2 hn192;have HV4:=Jh3 hrv hbW hBw;clear hrv hbW hBw hpm hup hlz hnl hn192 hge;go_wp2_with fail
      clear g0 pc hge';go_loopw [19,20,21,22] (λ a b c d wr=>∃(sq dn:Int) (on:Bool) (j:Nat) (S':List Pl),a=.int .u64 sq/\b=.int .u64 dn/\c=.bool on/\d=.int .i64 j/\j<=n1/\RvS zs B ga r [.int .u64 q0,.slice A i C] S' wr A1 n1 C1 l A2 n2 C2 (Qal zs z)/\Below W.heap.size W wr/\B<=wr.heap.size/\sq=mxS q0 (l.take j)/\(on=true->folS (foX zs) q0 S0 l=folS (foX zs) dn S' (l.drop j))/\(on=false->folS (foX zs) q0 S0 l=S')/\S'.length<=112+5*j) (λ _ _ _ d _=>n1 - (intOf d).toNat)
      case atStart=>exact ⟨q0,q0,true,0,S0,rfl,rfl,rfl,rfl,Nat.zero_le _,HV4.out.1,(J2 HV4),(Jz2 HV4),rfl,λ _=>rfl,(λ h=>by simp at h),by have:=(J6 HZ);omega⟩
      case round=>
       obtain ⟨sq,dn,on,j,S',rfl,rfl,rfl,rfl,hj,hrv,hbW,hBw,hsq,hon,hoff,hSl⟩:=hrel;rcases Nat.lt_or_ge j n1 with hlj | hgj
       ·have hlj':(j:Int)<n1:=by omega
        have hwj:IntKind.i64.wrap ((j:Int)+1)=(j:Int)+1:=by rw [IntKind.wrap_i64];have:=(Jz3 HL);omega
        obtain ⟨f,hf⟩:∃f,l[j]?=some f:=⟨l[j]'(by have:=(J3 HL);omega),by simp⟩
        have hfl:=List.mem_of_getElem? hf;obtain ⟨fz,fb,hfk,hfz2,hfzZ,hfsc,_⟩:=Qgd (HL.out.1.mem_iff.1 (List.mem_map_of_mem hfl));have hfb:=(Qgs _ _ _ hfsc).1;have hfb16:=Qj0 (J2 HD) (J3 HD) (fz:Nat);have hits:=(hrv.its f hfl).1;have hfar:=(hrv.its f hfl).2;have hdr:l.drop j=f :: l.drop (j+1):=by
         obtain ⟨h,e⟩:=List.getElem?_eq_some_iff.1 hf;rw [List.drop_eq_getElem_cons h,e]
        have htk:l.take (j+1)=l.take j ++ [f]:=Qao hf;obtain ⟨fs,fa,fm,fc,fz',fb'⟩:=f;simp only [foK,Prod.mk.injEq] at hfk
        obtain ⟨hfs,rfl,rfl⟩:=hfk;have hfo:=(Qnc hrv.row (by have:=(Jz3 HL);unfold maxLen;omega)).1;obtain ⟨g,off,rfl,hcl⟩:=hfo.2.2.resolve_left (by omega);have y0:wr.cell? ⟨g,off+j*4,none⟩=some (.int .u64 fs):=hcl j _ hf 0 _ rfl;have y1:wr.cell? ⟨g,off+j*4+1,none⟩=some (.slice fa fm fc):=hcl j _ hf 1 _ rfl;have y2:wr.cell? ⟨g,off+j*4+2,none⟩=some (.int .i64 (fz:Nat)):=hcl j _ hf 2 _ rfl;have y3:wr.cell? ⟨g,off+j*4+3,none⟩=some (.int .i64 (fb:Nat)):=hcl j _ hf 3 _ rfl;obtain ⟨dn1,hdn1⟩:∃dn1,IntKind.u64.wrap (dn+1)=dn1:=⟨_,rfl⟩
        have HK:Hid (RvS zs B ga r [.int .u64 q0,.slice A i C] S' wr (some ⟨g,off,none⟩) n1 C1 l A2 n2 C2 (Qal zs z)/\Below W.heap.size W wr/\B<=wr.heap.size/\sq=mxS q0 (l.take j)/\(on=true->folS (foX zs) q0 S0 l=folS (foX zs) dn S' (⟨fs,fa,fm,fc,fz,fb⟩ :: l.drop (j+1)))/\(on=false->folS (foX zs) q0 S0 l=S')/\S'.length<=112+5*j/\fz<=12/\fb<=16/\ItsIn wr fa fm (foX zs ⟨fs,fa,fm,fc,fz,fb⟩)/\(fm≠0->∀y,fa.map (·.block)=some y->B<=y)/\l.take (j+1)=l.take j ++ [⟨fs,fa,fm,fc,fz,fb⟩]/\j<n1/\IntKind.u64.wrap (dn+1)=dn1):=⟨hrv,hbW,hBw,hsq,λ h=>by rw [<-hdr];exact hon h,hoff,hSl,by have:=(J3 HZ);omega,by omega,hits,λ hm y hy=>(hfar hm y hy).1,htk,hlj,hdn1⟩
        have HFf:=Jh1 hf;clear hf;clear hrv hbW hBw hsq hon hoff hSl hfl hfsc hfb hfb16 hits hfar hdr htk hfo hcl hfs hlj;have HM:Hid (max sq fs=mxS q0 (l.take (j+1))):=by
         show _=_;rw [(J12 HK),Qq2,<-(J4 HK)];by_cases h:sq<fs
         ·rw [if_pos h];exact Int.max_eq_right (by omega)
         ·rw [if_neg h];exact Int.max_eq_left (by omega)
        by_cases c1:fs=dn
        ·have c1':(fs == dn)=true:=by simp [c1]
         have HC:=Jh1 c1;clear c1;go_wp2_with fail
         exact ⟨⟨max sq fs,dn,on,j+1,S',rfl,rfl,rfl,by simp,by have:=(J13 HK);omega,HK.out.1,(J2 HK),(J3 HK),HM.out,λ h=>by rw [(J5 HK) h];exact Qex HC.out,(J6 HK),by have:=(J7 HK);omega⟩,by simp [intOf];have:=(J13 HK);omega⟩
        ·have c1':(fs == dn)=false:=by simp [c1]
         have HC:=Jh1 c1;clear c1;cases on with
         | false=>
          go_wp2_with fail
          exact ⟨⟨max sq fs,dn,false,j+1,S',rfl,rfl,rfl,by simp,by have:=(J13 HK);omega,HK.out.1,(J2 HK),(J3 HK),HM.out,(λ h=>by simp at h),(J6 HK),by have:=(J7 HK);omega⟩,by simp [intOf];have:=(J13 HK);omega⟩
         | true=>
          by_cases c2:fs=dn1
          ·have c2':(fs == dn1)=true:=by simp [c2]
           have HC2:=Jh1 c2;clear c2;have hwb:IntKind.i64.wrap ((fb:Int)+1)=(fb:Int)+1:=by rw [IntKind.wrap_i64];have:=(J9 HK);omega
           go_wp2_with fail
           go_loopw [23,24] (λ u v wr=>∃(bb kk:Nat) (S2:List Pl),u=.int .i64 ((bb:Int)+1)/\v=.int .i64 (kk:Nat)/\kk<=fm/\RvS zs B ga r [.int .u64 q0,.slice A i C] S2 wr (some ⟨g,off,none⟩) n1 C1 l A2 n2 C2 (Qal zs z)/\Below W.heap.size W wr/\B<=wr.heap.size/\entS (fz:Nat) S' (fb:Nat) (foX zs ⟨fs,fa,fm,fc,fz,fb⟩)=entS (fz:Nat) S2 (bb:Nat) ((foX zs ⟨fs,fa,fm,fc,fz,fb⟩).drop kk)/\bb<=fb+kk/\S2.length<=S'.length+kk) (λ _ v _=>fm - (intOf v).toNat)
           case atStart=>exact ⟨fb,0,S',rfl,rfl,Nat.zero_le _,HK.out.1,(J2 HK),(J3 HK),rfl,by omega,by omega⟩
           case round=>
            obtain ⟨bb,kk,S2,rfl,rfl,hkk,hrv,hbW,hBw,hen,hbb,hS2⟩:=hrel;have hfo:=(Qnc hrv.row (by have:=(Jz3 HL);unfold maxLen;omega)).1;have hcl:∀(jj:Nat) (v:Value),(foL ⟨fs,fa,fm,fc,fz,fb⟩)[jj]?=some v->wr.cell? ⟨g,off+j*4+jj,none⟩=some v:=by
             obtain ⟨g',off',e,hc⟩:=hfo.2.2.resolve_left (by have:=(J13 HK);omega);cases e
             exact hc j _ HFf.out
            have y1:wr.cell? ⟨g,off+j*4+1,none⟩=some (.slice fa fm fc):=hcl 1 _ rfl;have y2:wr.cell? ⟨g,off+j*4+2,none⟩=some (.int .i64 (fz:Nat)):=hcl 2 _ rfl;have hit:=(hrv.its _ (List.mem_of_getElem? HFf.out)).1;have hfm:fm<=5:=by
             have h1:(foX zs ⟨fs,fa,fm,fc,fz,fb⟩).length=fm:=hit.1;have h2:=Qnz (Qu6 (J2 HD) (J3 HD) (fz:Nat) fb);have h3:foX zs ⟨fs,fa,fm,fc,fz,fb⟩=decX (elB zs (fz:Nat) fb):=rfl;rw [h3] at h1;omega
            rcases Nat.lt_or_ge kk fm with hlk | hgk
            ·have hlk':(kk:Int)<fm:=by omega
             have hwk:IntKind.i64.wrap ((kk:Int)+1)=(kk:Int)+1:=by rw [IntKind.wrap_i64];omega
             have hwb2:IntKind.i64.wrap ((bb:Int)+1+1)=(bb:Int)+1+1:=by rw [IntKind.wrap_i64];have:=(J9 HK);omega
             obtain ⟨x,hx⟩:∃x,(foX zs ⟨fs,fa,fm,fc,fz,fb⟩)[kk]?=some x:=⟨(foX zs ⟨fs,fa,fm,fc,fz,fb⟩)[kk]'(by have h1:(foX zs ⟨fs,fa,fm,fc,fz,fb⟩).length=fm:=hit.1;omega),by simp⟩
             have hfx:=hit.2.2.1 x (List.mem_of_getElem? hx);obtain ⟨ib,ioff,rfl,hc⟩:=hit.2.2.2.resolve_left (by show ¬fm=0;omega);have hdr:(foX zs ⟨fs,some ⟨ib,ioff,none⟩,fm,fc,fz,fb⟩).drop kk=x :: (foX zs ⟨fs,some ⟨ib,ioff,none⟩,fm,fc,fz,fb⟩).drop (kk+1):=by
              obtain ⟨h,e⟩:=List.getElem?_eq_some_iff.1 hx;rw [List.drop_eq_getElem_cons h,e]
             obtain ⟨t,u,kd,sm,en⟩:=x;have x0:wr.cell? ⟨ib,ioff+kk*5+0,none⟩=some (.int .u32 t):=hc kk _ hx 0 _ rfl;have x1:wr.cell? ⟨ib,ioff+kk*5+1,none⟩=some (.int .u64 u):=hc kk _ hx 1 _ rfl;have x2:wr.cell? ⟨ib,ioff+kk*5+2,none⟩=some (.int .u8 kd):=hc kk _ hx 2 _ rfl;have x3:wr.cell? ⟨ib,ioff+kk*5+3,none⟩=some (.int .u32 sm):=hc kk _ hx 3 _ rfl;have x4:wr.cell? ⟨ib,ioff+kk*5+4,none⟩=some (.int .u16 en):=hc kk _ hx 4 _ rfl;simp only [Nat.add_zero] at x0
             have HI:Hid (RvS zs B ga r [.int .u64 q0,.slice A i C] S2 wr (some ⟨g,off,none⟩) n1 C1 l A2 n2 C2 (Qal zs z)/\Below W.heap.size W wr/\B<=wr.heap.size/\entS (fz:Nat) S' (fb:Nat) (foX zs ⟨fs,some ⟨ib,ioff,none⟩,fm,fc,fz,fb⟩)=entS (fz:Nat) S2 (bb:Nat) (⟨t,u,kd,sm,en⟩ :: (foX zs ⟨fs,some ⟨ib,ioff,none⟩,fm,fc,fz,fb⟩).drop (kk+1))/\bb<=fb+kk/\S2.length<=S'.length+kk/\It.Fits ⟨t,u,kd,sm,en⟩/\kk<fm/\fm<=5):=⟨hrv,hbW,hBw,by rw [hen,hdr],hbb,hS2,hfx,hlk,hfm⟩
             clear hrv hbW hBw hen hbb hS2 hfx hlk hfm hc hx hdr hit hcl hfo hkk;by_cases hkd:kd=2
             ·have hkd':(kd == 2)=true:=by simp [hkd]
              have bA:Below wr.heap.size wr (wr.alloc (.cells #[.int .u32 t,.int .u64 u,.int .u8 kd,.int .u32 sm,.int .u16 en] 190)):=Qbg _ _;have hrvA:=HI.out.1.below bA;have hgd:=hrvA.md.good;have hDp:=Qud r S2 (t,u) _ hrvA.md (by have h1:=(J6 HI);have h2:=(J7 HK);have h3:=(Jz3 HL);have h4:=(J13 HK);have h5:=(Jz7 HI);omega);have HDp:=Jh1 @hDp;have HA:=Jh4 hrvA ((J2 HI).trans (bA.mono (J2 HI).size)) (Nat.le_trans (J3 HI) bA.size) hkd;clear hDp hrvA bA hgd;subst hkd;go_wp2_with (go_at_call 105;refine HDp.out.mono ?_;rintro e w5 ⟨rfl,hm5,ho5⟩)
              have hlen5:(Qax S2 (t,u)).length<=S2.length:=List.length_filter_le _ _;exact ⟨⟨bb,kk+1,Qax S2 (t,u),rfl,by simp,by have:=(J8 HI);omega,HA.out.1.map hm5.toD ho5 (by have:=(J2 HR);omega),(J2 HA).trans (ho5.below (J2 HA).size (λ k hk=>by have:=(Jz2 HR);omega)),Nat.le_trans (J3 HA) ho5.size,by rw [(J4 HI)];exact Qip rfl,by have:=(J5 HI);omega,by have:=(J6 HI);omega⟩,by simp [intOf];have:=(J8 HI);omega⟩
             ·have hkd':(kd == 2)=false:=by simp [hkd]
              have bA:Below wr.heap.size wr (wr.alloc (.cells #[.int .u32 t,.int .u64 u,.int .u8 kd,.int .u32 sm,.int .u16 en] 190)).drew:=(Qbg wr _).drew;have hrvA:=HI.out.1.below bA;have kx0:Blk (wr.alloc (.cells #[.int .u32 t,.int .u64 u,.int .u8 kd,.int .u32 sm,.int .u16 en] 190)) wr.heap.size [.int .u32 t,.int .u64 u,.int .u8 kd,.int .u32 sm,.int .u16 en] 190:=Blk.new' rfl rfl;have kx:Blk (wr.alloc (.cells #[.int .u32 t,.int .u64 u,.int .u8 kd,.int .u32 sm,.int .u16 en] 190)).drew wr.heap.size [.int .u32 t,.int .u64 u,.int .u8 kd,.int .u32 sm,.int .u16 en] 190:=kx0.below (Below.refl _ _).drew kx0.lt;have z0:(wr.alloc (.cells #[.int .u32 t,.int .u64 u,.int .u8 kd,.int .u32 sm,.int .u16 en] 190)).drew.cell? ⟨wr.heap.size,0,none⟩=some (.int .u32 t):=kx.cell 0;have z1:(wr.alloc (.cells #[.int .u32 t,.int .u64 u,.int .u8 kd,.int .u32 sm,.int .u16 en] 190)).drew.cell? ⟨wr.heap.size,1,none⟩=some (.int .u64 u):=kx.cell 1;have z2:(wr.alloc (.cells #[.int .u32 t,.int .u64 u,.int .u8 kd,.int .u32 sm,.int .u16 en] 190)).drew.cell? ⟨g,off+j*4+2,none⟩=some (.int .i64 (fz:Nat)):=(Qab Non bA).cell y2 (λ e=>e);have hPp:=Ql6 r S2 ((t,u),((fz:Nat),(bb:Int)+1)) _ hrvA.md ⟨⟨(J7 HI).1,(J7 HI).2.1⟩,by show Qj8 _;unfold Qj8 I64;have h1:=(J9 HK);have h2:=(J8 HK);have h3:=(J5 HI);have h4:=(Jz8 HI);have h5:=(J8 HI);constructor <;> (try simp only) <;> constructor <;> omega⟩ (by have h1:=(J6 HI);have h2:=(J7 HK);have h3:=(Jz3 HL);have h4:=(J13 HK);have h5:=(Jz7 HI);omega);have HPp:=Jh1 @hPp;have HA:Hid (RvS zs B ga r [.int .u64 q0,.slice A i C] S2 (wr.alloc (.cells #[.int .u32 t,.int .u64 u,.int .u8 kd,.int .u32 sm,.int .u16 en] 190)).drew (some ⟨g,off,none⟩) n1 C1 l A2 n2 C2 (Qal zs z)/\Below W.heap.size W (wr.alloc (.cells #[.int .u32 t,.int .u64 u,.int .u8 kd,.int .u32 sm,.int .u16 en] 190)).drew/\B<=(wr.alloc (.cells #[.int .u32 t,.int .u64 u,.int .u8 kd,.int .u32 sm,.int .u16 en] 190)).drew.heap.size/\kd≠2/\(putS S2 ((t,u),((fz:Nat),(bb:Int)+1))).length<=S2.length+1):=⟨hrvA,(J2 HI).trans (bA.mono (J2 HI).size),Nat.le_trans (J3 HI) bA.size,hkd,Qgx hrvA.md.good _⟩
              clear hPp hrvA bA kx kx0 hkd;go_wp2_with fail
              go_region_law (go_simp;go_at_call 103;refine HPp.out.mono ?_;rintro e w5 ⟨rfl,hm5,ho5⟩)
              all_goals (
               go_wp2_with fail
               exact ⟨⟨bb+1,kk+1,putS S2 ((t,u),((fz:Nat),(bb:Int)+1)),by simp,by simp,by have:=(J8 HI);omega,HA.out.1.map hm5.toD ho5 (by have:=(J2 HR);omega),(J2 HA).trans (ho5.below (J2 HA).size (λ k hk=>by have:=(Jz2 HR);omega)),Nat.le_trans (J3 HA) ho5.size,by rw [(J4 HI),Qmi (J4 HA)];rfl,by have:=(J5 HI);omega,by have h1:=(J6 HI);have h2:=(Jz4 HA);omega⟩,by simp [intOf];have:=(J8 HI);omega⟩)
            ·obtain rfl:kk=fm:=by omega
             have hgk':¬((kk:Int)<kk):=by omega
             have HE4:Hid (RvS zs B ga r [.int .u64 q0,.slice A i C] S2 wr (some ⟨g,off,none⟩) n1 C1 l A2 n2 C2 (Qal zs z)/\Below W.heap.size W wr/\B<=wr.heap.size/\folS (foX zs) q0 S0 l=folS (foX zs) fs S2 (l.drop (j+1))/\S2.length<=112+5*(j+1)):=⟨hrv,hbW,hBw,by
              rw [(J5 HK) (by simp),Qdz HC.out (by rw [(Jz13 HK)];exact HC2.out),(Jz13 HK),<-HC2.out];show folS (foX zs) fs (entS (fz:Nat) S' (fb:Nat) _) _=_;rw [hen,List.drop_eq_nil_of_le (by have h1:(foX zs ⟨fs,fa,kk,fc,fz,fb⟩).length=kk:=hit.1;omega)];rfl,by have:=(J7 HK);omega⟩
             clear hrv hbW hBw hen hbb hS2 hfo hcl hit hgk;go_wp2_with fail
             exact ⟨⟨max sq fs,fs,true,j+1,S2,rfl,rfl,rfl,by simp,by have:=(J13 HK);omega,HE4.out.1,(J2 HE4),(J3 HE4),HM.out,λ _=>(J4 HE4),(λ h=>by simp at h),(Jz4 HE4)⟩,by simp [intOf];have:=(J13 HK);omega⟩
          ·have c2':(fs == dn1)=false:=by simp [c2]
           have HC2:=Jh1 c2;clear c2;go_wp2_with fail
           exact ⟨⟨max sq fs,dn,false,j+1,S',rfl,rfl,rfl,by simp,by have:=(J13 HK);omega,HK.out.1,(J2 HK),(J3 HK),HM.out,(λ h=>by simp at h),λ _=>by rw [(J5 HK) (by simp)];exact Qe8 HC.out (by rw [(Jz13 HK)];exact HC2.out),by have:=(J7 HK);omega⟩,by simp [intOf];have:=(J13 HK);omega⟩
       ·obtain rfl:j=n1:=by omega
        have hgj':¬((j:Int)<j):=by omega
        have hfin:folS (foX zs) q0 S0 l=S':=by
         cases on with
         | false=>exact hoff rfl
         | true=>
          rw [hon rfl,List.drop_eq_nil_of_le (by have:=(J3 HL);omega)];rfl
        rw [List.take_of_length_le (by have:=(J3 HL);omega)] at hsq;have habove:∀f∈l,q0<f.s/\Qai f.s:=λ f hf=>by
         obtain ⟨fz,fb,hfk,_,_,_,hab⟩:=Qgd (HL.out.1.mem_iff.1 (List.mem_map_of_mem hf));have e:f.s=decS (elB zs (fz:Nat) fb):=congrArg (·.1) hfk;rw [e];exact ⟨hab,Qnn (Qmz HD.out.1 _ _)⟩
        have hsg:sq=Qcc q0 l:=by rw [hsq];exact Qwd (J2 HL) (λ f hf=>(habove f hf).1)
        have hsf:Qai sq:=by rw [hsg];exact Qkw (J3 HH) (λ f hf=>(habove f hf).2)
        have hS5:S'.length<=1100:=by have:=(Jz3 HL);omega
        have hAl:=Qvw r S' wr hrv.md (by omega);have HE:=Jh7 hrv hbW hBw hfin hsg hsf hS5;clear hrv hbW hBw hsq hon hoff hSl hfin habove hsg hsf hS5;go_wp2_with (go_at_call 107;refine hAl.mono ?_;rintro e w5 ⟨A6,C6,rfl,ow6,hb6⟩)
        have hbW5:=(J2 HE).trans (hb6.mono (J2 HE).size);have hrv5:=HE.out.1.below hb6;have hfl2:=hrv5.ful.1;have hfl3:=Qdb zs z;have hn2:n2<=12:=by
         have h3:=(J3 HZ)
         simp [Qaj] at hfl2
         omega
        have hfm2:n2=(Qal zs z).length:=by simp [Qaj] at hfl2;omega
        have hOn:=Q16 (HD.out.1.later hbW5) (J2 HD) (Jz3 HD) sq (J6 HE) sl A6 S'.length C6 S' (Qj3 ow6 (by have:=(Jz6 HE);unfold maxLen;omega) HE.out.1.md.good.fits) (λ y hy=>by
         rcases A6 with _ | ⟨y0,off,fr⟩
         ·simp at hy
         ·simp at hy
          subst hy;have h1:=ow6.lt y0 rfl;have h2:=(J2 HE).size;omega) (by have:=(Jz6 HE);omega) A2 n2 C2 (Qal zs z) (Ql2 hrv5.ful (by unfold maxLen;omega) (λ x hx=>by
           obtain ⟨ii,rfl,h1,h2⟩:=Qfd zs _ x hx;have h3:=(J3 HZ)
           simp [Lit.wf,IntKind.min,IntKind.max,IntKind.signed,IntKind.bits]
           omega)) (λ y hy=>by
         rcases A2 with _ | ⟨y0,off,fr⟩
         ·simp at hy
         ·simp at hy
          subst hy;have h1:=hrv5.ful.lt y0 rfl;have h2:=(Jz2 HB)
          omega) (by omega)
        have HO5:=Jh1 hbW5;clear hbW5 hrv5 hfl2 hfl3 hn2 hfm2 ow6 hb6;go_wp2_with fail
        refine hOn.mono ?_
        rintro e w6 ⟨k8,V8,D7,M7,rfl,hb8,⟨D8,M8,hv8,hD8,ho8⟩,hk8⟩;obtain ⟨st,hst⟩:∃st,st=onG2 s zs sq sl S' (Qal zs z):=⟨_,rfl⟩
        rw [<-hst] at hv8;have hSl:st.S.length<=10000:=by
         rw [hst];show (List.foldl putS [] S').length<=10000;have h1:=(Qjm S' [] good_nil HE.out.1.md.good.fits).2;have h2:=(Jz6 HE)
         simp only [List.length_nil] at h1
         omega
        have hso:st.o=0\/st.o=1:=by
         rw [hst];show sl=0\/sl=1;obtain ⟨jj,h1,h2⟩:=(Jz3 HH) h0;omega
        obtain ⟨mk,hmk⟩:∃mk,mk=(Qbb st).1:=⟨_,rfl⟩
        have HMk:Hid (Calls prog 108 #[.pointer (some ⟨k8.ps,0,none⟩)] w6 λ e w'=>e=.returned (.int .i64 mk)/\Sd (SdO D8 M8 k8) w6 k8 (Qbb st).2 w'):=by rw [hmk];exact Qt4 hv8 hSl hso
        have hst2:st=onG2 s zs (Qcc q0 l) sl (folS (foX zs) q0 (Qbn zs P0) l) (Qal zs zs.length):=by
         rw [hst,(J2 HZ),<-HZ.out.1,(J4 HE),(J5 HE)]
        have H8:Hid (Below W.heap.size W V8/\st=onG2 s zs (Qcc q0 l) sl (folS (foX zs) q0 (Qbn zs P0) l) (Qal zs zs.length)/\mk=(Qbb st).1/\(∀x,SdO D7 M7 k8 x->O x\/W.heap.size<=x)/\(∀w',Sd (SdO D8 M8 k8) w6 k8 (Qbb st).2 w'->Sd (SdO D7 M7 k8) V8 k8 (Qbb st).2 w')):=⟨HO5.out.trans (hb8.mono HO5.out.size),hst2,hmk,λ x hx=>(hk8 x hx).imp (λ h=>h) (λ h=>by have:=HO5.out.size;omega),λ w' h=>h.next hD8 ho8⟩
        have HPm:Hid ((l.map foK).Perm (Qa4 zs q0 zs.length)):=by show List.Perm _ _;rw [(J2 HZ)];exact HL.out.1
        obtain ⟨ps,hps⟩:∃ps,ps=k8.ps:=⟨_,rfl⟩
        rw [<-hps] at HMk ⊢;have HPs:=Jh1 hps;clear hst hSl hso hv8 hD8 ho8 hmk hb8 hk8 hps hOn hst2;by_cases hm0:mk=0
        ·have hm0':(mk != 0)=false:=by simp [hm0]
         go_wp2_with (go_at_call 108;refine HMk.out.mono ?_;rintro e W9 ⟨rfl,hsv9⟩)
         have HS9:=(Jz4 H8) _ hsv9;go_ret2
         refine .inr ⟨h0,l,k8,V8,SdO D7 M7 k8,HPm.out,(J2 HL),H8.out.1,?_,(J4 H8),?_⟩
         ·rw [<-(J2 H8)];exact HS9
         ·rw [<-(J2 H8),<-(J3 H8),if_pos hm0,hm0,HPs.out]
          rfl
        ·have hm0':(mk != 0)=true:=by simp [hm0]
         go_wp2_with (go_at_call 108;refine HMk.out.mono ?_;rintro e W9 ⟨rfl,hsv9⟩)
         have HS9:=(Jz4 H8) _ hsv9;go_ret2
         refine .inr ⟨h0,l,k8,V8,SdO D7 M7 k8,HPm.out,(J2 HL),H8.out.1,?_,(J4 H8),?_⟩
         ·rw [<-(J2 H8)];exact HS9
         ·rw [<-(J2 H8),<-(J3 H8),if_neg hm0]
          rfl
 ·have h0':(er != 0)=true:=by simp [h0]
  go_enter func48,ntmps48
  go_wp2_with (go_at_call 101;refine HLd.out.mono ?_;rintro e W1 ⟨A,n,C,rfl,hk,hnC,hb1⟩)
  go_ret2
  exact .inl ⟨h0,rfl,hb1.alloc hb1.size _⟩
end
end
end Go.Proofs.YtcdnjeiamihhbaaGreat
