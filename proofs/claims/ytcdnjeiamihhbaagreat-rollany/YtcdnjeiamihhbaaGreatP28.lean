/- P28 -/
import Derived.Test.YtcdnjeiamihhbaaGreatP27
set_option linter.unusedVariables false
set_option maxRecDepth 4000
open Go.Proofs.Tryz
namespace Go.Proofs.YtcdnjeiamihhbaaGreat
open Go.RowKit Go.Sort Go.Lib Go.Shelf
section
noncomputable def recS (s:Sh) (zs:List Zn) (l:List Fo):St:=onG2 s zs (Qcc (Qa2 s zs 2).1 l) (Qa2 s zs 2).2.2.1 (folS (foX zs) (Qa2 s zs 2).1 (Qbn zs (Qa2 s zs 2).2.1) l) (Qal zs zs.length)
def Q3i (O:Nat->Prop) (W:World) (s:Sh) (zs:List Zn) (e:Ending) (w':World):Prop:=
 ((Qa2 s zs 2).2.2.2≠0/\e=.returned (.tuple #[.pointer none,.int .u16 (Qa2 s zs 2).2.2.2])/\Below W.heap.size W w')\/
 ((Qa2 s zs 2).2.2.2=0/\∃(l:List Fo) (k:Bs) (V:World) (c:Nat),(l.map foK).Perm (Qa4 zs (Qa2 s zs 2).1 zs.length)/\l.Pairwise (λ x y=>ltO y x=false)/\Below W.heap.size W V/\Sv O V k (Qbb (recS s zs l)).2 c w'/\c<=2000/\(Qbb (recS s zs l)).2.S.length<=c/\(∀x,k.has x->W.heap.size<=x)/\
  e=.returned (.tuple #[.pointer (if (Qbb (recS s zs l)).1=0 then some ⟨k.ps,0,none⟩ else none),.int .u16 (Qbb (recS s zs l)).1]))
theorem Sv.wide {D0 D1:Nat->Prop} {V W:World} {k:Bs} {st:St} {c:Nat} (h:Sv D0 V k st c W) (hD:∀x,D0 x->D1 x):Sv D1 V k st c W:=by
 obtain ⟨D,h1,h2,h3⟩:=h;refine ⟨D,h1,λ x hx=>(h2 x hx).imp (hD x) id,h3.mono (λ j hj _=>?_)⟩
 rcases hj with hj | hj
 ·exact .inl (hD j hj)
 ·exact .inr hj
theorem Q3c {O:Nat->Prop} {W:World} {p B:Nat} {s:Sh} {zs:List Zn} (hd:Dv 98 O W p s zs) (hw:Wf s zs) (hlt:∀x,O x->x<B) (q:Int) (hq:Qai q) (sl:Int) (a1:Option Addr) (n1 c1:Nat) (l:List Pl) (hl:KIn W a1 n1 l) (hA1:∀y,a1.map (·.block)=some y->B<=y/\y<W.heap.size) (hn1:n1<=90000) (a2:Option Addr) (n2 c2:Nat) (f:List Int) (hf:NIn .i64 W a2 n2 f) (hA2:∀y,a2.map (·.block)=some y->B<=y/\y<W.heap.size) (hn2:n2<=1000) :
  Calls prog 60 #[.pointer (some ⟨p,0,none⟩),.int .u64 q,.slice a1 n1 c1,.slice a2 n2 c2,.int .i64 sl] W λ e w'=>∃(k:Bs) (V:World),e=.returned (.pointer (some ⟨k.ps,0,none⟩))/\Below W.heap.size W V/\Sv (λ x=>O x/\x<W.heap.size) V k (onG2 s zs q sl l f) n1 w'/\∀x,k.has x->W.heap.size<=x:=by
 have no:∀y,B<=y/\y<W.heap.size->¬(O y\/W.heap.size<=y):=λ y hy h=>by
  rcases h with h | h
  ·have:=hlt y h;omega
  ·omega
 exact Q26 hd hw q hq sl (λ x=>O x\/W.heap.size<=x) (λ x h=>.inr h) (λ x h=>.inl h) a1 n1 c1 l (λ V hV=>hl.out hV (λ b hb=>no b (hA1 b hb))) hn1 a2 n2 c2 f (λ V hV=>hf.cells (λ b o v hb hv=>hV.cell hv (no b (hA2 b hb)))) hn2
section
variable {O:Nat->Prop} {W:World} {p:Nat} {s:Sh} {zs:List Zn}
set_option maxHeartbeats 8000000 in
theorem Qif (hd:Dv 98 O W p s zs) (hw:Wf s zs) (hsm:SmD s) (hlt:∀x,O x->x<W.heap.size) :
  Calls prog 20 #[.pointer (some ⟨p,0,none⟩)] W (Q3i O W s zs):=by
 have hN:(Qa4 zs (Qa2 s zs 2).1 zs.length).length<=192:=Qno hw hsm _;have hP:(Qa2 s zs 2).2.1.length<=112:=Qjv hw hsm 2;have hslot:=Qg5 s zs 2;have hfq:=Qhr hd 2;unfold Q3i recS;obtain ⟨q0,hq0⟩:∃q0,q0=(Qa2 s zs 2).1:=⟨_,rfl⟩
 obtain ⟨P0,hP0⟩:∃P0,P0=(Qa2 s zs 2).2.1:=⟨_,rfl⟩
 obtain ⟨sl,hsl⟩:∃sl,sl=(Qa2 s zs 2).2.2.1:=⟨_,rfl⟩
 obtain ⟨er,her⟩:∃er,er=(Qa2 s zs 2).2.2.2:=⟨_,rfl⟩
 have HLd:Hid (Calls prog 56 #[.pointer (some ⟨p,0,none⟩)] W λ e w'=>∃A n C,e=.returned (.tuple #[.agg #[.int .u64 q0,.slice A n C],.int .i64 sl,.int .u16 er])/\KIn w' A n P0/\n<=C/\Below W.heap.size W w'):=by rw [hq0,hP0,hsl,her];exact Qxh hd hw
 have HD:=Jh4 hd hw hsm hlt;rw [<-hq0] at hN hfq;rw [<-hP0] at hP;rw [<-hsl,<-her] at hslot;rw [<-hq0,<-hP0,<-hsl,<-her];have HH:=Jh4 hN hP hfq hslot;have HHe:Hid (∀V a n c,Below W.heap.size W V->KIn V a n P0->Calls prog 57 #[.pointer (some ⟨p,0,none⟩),.slice a n c] V λ e w'=>∃m b1 b2 k,e=.returned (.pointer (some ⟨m,0,none⟩))/\LmP w' m b1 b2 (Qbn zs P0) k/\k<=n/\Below V.heap.size V w'/\V.heap.size<=m/\V.heap.size<=b1/\V.heap.size<=b2):=λ V a n c hV hk=>Qy7 a n c P0 (hd.later hV) hw hk (by have:=hk.1;omega)
 have HNw:Hid (∀V,Below W.heap.size W V->Calls prog 58 #[.pointer (some ⟨p,0,none⟩),.int .u64 q0] V (Q1h zs q0 V)):=λ V hV=>Qwu q0 (hd.later hV) hw (by omega)
 have HFu:Hid (∀V,Below W.heap.size W V->Calls prog 62 #[.pointer (some ⟨p,0,none⟩)] V λ e w'=>∃A n C,e=.returned (.slice A n C)/\w'.ownsRow V.heap.size 3 1 (.slice A n C) n (Qaj .i64 (Qal zs zs.length))/\n=(Qal zs zs.length).length/\Below V.heap.size V w'):=λ V hV=>Qx2 (hd.later hV) hw
 clear hd hw hN hP hq0 hP0 hsl her hfq hslot hsm hlt;by_cases h0:er=0
 ·have h0':(er != 0)=false:=by simp [h0]
  go_enter func20,ntmps20
  go_wp2_with (go_at_call 56;refine HLd.out.mono ?_;rintro e W1 ⟨A,n,C,rfl,hk,hnC,hb1⟩)
  have HV:Hid (Below W.heap.size W (W1.alloc (.cells #[.int .u64 q0,.slice A n C] 82))/\Blk (W1.alloc (.cells #[.int .u64 q0,.slice A n C] 82)) W1.heap.size [.int .u64 q0,.slice A n C] 82/\KIn (W1.alloc (.cells #[.int .u64 q0,.slice A n C] 82)) A n P0):=⟨hb1.alloc hb1.size _,Blk.new' rfl rfl,hk.below (Qbg _ _)⟩
  clear hk hb1;generalize World.alloc W1 _=V at HV ⊢;generalize W1.heap.size=ga at HV ⊢;refine (HHe.out V A n C HV.out.1 (Jz2 HV)).mono ?_
  rintro e W2 ⟨m,b1,b2,k,rfl,hm,hkn,hb2,m0,m1,m2⟩;have kg:=(J2 HV).below hb2 (J2 HV).lt;have g0:W2.cell? ⟨ga,0,none⟩=some (.int .u64 q0):=kg.cell 0;have hW2:=HV.out.1.trans (hb2.mono HV.out.1.size);have H2:Hid (LmP W2 m b1 b2 (Qbn zs P0) k/\k<=n/\Below W.heap.size W W2/\W.heap.size<=b1/\W.heap.size<=b2/\Blk W2 ga [.int .u64 q0,.slice A n C] 82/\n=P0.length/\∀x∈P0,Qdu x):=⟨hm,hkn,hW2,by have:=HV.out.1.size;omega,by have:=HV.out.1.size;omega,kg,(J3 HV).symm,(J5 HV)⟩
  have hN2:=HNw.out W2 hW2;clear hm hkn hb2 m0 m1 m2 kg hW2;go_wp2_with fail
  refine hN2.mono ?_
  rintro e W3 ⟨A2,n2,C2,l,rfl,hfo,hpm,hsr,hit,hA2,hb3⟩;have k3:=(J6 H2).below hb3 (J6 H2).lt;have g3:W3.cell? ⟨ga,0,none⟩=some (.int .u64 q0):=k3.cell 0;have l1:=H2.out.1.lt b1 (.inr (.inl rfl));have l2:=H2.out.1.lt b2 (.inr (.inr rfl));have hn2:n2<=192:=by have h1:=hfo.1;have h2:=hpm.length_eq;have h3:=HH.out.1;rw [List.length_map] at h2;omega
  have hk2:k<=112:=by have h1:=(J2 H2);have h2:=(J7 H2);have h3:=(J2 HH);omega
  have hm3:=H2.out.1.below hb3;have hg12:ga≠b1/\ga≠b2:=⟨λ e=>hm3.m1.no_blk k3 e,λ e=>hm3.m2.no_blk k3 e⟩
  have HFo:Hid (∀f∈l,FoOk W3 b1 b2 (foX zs) f):=λ f hf=>Q3n (J2 HD) hpm hf (hit f hf).1 (λ h y hy=>by have:=(hit f hf).2 h y hy;omega)
  have HFw:Hid (Calls prog 59 #[.pointer (some ⟨m,0,none⟩),.int .u64 q0,.slice A2 n2 C2] W3 λ e w'=>e=.returned (.tuple #[])/\LmP w' m b1 b2 (folS (foX zs) q0 (Qbn zs P0) l) (k+220*n2)/\Out (Two b1 b2) W3 w'):=Qsi q0 A2 n2 C2 l (foX zs) m b1 b2 _ k hfo (λ h y hy=>by have:=hA2 h y hy;omega) HFo.out hm3 (by omega);have H3:Hid (FoIn W3 A2 n2 l/\(n2≠0->∀y,A2.map (·.block)=some y->y≠b1/\y≠b2)/\(l.map foK).Perm (Qa4 zs q0 zs.length)/\l.Pairwise (λ x y=>ltO y x=false)/\Below W.heap.size W W3/\n2<=192/\k<=112/\Blk W3 ga [.int .u64 q0,.slice A n C] 82/\ga≠b1/\ga≠b2):=⟨hfo,λ h y hy=>by have:=hA2 h y hy;omega,hpm,hsr,(J3 H2).trans (hb3.mono (J3 H2).size),hn2,hk2,k3,hg12⟩
  clear hfo hpm hsr hit hA2 hb3 k3 l1 l2 hn2 hk2 hm3 hg12;go_wp2_with fail
  refine HFw.out.mono ?_
  rintro e W4 ⟨rfl,hm4,ho4⟩;have tw:∀y,y≠b1/\y≠b2->¬Two b1 b2 y:=λ y hy hT=>by rcases hT with h | h;exact hy.1 h;exact hy.2 h
  have k4:=ho4.blk (J8 H3) (tw ga (Jz8 H3));have g4:W4.cell? ⟨ga,0,none⟩=some (.int .u64 q0):=k4.cell 0;have hW4:Below W.heap.size W W4:=(J5 H3).trans (ho4.below (J5 H3).size (λ j hj=>by have a1:=(J4 H2);have a2:=(J5 H2);rcases hj with h | h <;> omega));have hlen:l.length=n2:=H3.out.1.1;have hgd:=Qis (X:=foX zs) (N:=5) (by omega) l q0 (Qbn zs P0) (Qgj zs P0 (Jz7 H2)).1 (λ f hf=>⟨(HFo.out f hf).z,(HFo.out f hf).b,Qnz (Qu6 (J2 HD) (J3 HD) f.z f.b.toNat),(HFo.out f hf).it.2.2.1⟩);have hS0:=(Qgj zs P0 (Jz7 H2)).2;have H4:Hid (LmP W4 m b1 b2 (folS (foX zs) q0 (Qbn zs P0) l) (k+220*n2)/\FoIn W4 A2 n2 l/\Below W.heap.size W W4/\Good (folS (foX zs) q0 (Qbn zs P0) l)/\(folS (foX zs) q0 (Qbn zs P0) l).length<=1100/\Qai (Qcc q0 l)):=⟨hm4,H3.out.1.outO ho4 (λ h y hy=>tw y ((J2 H3) h y hy)),hW4,hgd.1,by have h1:=hgd.2;have h2:=(J6 H3);have h3:=(J2 HH);omega,Qkw (J3 HH) (λ f hf=>by
   obtain ⟨z,b,e,_⟩:=Qgd ((J3 H3).mem_iff.1 (List.mem_map_of_mem hf));have:f.s=decS (elB zs (z:Nat) b):=by have:=congrArg (·.1) e;exact this
   rw [this];exact Qnn (Qmz HD.out.1 _ _))⟩
  have HGr:Hid (Calls prog 61 #[.int .u64 q0,.slice A2 n2 C2] W4 λ e w'=>e=.returned (.int .u64 (Qcc q0 l))/\w'=W4):=Qtw q0 A2 n2 C2 l (J2 H4);clear tw k4 hm4 ho4 hW4 hlen hgd hS0;go_wp2_with fail
  refine HGr.out.mono ?_
  rintro e W5 ⟨rfl,rfl⟩;go_wp2_with fail
  refine (Qol m b1 b2 _ _ _ H4.out.1 (by have h1:=(J6 H3);have h2:=(J7 H3);omega)).mono ?_
  rintro e W6 ⟨A3,n3,C3,rfl,ow3,hb6⟩;have hn3:(folS (foX zs) q0 (Qbn zs P0) l).length=n3:=(Qeh ow3).1;have H6:Hid (KIn W6 A3 n3 (folS (foX zs) q0 (Qbn zs P0) l)/\(∀y,A3.map (·.block)=some y->W.heap.size<=y/\y<W6.heap.size)/\Below W.heap.size W W6/\n3<=1100):=⟨Qj3 ow3 (by have:=(J5 H4);unfold maxLen;omega) (J4 H4).fits,λ y hy=>by
   rcases A3 with _ | ⟨y0,off,fr⟩
   ·simp at hy
   ·simp at hy
    subst hy;have h1:=ow3.lt y0 rfl;have h2:=(J3 H4).size;omega,(J3 H4).trans (hb6.mono (J3 H4).size),by have:=(J5 H4);omega⟩
  clear ow3 hb6 hn3;go_wp2_with fail
  refine (HFu.out _ (J3 H6)).mono ?_
  rintro e W7 ⟨A4,n4,C4,rfl,ow4,hn4,hb7⟩;have hl4:=Qdb zs zs.length;have hz4:zs.length<=12:=by have h1:=(J2 HD).len;have h2:=(J3 HD).1;omega
  have H7:Hid (KIn W7 A3 n3 (folS (foX zs) q0 (Qbn zs P0) l)/\(∀y,A3.map (·.block)=some y->W.heap.size<=y/\y<W7.heap.size)/\Below W.heap.size W W7/\NIn .i64 W7 A4 n4 (Qal zs zs.length)/\(∀y,A4.map (·.block)=some y->W.heap.size<=y/\y<W7.heap.size)/\n4<=12):=⟨H6.out.1.below hb7,λ y hy=>by have h1:=(J2 H6) y hy;have h2:=hb7.size;omega,(J3 H6).trans (hb7.mono (J3 H6).size),Ql2 ow4 (by unfold maxLen;omega) (λ z hz=>by
    obtain ⟨i,rfl,h1,h2⟩:=Qfd zs _ z hz;simp [Lit.wf,IntKind.min,IntKind.max,IntKind.signed,IntKind.bits]
    omega),λ y hy=>by
   rcases A4 with _ | ⟨y0,off,fr⟩
   ·simp at hy
   ·simp at hy
    subst hy;have h1:=ow4.lt y0 rfl;have h2:=(J3 H6).size;omega,by omega⟩
  have HOn:=Q3c (HD.out.1.later (J3 H7)) (J2 HD) (Jz3 HD) (Qcc q0 l) (Jz5 H4) sl A3 n3 C3 _ H7.out.1 (J2 H7) (by have:=(Jz3 H6);omega) A4 n4 C4 _ (J4 H7) (J5 H7) (by have:=(Jz5 H7);omega);clear ow4 hn4 hb7 hl4 hz4;go_wp2_with fail
  refine HOn.mono ?_
  rintro e W8 ⟨k8,V8,rfl,hb8,hsv8,hk8⟩;have hpg:=Qjm _ [] good_nil (H7.out.1.2.2.1);obtain ⟨st,hst⟩:∃st,st=onG2 s zs (Qcc q0 l) sl (folS (foX zs) q0 (Qbn zs P0) l) (Qal zs zs.length):=⟨_,rfl⟩
  rw [<-hst] at hsv8;have hSl:st.S.length<=n3:=by
   rw [hst];show (List.foldl putS [] _).length<=n3;have h1:=hpg.2;have h2:=H7.out.1.1;simp only [List.length_nil] at h1
   omega
  have hso:st.o=0\/st.o=1:=by
   rw [hst];show sl=0\/sl=1;obtain ⟨j,h1,h2⟩:=(Jz3 HH) h0;omega
  obtain ⟨D8,hv8,hD8,ho8⟩:=hsv8.wide (D1:=O) (λ x hx=>hx.1);have hMk:=Qys hv8 (by have:=(Jz3 H6);omega) (by have:=(Jz3 H6);omega) hso;obtain ⟨mk,hmk⟩:∃mk,mk=(Qbb st).1:=⟨_,rfl⟩
  have hmS:(Qbb st).2.S.length<=n3:=hSl;have H8:Hid (Below W.heap.size W V8/\(∀x,k8.has x->W.heap.size<=x)/\n3<=1100/\(Qbb st).2.S.length<=n3/\st=onG2 s zs (Qcc q0 l) sl (folS (foX zs) q0 (Qbn zs P0) l) (Qal zs zs.length)/\mk=(Qbb st).1/\(∀w',Sv D8 W8 k8 (Qbb st).2 n3 w'->Sv O V8 k8 (Qbb st).2 n3 w')):=⟨(J3 H7).trans (hb8.mono (J3 H7).size),λ x hx=>by have h1:=hk8 x hx;have h2:=(J3 H7).size;omega,(Jz3 H6),hmS,hst,hmk,λ w' h=>h.next hD8 ho8⟩
  have HMk:Hid (Calls prog 63 #[.pointer (some ⟨k8.ps,0,none⟩)] W8 λ e w'=>e=.returned (.int .u16 mk)/\Sv D8 W8 k8 (Qbb st).2 n3 w'):=by rw [hmk];exact hMk
  obtain ⟨ps,hps⟩:∃ps,ps=k8.ps:=⟨_,rfl⟩
  rw [<-hps] at HMk ⊢;have HP:=Jh1 hps;clear hpg hst hSl hso hsv8 hv8 hD8 ho8 hMk hmk hmS hb8 hk8 hps HOn;by_cases hm0:mk=0
  ·have hm0':(mk != 0)=false:=by simp [hm0]
   go_wp2_with (go_at_call 63;refine HMk.out.mono ?_;rintro e W9 ⟨rfl,hsv9⟩)
   have HS9:=(Jz6 H8) _ hsv9;go_ret2
   refine .inr ⟨h0,l,k8,V8,n3,(J3 H3),(J4 H3),H8.out.1,?_,by have:=(J3 H8);omega,?_,(J2 H8),?_⟩
   ·rw [<-(J5 H8)];exact HS9
   ·rw [<-(J5 H8)];exact (J4 H8)
   ·rw [<-(J5 H8),<-(J6 H8),if_pos hm0,hm0,HP.out]
    rfl
  ·have hm0':(mk != 0)=true:=by simp [hm0]
   go_wp2_with (go_at_call 63;refine HMk.out.mono ?_;rintro e W9 ⟨rfl,hsv9⟩)
   have HS9:=(Jz6 H8) _ hsv9;go_ret2
   refine .inr ⟨h0,l,k8,V8,n3,(J3 H3),(J4 H3),H8.out.1,?_,by have:=(J3 H8);omega,?_,(J2 H8),?_⟩
   ·rw [<-(J5 H8)];exact HS9
   ·rw [<-(J5 H8)];exact (J4 H8)
   ·rw [<-(J5 H8),<-(J6 H8),if_neg hm0]
    rfl
 ·have h0':(er != 0)=true:=by simp [h0]
  go_enter func20,ntmps20
  go_wp2_with (go_at_call 56;refine HLd.out.mono ?_;rintro e W1 ⟨A,n,C,rfl,hk,hnC,hb1⟩)
  go_ret2
  exact .inl ⟨h0,rfl,hb1.alloc hb1.size _⟩
end
end
end Go.Proofs.YtcdnjeiamihhbaaGreat
namespace Go.Proofs.YtcdnjeiamihhbaaGreat
open Go.RowKit
section
structure ScD (q:Nat) (V wr:World) (A:Option Addr) (n C:Nat) (B:Option Addr) (k cB:Nat) (l:List (List Int)) (is:List Int):Prop where
 ln:l.length=n
 li:is.length=k
 rows:∃vs Z,wr.ownsRow 0 177 2 (.slice A n C) n (rcC l vs)/\RcD Z wr l vs/\(∀x,Z x->q<=x/\x<wr.heap.size)/\(∀g,(Value.slice A n C).ownBlock=some g->¬Z g)/\(∀g,(Value.slice B k cB).ownBlock=some g->¬Z g)
 ints:wr.ownsRow 0 3 1 (.slice B k cB) k (Qaj .i64 is)
 hA:∀g,(Value.slice A n C).ownBlock=some g->q<=g
 hB:∀g,(Value.slice B k cB).ownBlock=some g->q<=g
 bel:Below q V wr
 qs:q<=wr.heap.size
section
variable {q:Nat} {V wr w X:World} {A B:Option Addr} {n C k cB:Nat} {l:List (List Int)} {is:List Int}
theorem ScD.start (V:World) (q:Nat) (hb:Below q V wr) (hw:q<=wr.heap.size):ScD q V wr none 0 0 none 0 0 [] []:=⟨rfl,rfl,⟨[],λ _=>False,World.ownsRow_nil _ _ _ _,⟨rfl,by simp⟩,λ _ h=>h.elim,λ _ _ h=>h,λ _ _ h=>h⟩,World.ownsRow_nil _ _ _ _,(λ g h=>by cases h),(λ g h=>by cases h),hb,hw⟩
theorem ScD.outO {O:Nat->Prop} (h:ScD q V wr A n C B k cB l is) (ho:Out O wr X) (hO:∀x,O x->q<=x) (hA:∀g,(Value.slice A n C).ownBlock=some g->¬O g) (hB:∀g,(Value.slice B k cB).ownBlock=some g->¬O g) (hno:∀x,O x->x<q\/wr.heap.size<=x):ScD q V X A n C B k cB l is:=by
 obtain ⟨h1,h2,⟨vs,Z,r1,r2,r3,r4,r5⟩,h4,h5,h6,h7,h8⟩:=h;have hs:=ho.size;exact ⟨h1,h2,⟨vs,Z,ho.own r1 hA,r2.out ho (λ y hy hO'=>by have:=r3 y hy;have:=hno y hO';omega),λ x hx=>⟨(r3 x hx).1,by have:=(r3 x hx).2;omega⟩,r4,r5⟩,ho.own h4 hB,h5,h6,h7.trans (ho.below h8 hO),by omega⟩
theorem ScD.below (h:ScD q V wr A n C B k cB l is) (hb:Below wr.heap.size wr X):ScD q V X A n C B k cB l is:=
 h.outO (O:=Non) (Qab Non hb) (λ _ e=>e.elim) (λ _ _ e=>e) (λ _ _ e=>e) (λ _ e=>e.elim)
theorem ScD.ltA (h:ScD q V wr A n C B k cB l is):∀g,(Value.slice A n C).ownBlock=some g->g<wr.heap.size:=λ g hg=>by
 obtain ⟨_,_,⟨vs,Z,q1,_⟩,_⟩:=h;exact (q1.lt g hg).2
theorem ScD.ltB (h:ScD q V wr A n C B k cB l is):∀g,(Value.slice B k cB).ownBlock=some g->g<wr.heap.size:=λ g hg=>(h.ints.lt g hg).2
theorem ScD.one {E:List Int} {a:Option Addr} {m c g1:Nat} (h:ScD q V w A n C B k cB l is) (hi:ItsIn w a m (decX E)) (hf:m≠0->∀y,a.map (·.block)=some y->q<=y/\¬(Value.slice A n C).ownBlock=some y/\¬(Value.slice B k cB).ownBlock=some y) (hn:n+1<=100000)
  (hc0:w.cell? ⟨g1,0,none⟩=some (.int .u64 (decS E))) (hc1:w.cell? ⟨g1,1,none⟩=some (.slice a m c)) :
  ∃a9 c9 w9,(Builtin.append_ #[102,102] 102 #[.slice A n C,.slice (some ⟨g1,0,none⟩) 1 1]).run prog w=.ok (.slice a9 (n+1) c9) w9/\(∀g L t,Blk w g L t->t≠177->Blk w9 g L t)/\ScD q V w9 a9 (n+1) c9 B k cB (l ++ [E]) is:=by
 have hltA:=h.ltA;obtain ⟨h1,h2,⟨vs,Z,r1,r2,r3,r4,r5⟩,h4,h5,h6,h7,h8⟩:=h;obtain ⟨v9,w9,e9,o9,g9,b9⟩:=Qde (e:=177) (t:=102) (ty:=102) (size:=2) (bytes:=32) Tryz.underlying102 Tryz.zero_record rfl (by decide) (by decide) r1 ⟨g1,0,none⟩ 1 1 [.int .u64 (decS E),.slice a m c] rfl (by
  intro j u hj;rw [Addr.add_mid,Nat.zero_add];match j,hj with
  | 0,hj=>cases hj;exact hc0
  | 1,hj=>cases hj;exact hc1) (by intro u hu;simp only [List.mem_cons,List.not_mem_nil,or_false] at hu;rcases hu with rfl | rfl <;> rfl) (by omega)
 obtain ⟨a9,c9,rfl⟩:∃a' c',v9=.slice a' (n+1) c':=Qam o9;have ho9:Out (λ j=>(Value.slice A n C).ownBlock=some j) w w9:=(Out.refl (λ j=>(Value.slice A n C).ownBlock=some j) w).grown g9 (λ j hj=>.inl hj);have hs9:=ho9.size;have apartAB:∀g,(Value.slice B k cB).ownBlock=some g->¬(Value.slice A n C).ownBlock=some g:=λ g hg e=>by
  rcases Qbi h4 r1 (by decide) with h | h
  ·rw [h] at hg;cases hg
  ·exact h (hg.trans e.symm)
 have bA:∀g,(Value.slice a9 (n+1) c9).ownBlock=some g->(Value.slice A n C).ownBlock=some g\/w.heap.size<=g:=λ g hg=>by
  rcases b9 with e | e
  ·exact .inl (by rw [<-e];exact hg)
  ·exact .inr (e g hg)
 refine ⟨a9,c9,w9,e9,λ g L t hg ht=>ho9.blk hg (Qcp r1 hg ht),⟨by rw [List.length_append,h1];rfl,h2,⟨vs ++ [.slice a m c],λ x=>Z x\/(m≠0/\a.map (·.block)=some x),?_,?_,?_,?_,?_⟩,ho9.own h4 apartAB,?_,h6,h7.trans (ho9.below h8 (λ j hj=>h5 j hj)),by omega⟩⟩
 ·rw [Qma l vs E _ r2.1]
  exact o9
 ·exact RcD.snoc ((r2.out ho9 (λ y hy e=>r4 y e hy)).wider (λ x hx=>.inl hx)) (hi.outO ho9 (λ hm y hy e=>(hf hm y hy).2.1 e)) (λ hm y hy=>.inr ⟨hm,hy⟩)
 ·rintro x (hx | ⟨hm,hx⟩)
  ·have:=r3 x hx;exact ⟨this.1,by omega⟩
  ·have:=Qjb hi hm hx;exact ⟨(hf hm x hx).1,by omega⟩
 ·rintro g hg (hz | ⟨hm,hz⟩)
  ·rcases bA g hg with e | e
   ·exact r4 g e hz
   ·have:=(r3 g hz).2;omega
  ·rcases bA g hg with e | e
   ·exact (hf hm g hz).2.1 e
   ·have:=Qjb hi hm hz;omega
 ·rintro g hg (hz | ⟨hm,hz⟩)
  ·exact r5 g hg hz
  ·exact (hf hm g hz).2.2 hg
 ·intro g hg
  rcases bA g hg with e | e
  ·exact h5 g e
  ·omega
theorem ScD.int {g2:Nat} {iv:Int} (h:ScD q V w A n C B k cB l is) (hn:k+1<=100000) (hc2:w.cell? ⟨g2,0,none⟩=some (.int .i64 iv)) :
  ∃a8 c8 w8,(Builtin.append_ #[103,103] 103 #[.slice B k cB,.slice (some ⟨g2,0,none⟩) 1 1]).run prog w=.ok (.slice a8 (k+1) c8) w8/\(∀g L t,Blk w g L t->t≠3->Blk w8 g L t)/\ScD q V w8 A n C a8 (k+1) c8 l (is ++ [iv]):=by
 obtain ⟨h1,h2,⟨vs,Z,r1,r2,r3,r4,r5⟩,h4,h5,h6,h7,h8⟩:=h;obtain ⟨v8,w8,e8,o8,g8,b8⟩:=Qde (e:=3) (t:=103) (ty:=103) (size:=1) (bytes:=8) Tryz.underlying103 Tryz.zero_int rfl (by decide) (by decide) h4 ⟨g2,0,none⟩ 1 1 [.int .i64 iv] rfl (by
  intro j u hj;rw [Addr.add_mid,Nat.zero_add];match j,hj with
  | 0,hj=>cases hj;exact hc2) (by intro u hu;simp only [List.mem_cons,List.not_mem_nil,or_false] at hu;rw [hu];rfl) (by omega)
 obtain ⟨a8,c8,rfl⟩:∃a' c',v8=.slice a' (k+1) c':=Qam o8;have ho8:Out (λ j=>(Value.slice B k cB).ownBlock=some j) w w8:=(Out.refl (λ j=>(Value.slice B k cB).ownBlock=some j) w).grown g8 (λ j hj=>.inl hj);have hs8:=ho8.size;have apartAB:∀g,(Value.slice A n C).ownBlock=some g->¬(Value.slice B k cB).ownBlock=some g:=λ g hg e=>by
  rcases Qbi r1 h4 (by decide) with h | h
  ·rw [h] at hg;cases hg
  ·exact h (hg.trans e.symm)
 have bB:∀g,(Value.slice a8 (k+1) c8).ownBlock=some g->(Value.slice B k cB).ownBlock=some g\/w.heap.size<=g:=λ g hg=>by
  rcases b8 with e | e
  ·exact .inl (by rw [<-e];exact hg)
  ·exact .inr (e g hg)
 refine ⟨a8,c8,w8,e8,λ g L t hg ht=>ho8.blk hg (Qcp h4 hg ht),⟨h1,by rw [List.length_append,h2];rfl,⟨vs,Z,ho8.own r1 apartAB,r2.out ho8 (λ y hy e=>r5 y e hy),λ x hx=>⟨(r3 x hx).1,by have:=(r3 x hx).2;omega⟩,r4,?_⟩,by simpa [Qaj] using o8,h5,?_,h7.trans (ho8.below h8 (λ j hj=>h6 j hj)),by omega⟩⟩
 ·intro g hg hz
  rcases bB g hg with e | e
  ·exact r5 g e hz
  ·have:=(r3 g hz).2;omega
 ·intro g hg
  rcases bB g hg with e | e
  ·exact h6 g e
  ·omega
theorem ScD.late {E:List Int} {a:Option Addr} {m c g1:Nat} {iv:Int} (h:ScD q V w A n C B n cB l is) (hi:ItsIn w a m (decX E)) (hf:m≠0->∀y,a.map (·.block)=some y->q<=y/\¬(Value.slice A n C).ownBlock=some y/\¬(Value.slice B n cB).ownBlock=some y) (hn:n+1<=100000)
  (hc0:w.cell? ⟨g1,0,none⟩=some (.int .u64 (decS E))) (hc1:w.cell? ⟨g1,1,none⟩=some (.slice a m c)) :
  ∃a9 c9 w9 a8 c8 w8,(Builtin.append_ #[102,102] 102 #[.slice A n C,.slice (some ⟨g1,0,none⟩) 1 1]).run prog w=.ok (.slice a9 (n+1) c9) w9/\(Builtin.append_ #[103,103] 103 #[.slice B n cB,.slice (some ⟨w9.heap.size,0,none⟩) 1 1]).run prog (w9.alloc (.cells #[.int .i64 iv] 3))=.ok (.slice a8 (n+1) c8) w8/\
   (∀g L t,Blk w g L t->t≠177->Blk w9 g L t)/\(∀g L t,Blk w g L t->t≠177->t≠3->Blk w8 g L t)/\ScD q V w8 a9 (n+1) c9 a8 (n+1) c8 (l ++ [E]) (is ++ [iv]):=by
 obtain ⟨a9,c9,w9,e9,k9,s9⟩:=h.one hi hf hn hc0 hc1;have hb:Blk (w9.alloc (.cells #[.int .i64 iv] 3)) w9.heap.size [.int .i64 iv] 3:=Blk.new' rfl rfl;obtain ⟨a8,c8,w8,e8,k8,s8⟩:=(s9.below ((Below.refl _ _).alloc (Nat.le_refl _) _)).int hn (hb.cell 0);exact ⟨a9,c9,w9,a8,c8,w8,e9,e8,k9,λ g L t hg h1 h2=>k8 g L t ((k9 g L t hg h1).alloc _) h2,s8⟩
end
end
section
def Quj (W:World) (zs:List Zn) (z:Int) (e:Ending) (w':World):Prop:=∃A C B cB n,e=.returned (.tuple #[.slice A n C,.slice B n cB])/\ScD W.heap.size W w' A n C B n cB ((Qay zs z).map (elB zs z)) ((Qay zs z).map (λ i=>((i:Nat):Int)))
theorem Qs2 {E:List Int} {x:It} (h:x∈decX E):x.k=1\/x.k=2:=by
 unfold decX at h;split at h
 ·rename_i hr
  have:=hr.1.2.2 x h;unfold Qci at this;omega
 ·simp at h
theorem Qru (bs:List Int):(decX bs).length<=214:=by
 unfold decX;split
 ·rename_i h
  exact h.1.bounds.2.2.2.1
 ·simp
theorem Qhy {zs:List Zn} {z:Int} {i:Nat} {E:List Int} (h:recB zs (z,(i:Int))=some E):Qbe zs z i=endM zs z (decX E) (i+1):=by
 unfold Qbe;rw [h]
theorem Qqm {O:Nat->Prop} {W:World} {p:Nat} {s:Sh} {zs:List Zn} (hd:Dv 101 O W p s zs) (hw:Wf s zs) (z bn:Int):Calls prog 98 #[.pointer (some ⟨p,0,none⟩),.agg #[.int .i64 z,.int .i64 bn]] W λ e w'=>∃a n c,e=.returned (.tuple #[.slice a n c,.int .i64 (rdE zs z bn)])/\Below W.heap.size W w'/\BIn w' a n (rdB zs z bn)/\(a=none->n=0/\c=0)/\n<=c:=by
 refine (Qra z bn hd hw).mono ?_
 rintro e w' ⟨h,rfl,hk,hb⟩;obtain ⟨a,c,rfl⟩:=Qam hk.1;exact ⟨a,_,c,rfl,hb,hk.bin.1,hk.bin.2.1,(Qev hk.1).1⟩
theorem Q3y {zs:List Zn} {z:Int} {i:Nat} (h:i<(atZ zs z).1.length):∃E,blkZ zs (z,(i:Int))=some E:=by
 unfold atZ at h;split at h
 ·rename_i hz
  rcases Nat.lt_or_ge z.toNat zs.length with hl | hl
  ·rw [show zs.getD z.toNat ([],0)=zs[z.toNat] by simp [List.getD,hl]] at h
   refine ⟨(zs[z.toNat]).1[i],?_⟩
   unfold blkZ;rw [if_pos ⟨hz,by show (0:Int)<=i;omega⟩];simp [hl,h]
  ·rw [show zs.getD z.toNat ([],0)=([],0) by simp [List.getD,List.getElem?_eq_none hl]] at h
   simp at h
 ·simp at h
section
variable {O:Nat->Prop} {W:World} {p:Nat} {s:Sh} {zs:List Zn}
set_option maxHeartbeats 4000000 in
theorem Qr4 (z:Int) (hd:Dv 101 O W p s zs) (hw:Wf s zs) :
  Calls prog 45 #[.pointer (some ⟨p,0,none⟩),.int .i64 z] W (Quj W zs z):=by
 obtain ⟨N,hN⟩:∃N,N=(atZ zs z).1.length:=⟨_,rfl⟩
 have HAt:Hid (Calls prog 97 #[.pointer (some ⟨p,0,none⟩),.int .i64 z] W λ e w'=>e=.returned (.tuple #[.int .i64 (N:Nat),.int .i64 (atZ zs z).2])/\Below W.heap.size W w'):=by rw [hN];exact Qt5 z hd
 have HRd:Hid (∀V bn,Below W.heap.size W V->Calls prog 98 #[.pointer (some ⟨p,0,none⟩),.agg #[.int .i64 z,.int .i64 bn]] V λ e w'=>∃a n c,e=.returned (.tuple #[.slice a n c,.int .i64 (rdE zs z bn)])/\Below V.heap.size V w'/\BIn w' a n (rdB zs z bn)/\(a=none->n=0/\c=0)/\n<=c):=λ V bn hV=>Qqm (hd.later hV) hw z bn
 have HW:Hid (Wf s zs/\N=(atZ zs z).1.length/\N<=4096):=⟨hw,hN,by
  rw [hN];unfold atZ;split
  ·rcases Nat.lt_or_ge z.toNat zs.length with h | h
   ·rw [show zs.getD z.toNat ([],0)=zs[z.toNat] by simp [List.getD,h]]
    have:=(hw.zone _ (List.getElem_mem h)).1;have:=hw.right.2.2.2.1;omega
   ·rw [show zs.getD z.toNat ([],0)=([],0) by simp [List.getD,List.getElem?_eq_none h]];simp
  ·simp⟩
 clear hd hw hN;go_enter func45,ntmps45
 go_wp2_with (go_at_call 97;refine HAt.out.mono ?_;rintro e W1 ⟨rfl,hb1⟩)
 clear HAt;have HV:=Jh1 hb1;clear hb1;go_loopw [6,7,10] (λ u v x wr=>∃(l:List Nat) (i n C cB:Nat) (A B:Option Addr),u=.slice A n C/\v=.slice B n cB/\x=.int .i64 (i:Nat)/\Qpv zs z l i/\ScD W.heap.size W wr A n C B n cB (l.map (elB zs z)) (l.map (λ i=>((i:Nat):Int)))/\n<=i) (λ _ _ x _=>N - (intOf x).toNat)
 case atStart=>exact ⟨[],0,0,0,0,none,none,rfl,rfl,rfl,Qn2 _ _,ScD.start W W.heap.size HV.out HV.out.size,Nat.le_refl _⟩
 case round=>
  obtain ⟨l,i,n,C,cB,A,B,rfl,rfl,rfl,way,sc,hni⟩:=hrel;rcases Nat.lt_or_ge i N with hlt | hge
  ·have hlt':(i:Int)<N:=by omega
   have hwi:IntKind.i64.wrap ((i:Int)+1)=(i:Int)+1:=by rw [IntKind.wrap_i64];have:=(Jz2 HW);omega
   have HS:=Jh4 way sc hni hlt;have hRd:=HRd.out wr (i:Nat) sc.bel;clear way sc hni hlt;obtain ⟨E,hE⟩:=Q3y (z:=z) (i:=i) (by rw [<-(J2 HW)];exact (Jz3 HS));obtain ⟨hr1,hr2⟩:=Qg9 hE;simp only at hr1 hr2
   rw [hr1,hr2] at hRd;have hEl:E.length<=4096:=by
    obtain ⟨i',j,zn,e1,hz,hj⟩:=Qct hE;have h1:=(HW.out.1.zone zn (List.mem_of_getElem? hz)).2.2.2 E (List.mem_of_getElem? hj);have h2:=(Qbd HW.out.1.right.2.2.2.2.1).2;omega
   obtain ⟨S,hS⟩:∃S,S=decS E:=⟨_,rfl⟩
   obtain ⟨er,her⟩:∃er,er=decE E:=⟨_,rfl⟩
   have HE:=Jh4 hE hEl hS her;have HDc:Hid (∀V ba bn bc,BIn V ba bn E->(ba=none->bn=0/\bc=0)->bn<=bc->Calls prog 99 #[.slice ba bn bc] V λ e w'=>∃A n C,e=.returned (.tuple #[.agg #[.int .u64 S,.slice A n C],.int .i64 er])/\ItsIn w' A n (decX E)/\Below V.heap.size V w'/\Qii V.heap.size A n):=λ V ba bn bc h1 h2 h3=>by
    rw [(J3 HE),(Jz3 HE)];exact Qtc ba bn bc E V h1 h2 h3 (by have:=(J2 HE);have:=h1.1;omega)
   clear hE hr1 hr2 hEl hS her;by_cases h0:er=0
   ·have h0':(er != 0)=false:=by simp [h0]
    go_wp2_with (first
     | (go_at_call 98;refine hRd.mono ?_;rintro e w1 ⟨ba,bn,bc,rfl,hb1,hbi,hbn,hbc⟩)
     | (go_at_call 99;refine (HDc.out _ _ _ _ hbi hbn hbc).mono ?_;rintro e w2 ⟨a,m,c,rfl,hit,hb2,hfr⟩))
    have hml:m<=214:=by have h1:=hit.1;have h2:=Qru E;omega
    have hb2':Below wr.heap.size wr (w2.alloc (.cells #[.int .u64 S,.slice a m c] 177)):=(hb1.trans (hb2.mono hb1.size)).alloc (hb1.trans (hb2.mono hb1.size)).size _;have HV0:Blk (w2.alloc (.cells #[.int .u64 S,.slice a m c] 177)) w2.heap.size [.int .u64 S,.slice a m c] 177/\Below wr.heap.size wr (w2.alloc (.cells #[.int .u64 S,.slice a m c] 177))/\ItsIn (w2.alloc (.cells #[.int .u64 S,.slice a m c] 177)) a m (decX E)/\Qii wr.heap.size a m/\wr.heap.size<=w2.heap.size/\m<=214:=
     ⟨Blk.new' rfl rfl,hb2',hit.below ((Below.refl _ _).alloc (Nat.le_refl _) _),λ hn y hy=>Nat.le_trans hb1.size (hfr hn y hy),(hb1.trans (hb2.mono hb1.size)).size,hml⟩
    have hrB:recB zs (z,(i:Int))=some E:=by
     unfold recB;rw [HE.out.1];simp only
     rw [if_pos (by rw [<-(Jz3 HE)];exact h0)]
    have HB:=Jh1 hrB;clear hb1 hb2 hbi hbn hbc hit hfr hb2' hml hrB;generalize World.alloc w2 _=V at HV0 ⊢;generalize w2.heap.size=f0 at HV0 ⊢;have HV2:=Jh7 HV0.1 HV0.2.1 HV0.2.2.1 HV0.2.2.2.1 HV0.2.2.2.2.1 HV0.2.2.2.2.2 HV0.2.2.1.1;clear HV0;have hqi:i<4096:=by have h1:=(Jz3 HS);have h2:=(Jz2 HW);omega
    obtain ⟨W0,hW0⟩:∃W0,W0=wr:=⟨_,rfl⟩
    rw [<-hW0] at HS HV2;clear hW0;go_loopw [15,16] (λ x y wr=>∃k j:Nat,x=.int .i64 (j:Nat)/\y=.int .i64 (k:Nat)/\k<=m/\j<=i+1+k/\endM zs z (decX E) (i+1)=endM zs z ((decX E).drop k) j/\Below V.heap.size V wr) (λ _ y _=>m - (intOf y).toNat)
    case atStart=>exact ⟨0,i+1,by simp,rfl,Nat.zero_le _,Nat.le_refl _,rfl,Below.refl _ _⟩
    case round=>
     obtain ⟨k,j,rfl,rfl,hk,hj,he,hb⟩:=hrel;have kf:=HV2.out.1.below hb HV2.out.1.lt;have f1:wr.cell? ⟨f0,1,none⟩=some (.slice a m c):=kf.cell 1;rcases Nat.lt_or_ge k m with hlt | hge
     ·have hk':(k:Int)<m:=by omega
      have hm5:=(J6 HV2)
      have hwk:IntKind.i64.wrap ((k:Int)+1)=(k:Int)+1:=by rw [IntKind.wrap_i64];omega
      have hwj:IntKind.i64.wrap ((j:Int)+1)=(j:Int)+1:=by rw [IntKind.wrap_i64];omega
      have hits:=(J3 HV2).below hb;obtain ⟨x,hx⟩:∃x,(decX E)[k]?=some x:=⟨(decX E)[k]'(by have:=(Jz6 HV2);omega),by simp⟩
      have hfx:=hits.2.2.1 x (List.mem_of_getElem? hx);have hkx:=Qs2 (List.mem_of_getElem? hx);obtain ⟨bb,off,rfl,hc⟩:=hits.2.2.2.resolve_left (by omega);obtain ⟨t,u,kd,sm,en⟩:=x;have y0:wr.cell? ⟨bb,off+k*5+0,none⟩=some (.int .u32 t):=hc k _ hx 0 _ rfl;have y1:wr.cell? ⟨bb,off+k*5+1,none⟩=some (.int .u64 u):=hc k _ hx 1 _ rfl;have y2:wr.cell? ⟨bb,off+k*5+2,none⟩=some (.int .u8 kd):=hc k _ hx 2 _ rfl;have y3:wr.cell? ⟨bb,off+k*5+3,none⟩=some (.int .u32 sm):=hc k _ hx 3 _ rfl;have y4:wr.cell? ⟨bb,off+k*5+4,none⟩=some (.int .u16 en):=hc k _ hx 4 _ rfl;simp only [Nat.add_zero] at y0
      have hdr:(decX E).drop k=⟨t,u,kd,sm,en⟩ :: (decX E).drop (k+1):=by
       obtain ⟨h,e⟩:=List.getElem?_eq_some_iff.1 hx;rw [List.drop_eq_getElem_cons h,e]
      have HK:Hid (endM zs z (decX E) (i+1)=endM zs z (⟨t,u,kd,sm,en⟩ :: (decX E).drop (k+1)) j/\Below V.heap.size V wr/\It.Fits ⟨t,u,kd,sm,en⟩/\(kd=1\/kd=2)/\j<=i+1+k/\k<m):=⟨by rw [he,hdr],hb,hfx,hkx,hj,hlt⟩
      have hRd:=HRd.out wr (j:Nat) ((J2 HS).bel.trans (((J2 HV2).trans (hb.mono (J2 HV2).size)).mono (J2 HS).bel.size));clear he hb hits hfx hkx hc hx hdr kf hj hlt;by_cases hkd:kd=2
      ·have hkd':(kd == 2)=true:=by simp [hkd]
       have HN:Hid (endM zs z (decX E) (i+1)=endM zs z ((decX E).drop (k+1)) j):=by
        show _=_;rw [HK.out.1];exact Qik (by show kd≠1;omega)
       clear hkd hRd;go_wp2
       exact ⟨⟨k+1,j,rfl,by simp,by have:=(Jz5 HK);omega,by have:=(J5 HK);omega,HN.out,(J2 HK)⟩,by simp [intOf];have:=(Jz5 HK);omega⟩
      ·have hkd':(kd == 2)=false:=by simp [hkd]
       have HKd:Hid (kd=1):=by have h:=(J4 HK);show kd=1;omega
       obtain ⟨E0,hE0⟩:∃E0,E0=rdE zs z (j:Nat):=⟨_,rfl⟩
       obtain ⟨bl,hbl⟩:∃bl,bl=rdB zs z (j:Nat):=⟨_,rfl⟩
       obtain ⟨ck,hck⟩:∃ck,ck=Qb9 ⟨t,u,kd,sm,en⟩ bl:=⟨_,rfl⟩
       rw [<-hE0,<-hbl] at hRd;have HCk:Hid (∀V da dn dc,BIn V da dn bl->Calls prog 100 #[.agg #[.int .u32 t,.int .u64 u,.int .u8 kd,.int .u32 sm,.int .u16 en],.slice da dn dc] V λ e w'=>e=.returned (.bool ck)/\Below V.heap.size V w'):=λ V da dn dc hB=>by
        rw [hck];exact Qvp ⟨t,u,kd,sm,en⟩ da dn dc bl V (J3 HK) hB
       have HR:Hid (∀b,blkZ zs (z,(j:Int))=some b->E0=0/\ck=Qb9 ⟨t,u,kd,sm,en⟩ b):=λ b hb=>by
        obtain ⟨h1,h2⟩:=Qg9 hb;simp only at h1 h2
        exact ⟨by rw [hE0,h1],by rw [hck,hbl,h2]⟩
       have HR2:Hid (E0=0->∃b,blkZ zs (z,(j:Int))=some b):=λ h=>by
        cases hB:blkZ zs (z,(j:Int)) with
        | some b=>exact ⟨b,rfl⟩
        | none=>
         have:=Qjx hB;simp only at this
         omega
       clear hE0 hbl hck hkd;by_cases hq:E0=0/\ck=true
       ·obtain ⟨hq1,hq2⟩:=hq
        have hE0':(E0 != 0)=false:=by simp [hq1]
        have HN:Hid (endM zs z (decX E) (i+1)=endM zs z ((decX E).drop (k+1)) (j+1)):=by
         show _=_;rw [HK.out.1];obtain ⟨b,hb⟩:=HR2.out hq1;exact Qf9 HKd.out hb (by rw [<-(HR.out b hb).2];exact hq2)
        subst hq2;clear hq1;go_wp2_with (first
         | (go_at_call 98;refine hRd.mono ?_;rintro e w3 ⟨da,dn,dc,rfl,hb3,hdb,_,_⟩;have f3:w3.cell? ⟨f0,1,none⟩=some (.slice (some ⟨bb,off,none⟩) m c):=((HV2.out.1.below (J2 HK) HV2.out.1.lt).below hb3 (HV2.out.1.below (J2 HK) HV2.out.1.lt).lt).cell 1;have x0:=(Qab Non hb3).cell y0 (λ e=>e);have x1:=(Qab Non hb3).cell y1 (λ e=>e);have x2:=(Qab Non hb3).cell y2 (λ e=>e);have x3:=(Qab Non hb3).cell y3 (λ e=>e);have x4:=(Qab Non hb3).cell y4 (λ e=>e))
         | (go_at_call 100;refine (HCk.out _ _ _ _ hdb).mono ?_;rintro e w4 ⟨rfl,hb4⟩))
        exact ⟨⟨k+1,j+1,by simp,by simp,by have:=(Jz5 HK);omega,by have:=(J5 HK);omega,HN.out,(J2 HK).trans ((hb3.trans (hb4.mono hb3.size)).mono (J2 HK).size)⟩,by simp [intOf];have:=(Jz5 HK);omega⟩
       ·have HN:Hid (Qbe zs z i=none):=by
         show _=_;rw [Qhy HB.out,HK.out.1];refine Qgi HKd.out (λ b hb=>?_)
         obtain ⟨h1,h2⟩:=HR.out b hb;rw [<-h2];cases hc:ck with
         | false=>rfl
         | true=>exact (hq ⟨h1,hc⟩).elim
        by_cases hq0:E0=0
        ·have hck:ck=false:=by
          cases hc:ck with
          | false=>rfl
          | true=>exact (hq ⟨hq0,hc⟩).elim
         subst hck;have hE0':(E0 != 0)=false:=by simp [hq0]
         clear hq hq0;go_wp2_with (first
          | (go_at_call 98;refine hRd.mono ?_;rintro e w3 ⟨da,dn,dc,rfl,hb3,hdb,_,_⟩;have f3:w3.cell? ⟨f0,1,none⟩=some (.slice (some ⟨bb,off,none⟩) m c):=((HV2.out.1.below (J2 HK) HV2.out.1.lt).below hb3 (HV2.out.1.below (J2 HK) HV2.out.1.lt).lt).cell 1;have x0:=(Qab Non hb3).cell y0 (λ e=>e);have x1:=(Qab Non hb3).cell y1 (λ e=>e);have x2:=(Qab Non hb3).cell y2 (λ e=>e);have x3:=(Qab Non hb3).cell y3 (λ e=>e);have x4:=(Qab Non hb3).cell y4 (λ e=>e))
          | (go_at_call 100;refine (HCk.out _ _ _ _ hdb).mono ?_;rintro e w4 ⟨rfl,hb4⟩))
         go_ret2
         refine ⟨A,C,B,cB,n,rfl,?_⟩
         rw [Qhf HS.out.1 HN.out];exact (J2 HS).below ((J2 HV2).trans (((J2 HK).trans ((hb3.trans (hb4.mono hb3.size)).mono (J2 HK).size)).mono (J2 HV2).size))
        ·have hE0':(E0 != 0)=true:=by simp [hq0]
         clear hq hq0;go_wp2_with (first
          | (go_at_call 98;refine hRd.mono ?_;rintro e w3 ⟨da,dn,dc,rfl,hb3,hdb,_,_⟩;have f3:w3.cell? ⟨f0,1,none⟩=some (.slice (some ⟨bb,off,none⟩) m c):=((HV2.out.1.below (J2 HK) HV2.out.1.lt).below hb3 (HV2.out.1.below (J2 HK) HV2.out.1.lt).lt).cell 1;have x0:=(Qab Non hb3).cell y0 (λ e=>e);have x1:=(Qab Non hb3).cell y1 (λ e=>e);have x2:=(Qab Non hb3).cell y2 (λ e=>e);have x3:=(Qab Non hb3).cell y3 (λ e=>e);have x4:=(Qab Non hb3).cell y4 (λ e=>e))
          | (go_at_call 100;refine (HCk.out _ _ _ _ hdb).mono ?_;rintro e w4 ⟨rfl,hb4⟩))
         go_ret2
         refine ⟨A,C,B,cB,n,rfl,?_⟩
         rw [Qhf HS.out.1 HN.out];exact (J2 HS).below ((J2 HV2).trans (((J2 HK).trans ((hb3.trans (hb4.mono hb3.size)).mono (J2 HK).size)).mono (J2 HV2).size))
     ·have hge':¬((k:Int)<m):=by omega
      obtain rfl:k=m:=by omega
      have hre:Qbe zs z i=some j:=by
       rw [Qhy HB.out,he,List.drop_eq_nil_of_le (by have:=(Jz6 HV2);omega)];rfl
      have f0c:wr.cell? ⟨f0,0,none⟩=some (.int .u64 S):=kf.cell 0;have hbW:Below W0.heap.size W0 (wr.alloc (.cells #[.int .u64 S,.slice a k c] 177)):=((J2 HV2).trans (hb.mono (J2 HV2).size)).alloc ((J2 HV2).trans (hb.mono (J2 HV2).size)).size _;have hltA:=(J2 HS).ltA;have hltB:=(J2 HS).ltB;have kr:Blk (wr.alloc (.cells #[.int .u64 S,.slice a k c] 177)) wr.heap.size [.int .u64 S,.slice a k c] 177:=Blk.new' rfl rfl;obtain ⟨a9,c9,w9,a8,c8,w8,e9,e8,_,_,sc8⟩:=((J2 HS).below hbW).late (E:=E) (iv:=((i:Nat):Int)) (((J3 HV2).below hb).below (Qbg _ _)) (λ hn y hy=>by
       have h1:=(J4 HV2) hn y hy;have h2:=(J2 HS).bel.size;exact ⟨by omega,λ e=>by have:=hltA y e;omega,λ e=>by have:=hltB y e;omega⟩) (by have h1:=(J3 HS);omega) (by rw [kr.cell 0,(J3 HE)];rfl) (kr.cell 1)
      have HJ:Hid (Qbe zs z i=some j/\ScD W.heap.size W w8 a9 (n+1) c9 a8 (n+1) c8 (l.map (elB zs z) ++ [E]) (l.map (λ i=>((i:Nat):Int)) ++ [((i:Nat):Int)])/\elB zs z i=E):=⟨hre,sc8,by unfold elB;rw [HB.out];rfl⟩
      clear hre he hj hb hge hbW hltA hltB kr sc8 kf;go_wp2_with (first
       | (at_builtin;refine Qag rfl _ _ 102 102 rfl _ _ rfl rfl _ _ e9 ?_)
       | (at_builtin;refine Qag rfl _ _ 103 103 rfl _ _ rfl rfl _ _ e8 ?_))
      have hlt:=Que HS.out.1 HJ.out.1;refine ⟨⟨l ++ [i],j,n+1,c9,c8,a9,a8,rfl,rfl,rfl,Qq7 HS.out.1 HJ.out.1,?_,?_⟩,?_⟩
      ·rw [List.map_append,List.map_append]
       simp only [List.map_cons,List.map_nil,(Jz2 HJ)]
       exact (J2 HJ)
      ·have:=(J3 HS)
       omega
      ·simp [intOf]
       have:=(Jz3 HS)
       omega
   ·have h0':(er != 0)=true:=by simp [h0]
    have hre:Qbe zs z i=none:=by
     unfold Qbe recB;rw [HE.out.1];simp only
     rw [if_neg (by rw [<-(Jz3 HE)];exact h0)]
    go_wp2_with (first
     | (go_at_call 98;refine hRd.mono ?_;rintro e w1 ⟨ba,bn,bc,rfl,hb1,hbi,hbn,hbc⟩)
     | (go_at_call 99;refine (HDc.out _ _ _ _ hbi hbn hbc).mono ?_;rintro e w2 ⟨a,m,c,rfl,hit,hb2,hfr⟩))
    have HR:=Jh2 (Qhf HS.out.1 hre) ((J2 HS).below (hb1.trans (hb2.mono hb1.size)));go_ret2
    refine ⟨A,C,B,cB,n,rfl,?_⟩
    rw [HR.out.1];exact HR.out.2.below ((Below.refl _ _).alloc (Nat.le_refl _) _)
  ·have hge':¬((i:Int)<N):=by omega
   have hre:Qbe zs z i=none:=by
    cases he:Qbe zs z i with
    | none=>rfl
    | some e=>
     have h1:=Que way he;have h2:=(J2 HW)
     omega
   have HR:=Jh2 (Qhf way hre) sc;clear way sc hni hge hre;go_wp2
   go_ret2
   refine ⟨A,C,B,cB,n,rfl,?_⟩
   rw [HR.out.1];exact HR.out.2
end
end
end Go.Proofs.YtcdnjeiamihhbaaGreat
