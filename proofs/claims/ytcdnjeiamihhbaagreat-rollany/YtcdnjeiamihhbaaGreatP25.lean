/- P25 -/
import Derived.Test.YtcdnjeiamihhbaaGreatP24
set_option linter.unusedVariables false
set_option maxRecDepth 4000
open Go.Proofs.Tryz
namespace Go.Proofs.YtcdnjeiamihhbaaGreat
open Go.RowKit
section
theorem Qg9 {zs:List Zn} {a:Pr} {E:List Int} (h:blkZ zs a=some E):rdE zs a.1 a.2=0/\rdB zs a.1 a.2=E:=by
 obtain ⟨i,j,z,rfl,hz,hj⟩:=Qct h;exact Qzg hz hj
theorem Qjx {zs:List Zn} {a:Pr} (h:blkZ zs a=none):rdE zs a.1 a.2=100\/rdE zs a.1 a.2=102:=by
 unfold rdE;split
 ·rename_i hz
  split
  ·rename_i hb
   exfalso
   unfold Qdy at hz;unfold Qcx at hb;unfold blkZ at h;rw [if_pos ⟨hz.1,hb.1⟩] at h;have hl:a.1.toNat<zs.length:=by omega
   simp only [List.getElem?_eq_getElem hl,Option.bind_some] at h
   have h2:=List.getElem?_eq_none_iff.1 h;have:(atZ zs a.1).1=zs[a.1.toNat].1:=by
    unfold atZ;rw [if_pos hz.1];simp [List.getD,hl]
   rw [this] at hb;omega
  ·exact .inr rfl
 ·exact .inl rfl
theorem Dv.later {T:TypeId} {O:Nat->Prop} {W W':World} {p:Nat} {s:Sh} {zs:List Zn} (h:Dv T O W p s zs) (hb:Below W.heap.size W W'):Dv T O W' p s zs:=by
 obtain ⟨g,cc,vs,hv⟩:=h;exact ⟨g,cc,vs,hv.under hb⟩
theorem Tryz.info_found:(prog.info? 179).map (·.size)=some 4:=by kernel_rfl
def set4 (w:World) (q:Nat) (v0 v1 v2 v3:Value):World:=(((w.setCell ⟨q,0,none⟩ v0).setCell ⟨q,1,none⟩ v1).setCell ⟨q,2,none⟩ v2).setCell ⟨q,3,none⟩ v3
theorem Qlz {w:World} {q:Nat} {a b c d:Value} {t:TypeId} (h:Blk w q [a,b,c,d] t) (v0 v1 v2 v3:Value):Blk (set4 w q v0 v1 v2 v3) q [v0,v1,v2,v3] t:=(((h.set 0 v0).set 1 v1).set 2 v2).set 3 v3
theorem Qhn {B:Nat} {V w:World} (h:Below B V w) {q:Nat} (hq:B<=q) (v0 v1 v2 v3:Value):Below B V (set4 w q v0 v1 v2 v3):=(((h.setCell (p:=⟨q,0,none⟩) hq v0).setCell (p:=⟨q,1,none⟩) hq v1).setCell (p:=⟨q,2,none⟩) hq v2).setCell (p:=⟨q,3,none⟩) hq v3
theorem Qy1 {W:World} {q:Nat} {a0 c0 d0:Int} {A:Option Addr} {n C:Nat} {t:TypeId} (h:Blk W q [.int .u64 a0,.slice A n C,.int .i64 c0,.int .i64 d0] t):∀j x,W.cell? ⟨q,j,none⟩≠some (.int .u32 x):=by
 intro j x e;rw [h.cell] at e;match j,e with
 | 0,e=>cases e
 | 1,e=>cases e
 | 2,e=>cases e
 | 3,e=>cases e
 | j+4,e=>simp at e
theorem Qyu {w:World} {A B:Option Addr} {m n C n2 C2:Nat} {X:List It} {q:Nat} {a0 c0 d0 v0 v2 v3:Int} {t:TypeId} (h:ItsIn w A m X) (hb:Blk w q [.int .u64 a0,.slice B n C,.int .i64 c0,.int .i64 d0] t) (B2:Option Addr):ItsIn (set4 w q (.int .u64 v0) (.slice B2 n2 C2) (.int .i64 v2) (.int .i64 v3)) A m X:=by
 have h1:=hb.set 0 (.int .u64 v0);have h2:=h1.set 1 (.slice B2 n2 C2);have h3:=h2.set 2 (.int .i64 v2);exact (((h.set (Qy1 hb) 0 _).set (Qy1 h1) 1 _).set (Qy1 h2) 2 _).set (Qy1 h3) 3 _
def Q29 (W:World) (zs:List Zn) (zn bn:Int) (e:Ending) (w':World):Prop:=Below W.heap.size W w'/\((∃E,recB zs (zn,bn)=some E/\∃A n C,e=.returned (.tuple #[.agg #[.int .u64 (decS E),.slice A n C,.int .i64 zn,.int .i64 bn],.bool true])/\ItsIn w' A n (decX E)/\Qii W.heap.size A n)\/(recB zs (zn,bn)=none/\∃(S:Int) (A:Option Addr) (n C:Nat) (a b:Int),e=.returned (.tuple #[.agg #[.int .u64 S,.slice A n C,.int .i64 a,.int .i64 b],.bool false])))
section
variable {O:Nat->Prop} {W:World} {p:Nat} {s:Sh} {zs:List Zn}
set_option maxHeartbeats 2000000 in
theorem Qx6 (zn bn:Int) (hd:Dv 98 O W p s zs) (hw:Wf s zs) :
  Calls prog 95 #[.pointer (some ⟨p,0,none⟩),.agg #[.int .i64 zn,.int .i64 bn]] W (Q29 W zs zn bn):=by
 have hV0:Below W.heap.size W ((W.alloc (.cells #[.int .i64 zn,.int .i64 bn] 85)).alloc (.cells #[.int .u64 0,.slice none 0 0,.int .i64 0,.int .i64 0] 179))/\Blk ((W.alloc (.cells #[.int .i64 zn,.int .i64 bn] 85)).alloc (.cells #[.int .u64 0,.slice none 0 0,.int .i64 0,.int .i64 0] 179)) W.heap.size [.int .i64 zn,.int .i64 bn] 85/\Blk ((W.alloc (.cells #[.int .i64 zn,.int .i64 bn] 85)).alloc (.cells #[.int .u64 0,.slice none 0 0,.int .i64 0,.int .i64 0] 179)) (W.heap.size+1) [.int .u64 0,.slice none 0 0,.int .i64 0,.int .i64 0] 179:=⟨((Below.refl _ _).alloc (Nat.le_refl _) _).alloc (by simp) _,(Blk.new' rfl rfl).alloc _,Blk.new' (by simp) rfl⟩
 obtain ⟨q,hq⟩:∃q,q=W.heap.size:=⟨_,rfl⟩
 have HQ:=Jh1 hq;cases hB:blkZ zs (zn,bn) with
 | none=>
  have hR:recB zs (zn,bn)=none:=by unfold recB;rw [hB]
  obtain ⟨E0,hE0⟩:∃E0,E0=rdE zs zn bn:=⟨_,rfl⟩
  have hE1:¬E0=0:=by
   have:=Qjx hB;simp only at this
   omega
  have HR:Hid (∀V,Below W.heap.size W V->Calls prog 90 #[.pointer (some ⟨p,0,none⟩),.agg #[.int .i64 zn,.int .i64 bn]] V λ e w'=>∃h,e=.returned (.tuple #[h,.int .u16 E0])/\Below V.heap.size V w'):=λ V hV=>by
   rw [hE0];refine (Qg6 zn bn (hd.later hV) hw).mono ?_
   rintro e w' ⟨h,rfl,_,hb⟩;exact ⟨h,rfl,hb⟩
  have HN:=Jh1 hR;clear hd hw hB hR hE0;go_enter func95,ntmps95
  go_wp2_with fail
  rw [<-hq] at hV0 ⊢;clear hq;generalize World.alloc (World.alloc W _) _=V at hV0 ⊢;have HV:=Jh1 hV0;clear hV0;go_wp2_with (go_at_call 90;refine (HR.out _ (by rw [<-HQ.out];exact HV.out.1)).mono ?_;rintro e w1 ⟨h,rfl,hb1⟩;have k1:=(Jz2 HV).below hb1 (Jz2 HV).lt;have d0:w1.cell? ⟨q+1,0,none⟩=some (.int .u64 0):=k1.cell 0;have d1:w1.cell? ⟨q+1,1,none⟩=some (.slice none 0 0):=k1.cell 1;have d2:w1.cell? ⟨q+1,2,none⟩=some (.int .i64 0):=k1.cell 2;have d3:w1.cell? ⟨q+1,3,none⟩=some (.int .i64 0):=k1.cell 3;have z0:=k1.frozen 0;have z1:=k1.frozen 1;have z2:=k1.frozen 2;have z3:=k1.frozen 3)
  have k5:=Qlz k1 (.int .u64 0) (.slice none 0 0) (.int .i64 0) (.int .i64 0);have hqV:q<=V.heap.size:=by have:=(J2 HV).lt;omega
  have b5:=Qhn (HV.out.1.trans (hb1.mono hqV)) (q:=q+1) (by omega) (.int .u64 0) (.slice none 0 0) (.int .i64 0) (.int .i64 0);exact bodyPost_ret (Qad (p:=4) (u:=5) (ty:=179) rfl _ _ (q+1) _ _ _ rfl k5 Tryz.underlying179 rfl Tryz.info_found _ rfl) rfl ⟨by rw [<-HQ.out];exact b5,.inr ⟨HN.out,0,none,0,0,0,0,rfl⟩⟩
 | some E=>
  obtain ⟨hr1,hr2⟩:=Qg9 hB;simp only at hr1 hr2
  have hlen:E.length<=10000:=by
   obtain ⟨i,j,z,_,hz,hj⟩:=Qct hB;have:=(hw.zone z (List.mem_of_getElem? hz)).2.2.2 E (List.mem_of_getElem? hj);have:=(Qbd hw.right.2.2.2.2.1).2;omega
  have HR:Hid (∀V,Below W.heap.size W V->Calls prog 90 #[.pointer (some ⟨p,0,none⟩),.agg #[.int .i64 zn,.int .i64 bn]] V λ e w'=>∃a n c,e=.returned (.tuple #[.slice a n c,.int .u16 0])/\Below V.heap.size V w'/\Calls prog 155 #[.slice a n c] w' (Qku w' E)):=λ V hV=>by
   refine (Qg6 zn bn (hd.later hV) hw).mono ?_
   rintro e w' ⟨h,rfl,hk,hb⟩;rw [hr1];rw [hr2] at hk;obtain ⟨a,c,rfl⟩:=Qam hk.1;exact ⟨a,_,c,rfl,hb,Qtz a _ c E w' hk.bin.1 hk.bin.2.1 (Qlg hk.1) (by omega)⟩
  by_cases h0:decE E=0
  ·have hR:recB zs (zn,bn)=some E:=by unfold recB;rw [hB];simp only [h0,if_true]
   have HG:Hid (∀e w' w0,Qku w0 E e w'->∃A n C,e=.returned (.tuple #[.agg #[.int .u64 (decS E),.slice A n C],.int .u16 0])/\ItsIn w' A n (decX E)/\Below w0.heap.size w0 w'/\Qii w0.heap.size A n):=by
    rintro e w' w0 ⟨A,n,C,rfl,h1,h2,h3⟩;rw [h0];exact ⟨A,n,C,rfl,h1,h2,h3⟩
   have HN:=Jh1 hR;obtain ⟨S,hS⟩:∃S,S=decS E:=⟨_,rfl⟩
   rw [<-hS] at HG;have HS:=Jh1 hS;clear hd hw hB hR hr1 hr2 h0 hlen hS;go_enter func95,ntmps95
   go_wp2_with fail
   rw [<-hq] at hV0 ⊢;clear hq;generalize World.alloc (World.alloc W _) _=V at hV0 ⊢;have HV:=Jh1 hV0;clear hV0;go_wp2_with (first
    | (go_at_call 90;refine (HR.out _ (by rw [<-HQ.out];exact HV.out.1)).mono ?_;rintro e w1 ⟨a,n,c,rfl,hb1,hdc⟩)
    | (go_at_call 155;refine hdc.mono ?_;rintro e w2 hgot;obtain ⟨A,m,C,rfl,hi,hb2,hf⟩:=HG.out _ _ _ hgot;clear hgot;have hb3:=hb1.trans (hb2.mono hb1.size);have j1:=(J2 HV).below hb3 (J2 HV).lt;have k1:=(Jz2 HV).below hb3 (Jz2 HV).lt;have a0:∀o,(w2.alloc o).cell? ⟨q,0,none⟩=some (.int .i64 zn):=λ o=>(j1.alloc o).cell 0;have a1:∀o,(w2.alloc o).cell? ⟨q,1,none⟩=some (.int .i64 bn):=λ o=>(j1.alloc o).cell 1;have d0:∀o,(w2.alloc o).cell? ⟨q+1,0,none⟩=some (.int .u64 0):=λ o=>(k1.alloc o).cell 0;have d1:∀o,(w2.alloc o).cell? ⟨q+1,1,none⟩=some (.slice none 0 0):=λ o=>(k1.alloc o).cell 1;have d2:∀o,(w2.alloc o).cell? ⟨q+1,2,none⟩=some (.int .i64 0):=λ o=>(k1.alloc o).cell 2;have d3:∀o,(w2.alloc o).cell? ⟨q+1,3,none⟩=some (.int .i64 0):=λ o=>(k1.alloc o).cell 3;have z0:=λ o=>(k1.alloc o).frozen 0;have z1:=λ o=>(k1.alloc o).frozen 1;have z2:=λ o=>(k1.alloc o).frozen 2;have z3:=λ o=>(k1.alloc o).frozen 3))
   have hqV:q<=V.heap.size:=by have:=(J2 HV).lt;omega
   have ba:=((Below.refl w2.heap.size w2).alloc (Nat.le_refl _) (.cells #[.int .u64 S,.slice A m C] 177))
   have k5:=Qlz (k1.alloc (.cells #[.int .u64 S,.slice A m C] 177)) (.int .u64 S) (.slice A m C) (.int .i64 zn) (.int .i64 bn);have b5:=Qhn ((HV.out.1.trans (hb3.mono hqV)).trans (ba.mono (by have:=hb3.size;omega))) (q:=q+1) (by omega) (.int .u64 S) (.slice A m C) (.int .i64 zn) (.int .i64 bn);have hi5:=Qyu (v0:=S) (n2:=m) (C2:=C) (v2:=zn) (v3:=bn) (hi.below ba) (k1.alloc (.cells #[.int .u64 S,.slice A m C] 177)) A;rw [HS.out] at *;exact bodyPost_ret (Qad (p:=4) (u:=5) (ty:=179) rfl _ _ (q+1) _ _ _ rfl k5 Tryz.underlying179 rfl Tryz.info_found _ rfl) rfl ⟨by rw [<-HQ.out];exact b5,.inl ⟨E,HN.out,A,m,C,rfl,hi5,λ h0 y hy=>by have:=hf h0 y hy;have:=hb1.size;have:=HQ.out;omega⟩⟩
  ·have hR:recB zs (zn,bn)=none:=by unfold recB;rw [hB];simp only [if_neg h0]
   obtain ⟨E1,hE1⟩:∃E1,E1=decE E:=⟨_,rfl⟩
   have hE2:¬E1=0:=by rw [hE1];exact h0
   have HG:Hid (∀e w' w0,Qku w0 E e w'->∃S A n C,e=.returned (.tuple #[.agg #[.int .u64 S,.slice A n C],.int .u16 E1])/\Below w0.heap.size w0 w'):=by
    rintro e w' w0 ⟨A,n,C,rfl,h1,h2,_⟩;rw [hE1];exact ⟨_,A,n,C,rfl,h2⟩
   have HN:=Jh1 hR;clear hd hw hB hR hr1 hr2 h0 hlen hE1;go_enter func95,ntmps95
   go_wp2_with fail
   rw [<-hq] at hV0 ⊢;clear hq;generalize World.alloc (World.alloc W _) _=V at hV0 ⊢;have HV:=Jh1 hV0;clear hV0;go_wp2_with (first
    | (go_at_call 90;refine (HR.out _ (by rw [<-HQ.out];exact HV.out.1)).mono ?_;rintro e w1 ⟨a,n,c,rfl,hb1,hdc⟩)
    | (go_at_call 155;refine hdc.mono ?_;rintro e w2 hgot;obtain ⟨S,A,m,C,rfl,hb2⟩:=HG.out _ _ _ hgot;clear hgot;have hb3:=hb1.trans (hb2.mono hb1.size);have j1:=(J2 HV).below hb3 (J2 HV).lt;have k1:=(Jz2 HV).below hb3 (Jz2 HV).lt;have a0:∀o,(w2.alloc o).cell? ⟨q,0,none⟩=some (.int .i64 zn):=λ o=>(j1.alloc o).cell 0;have a1:∀o,(w2.alloc o).cell? ⟨q,1,none⟩=some (.int .i64 bn):=λ o=>(j1.alloc o).cell 1;have d0:∀o,(w2.alloc o).cell? ⟨q+1,0,none⟩=some (.int .u64 0):=λ o=>(k1.alloc o).cell 0;have d1:∀o,(w2.alloc o).cell? ⟨q+1,1,none⟩=some (.slice none 0 0):=λ o=>(k1.alloc o).cell 1;have d2:∀o,(w2.alloc o).cell? ⟨q+1,2,none⟩=some (.int .i64 0):=λ o=>(k1.alloc o).cell 2;have d3:∀o,(w2.alloc o).cell? ⟨q+1,3,none⟩=some (.int .i64 0):=λ o=>(k1.alloc o).cell 3;have z0:=λ o=>(k1.alloc o).frozen 0;have z1:=λ o=>(k1.alloc o).frozen 1;have z2:=λ o=>(k1.alloc o).frozen 2;have z3:=λ o=>(k1.alloc o).frozen 3))
   have hqV:q<=V.heap.size:=by have:=(J2 HV).lt;omega
   have ba:=((Below.refl w2.heap.size w2).alloc (Nat.le_refl _) (.cells #[.int .u64 S,.slice A m C] 177))
   have k5:=Qlz (k1.alloc (.cells #[.int .u64 S,.slice A m C] 177)) (.int .u64 S) (.slice A m C) (.int .i64 zn) (.int .i64 bn);have b5:=Qhn ((HV.out.1.trans (hb3.mono hqV)).trans (ba.mono (by have:=hb3.size;omega))) (q:=q+1) (by omega) (.int .u64 S) (.slice A m C) (.int .i64 zn) (.int .i64 bn);exact bodyPost_ret (Qad (p:=4) (u:=5) (ty:=179) rfl _ _ (q+1) _ _ _ rfl k5 Tryz.underlying179 rfl Tryz.info_found _ rfl) rfl ⟨by rw [<-HQ.out];exact b5,.inr ⟨HN.out,S,A,m,C,zn,bn,by simp [hE2]⟩⟩
end
end
section
def Q1c (W:World) (zs:List Zn) (z:Int) (X:List It) (i:Nat) (e:Ending) (w':World):Prop:=Below W.heap.size W w'/\((∃j,endM zs z X (i+1)=some (j+1)/\e=.returned (.tuple #[.agg #[.int .i64 z,.int .i64 ((j:Nat)+1)],.bool true]))\/(endM zs z X (i+1)=none/\e=.returned (.tuple #[.agg #[.int .i64 0,.int .i64 0],.bool false])))
section
variable {O:Nat->Prop} {W:World} {p:Nat} {s:Sh} {zs:List Zn}
set_option maxHeartbeats 4000000 in
theorem Q1y (S z:Int) (i:Nat) (A:Option Addr) (n C:Nat) (X:List It) (hd:Dv 98 O W p s zs) (hw:Wf s zs) (hX:ItsIn W A n X) (hi:i<=100000) (hn:n<=100000) :
  Calls prog 96 #[.agg #[.int .u64 S,.slice A n C,.int .i64 z,.int .i64 i],.pointer (some ⟨p,0,none⟩)] W (Q1c W zs z X i):=by
 obtain ⟨q,hq⟩:∃q,q=W.heap.size:=⟨_,rfl⟩
 have hV0:Below q W (((W.alloc (.cells #[.int .u64 S,.slice A n C,.int .i64 z,.int .i64 i] 179)).alloc (.cells #[.int .i64 0,.int .i64 0] 85)).alloc (.cells #[.int .i64 z,.int .i64 i] 85))/\Blk (((W.alloc (.cells #[.int .u64 S,.slice A n C,.int .i64 z,.int .i64 i] 179)).alloc (.cells #[.int .i64 0,.int .i64 0] 85)).alloc (.cells #[.int .i64 z,.int .i64 i] 85)) (q+1) [.int .i64 0,.int .i64 0] 85/\Blk (((W.alloc (.cells #[.int .u64 S,.slice A n C,.int .i64 z,.int .i64 i] 179)).alloc (.cells #[.int .i64 0,.int .i64 0] 85)).alloc (.cells #[.int .i64 z,.int .i64 i] 85)) (q+1+1) [.int .i64 z,.int .i64 i] 85:=
  ⟨(((Below.refl _ _).alloc (by omega) _).alloc (by simp;omega) _).alloc (by simp;omega) _,(Blk.new' (by simp [hq]) rfl).alloc _,Blk.new' (by simp [hq]) rfl⟩
 have HQ:=Jh1 hq;have HR:Hid (∀V bn,Below q W V->Calls prog 90 #[.pointer (some ⟨p,0,none⟩),.agg #[.int .i64 z,.int .i64 bn]] V λ e w'=>∃a n c,e=.returned (.tuple #[.slice a n c,.int .u16 (rdE zs z bn)])/\Below V.heap.size V w'/\BIn w' a n (rdB zs z bn)):=λ V bn hV=>by
  rw [hq] at hV;refine (Qg6 z bn (hd.later hV) hw).mono ?_
  rintro e w' ⟨h,rfl,hk,hb⟩;obtain ⟨a,c,rfl⟩:=Qam hk.1;exact ⟨a,_,c,rfl,hb,hk.bin.1⟩
 have HX:=Jh4 hX hX.1 hi hn;clear hd hw hX hi hn;go_enter func96,ntmps96
 go_wp2_with fail
 rw [<-hq];clear hq;generalize World.alloc (World.alloc (World.alloc W _) _) _=V at hV0 ⊢;have HV:=Jh1 hV0;clear hV0;go_loopw [17] (λ x wr=>∃k j:Nat,x=.int .i64 k/\k<=n/\j<=i+k/\endM zs z X (i+1)=endM zs z (X.drop k) (j+1)/\Below q W wr/\Blk wr (q+1) [.int .i64 0,.int .i64 0] 85/\Blk wr (q+1+1) [.int .i64 z,.int .i64 j] 85) (λ x _=>n - (intOf x).toNat)
 case atStart=>exact ⟨0,i,rfl,Nat.zero_le _,Nat.le_refl _,rfl,HV.out⟩
 case round=>
  obtain ⟨k,j,rfl,hk,hj,he,hb,b1,b2⟩:=hrel;obtain ⟨_,hxl,hi5,hn5⟩:=HX.out;rcases Nat.lt_or_ge k n with hlt | hge
  ·have hk':(k:Int)<n:=by omega
   have hwk:IntKind.i64.wrap ((k:Int)+1)=(k:Int)+1:=by rw [IntKind.wrap_i64];omega
   have hwj:IntKind.i64.wrap ((j:Int)+1)=(j:Int)+1:=by rw [IntKind.wrap_i64];omega
   obtain ⟨x,hx⟩:∃x,X[k]?=some x:=⟨X[k]'(by omega),by simp⟩
   have hits:=HX.out.1.below (by rw [<-HQ.out];exact hb);have hfx:=hits.2.2.1 x (List.mem_of_getElem? hx);obtain ⟨bb,off,rfl,hc⟩:=hits.2.2.2.resolve_left (by omega);obtain ⟨t,u,kd,sm,en⟩:=x;have y0:wr.cell? ⟨bb,off+k*5+0,none⟩=some (.int .u32 t):=hc k _ hx 0 _ rfl;have y1:wr.cell? ⟨bb,off+k*5+1,none⟩=some (.int .u64 u):=hc k _ hx 1 _ rfl;have y2:wr.cell? ⟨bb,off+k*5+2,none⟩=some (.int .u8 kd):=hc k _ hx 2 _ rfl;have y3:wr.cell? ⟨bb,off+k*5+3,none⟩=some (.int .u32 sm):=hc k _ hx 3 _ rfl;have y4:wr.cell? ⟨bb,off+k*5+4,none⟩=some (.int .u16 en):=hc k _ hx 4 _ rfl;simp only [Nat.add_zero] at y0
   have hdr:X.drop k=⟨t,u,kd,sm,en⟩ :: X.drop (k+1):=by
    obtain ⟨h,e⟩:=List.getElem?_eq_some_iff.1 hx;rw [List.drop_eq_getElem_cons h,e]
   have a0:∀o,(wr.alloc o).cell? ⟨q+1+1,0,none⟩=some (.int .i64 z):=λ o=>(b2.alloc o).cell 0
   have a1:∀o,(wr.alloc o).cell? ⟨q+1+1,1,none⟩=some (.int .i64 j):=λ o=>(b2.alloc o).cell 1
   have z1:∀o,(wr.alloc o).frozen? ⟨q+1+1,1,none⟩=false:=λ o=>(b2.alloc o).frozen 1
   have hqw:q<=wr.heap.size:=by have:=b1.lt;omega
   have HK:Hid (endM zs z X (i+1)=endM zs z (⟨t,u,kd,sm,en⟩ :: X.drop (k+1)) (j+1)/\Below q W wr/\Blk wr (q+1) [.int .i64 0,.int .i64 0] 85/\Blk wr (q+1+1) [.int .i64 z,.int .i64 j] 85/\It.Fits ⟨t,u,kd,sm,en⟩):=⟨by rw [he,hdr],hb,b1,b2,hfx⟩
   clear he hb b1 b2 hits hfx hc hx hdr;by_cases hkd:kd=1
   ·have HKd:=Jh1 hkd
    have hne:(kd != 1)=false:=by rw [hkd];rfl
    clear hkd;have HY0:Below q W ((wr.alloc (.cells #[.int .u32 t,.int .u64 u,.int .u8 kd,.int .u32 sm,.int .u16 en] 190)).setCell ⟨q+1+1,1,none⟩ (.int .i64 ((j:Int)+1)))/\Blk ((wr.alloc (.cells #[.int .u32 t,.int .u64 u,.int .u8 kd,.int .u32 sm,.int .u16 en] 190)).setCell ⟨q+1+1,1,none⟩ (.int .i64 ((j:Int)+1))) (q+1) [.int .i64 0,.int .i64 0] 85/\Blk ((wr.alloc (.cells #[.int .u32 t,.int .u64 u,.int .u8 kd,.int .u32 sm,.int .u16 en] 190)).setCell ⟨q+1+1,1,none⟩ (.int .i64 ((j:Int)+1))) (q+1+1) [.int .i64 z,.int .i64 ((j:Int)+1)] 85/\Blk ((wr.alloc (.cells #[.int .u32 t,.int .u64 u,.int .u8 kd,.int .u32 sm,.int .u16 en] 190)).setCell ⟨q+1+1,1,none⟩ (.int .i64 ((j:Int)+1))) wr.heap.size [.int .u32 t,.int .u64 u,.int .u8 kd,.int .u32 sm,.int .u16 en] 190:=
     ⟨((J2 HK).alloc hqw _).setCell (p:=⟨q+1+1,1,none⟩) (by show q<=q+1+1;omega) _,((J3 HK).alloc _).set_other (a:=⟨q+1+1,1,none⟩) (by show q+1≠q+1+1;omega) _,((J4 HK).alloc _).set 1 _,(Blk.new' rfl rfl).set_other (a:=⟨q+1+1,1,none⟩) (by show wr.heap.size≠q+1+1;have:=(J4 HK).lt;omega) _⟩
    go_wp2_with fail
    generalize World.setCell (World.alloc wr _) _ _=Y at HY0 ⊢;obtain ⟨ga,hga⟩:∃ga,ga=wr.heap.size:=⟨_,rfl⟩
    rw [<-hga] at HY0 ⊢;have HY:=Jh1 HY0;clear HY0 hga y0 y1 y2 y3 y4 a0 a1 z1;have hR:=HR.out Y ((j:Int)+1) HY.out.1;refine hR.mono ?_
    rintro e w3 ⟨da,dn,dc,rfl,hb3,hdb⟩;have k1:=(J2 HY).below hb3 (J2 HY).lt;have k2:=(J3 HY).below hb3 (J3 HY).lt;have k3:=(Jz3 HY).below hb3 (Jz3 HY).lt;have hqY:q<=Y.heap.size:=by have:=(J2 HY).lt;omega
    have H3:Hid (Below q W w3/\Blk w3 (q+1) [.int .i64 0,.int .i64 0] 85/\Blk w3 (q+1+1) [.int .i64 z,.int .i64 ((j:Int)+1)] 85/\BIn w3 da dn (rdB zs z ((j:Int)+1))/\q<=w3.heap.size):=⟨HY.out.1.trans (hb3.mono hqY),k1,k2,hdb,by have:=k1.lt;omega⟩
    have g0:w3.cell? ⟨ga,0,none⟩=some (.int .u32 t):=k3.cell 0;have g1:w3.cell? ⟨ga,1,none⟩=some (.int .u64 u):=k3.cell 1;have g2:w3.cell? ⟨ga,2,none⟩=some (.int .u8 kd):=k3.cell 2;have g3:w3.cell? ⟨ga,3,none⟩=some (.int .u32 sm):=k3.cell 3;have g4:w3.cell? ⟨ga,4,none⟩=some (.int .u16 en):=k3.cell 4;have hCk:=Qx0 ⟨t,u,kd,sm,en⟩ da dn dc (rdB zs z ((j:Int)+1)) w3 (Jz4 HK) hdb;have HCk:=Jh1 @hCk;have hcast:((j:Int)+1)=((j+1:Nat):Int):=by omega
    cases hB:blkZ zs (z,(j:Int)+1) with
    | none=>
     have hE:=Qjx hB;simp only at hE
     obtain ⟨E0,hE0⟩:∃E0,E0=rdE zs z ((j:Int)+1):=⟨_,rfl⟩
     rw [<-hE0] at hE ⊢;have hE1:(E0 != 0)=true:=by have:E0≠0:=(by omega);simp [this]
     have HN:Hid (endM zs z X (i+1)=none):=by
      show _=_;rw [HK.out.1];exact Qgi HKd.out (λ b hb=>by rw [<-hcast,hB] at hb;cases hb)
     have c0:w3.cell? ⟨q+1,0,none⟩=some (.int .i64 0):=k1.cell 0;have c1:w3.cell? ⟨q+1,1,none⟩=some (.int .i64 0):=k1.cell 1;have f0:=k1.frozen 0;have f1:=k1.frozen 1;clear hE hE0 hB k1 k2 k3 hb3 hdb hR hCk hcast;go_wp2
     have k5:=((J2 H3).set 0 (.int .i64 0)).set 1 (.int .i64 0);have b5:=(H3.out.1.setCell (p:=⟨q+1,0,none⟩) (by show q<=q+1;omega) (.int .i64 0)).setCell (p:=⟨q+1,1,none⟩) (by show q<=q+1;omega) (.int .i64 0);exact bodyPost_ret (Qad (p:=4) (u:=5) (ty:=85) rfl _ _ (q+1) _ _ _ rfl k5 Tryz.underlying85 rfl Tryz.info_addr _ rfl) rfl ⟨by rw [<-HQ.out];exact b5,.inr ⟨HN.out,rfl⟩⟩
    | some b=>
     obtain ⟨hr1,hr2⟩:=Qg9 hB;simp only at hr1 hr2
     rw [hr1];rw [hr2] at HCk;cases hc:Qb9 ⟨t,u,kd,sm,en⟩ b with
     | true=>
      rw [hc] at HCk;have HN:Hid (endM zs z X (i+1)=endM zs z (X.drop (k+1)) (j+1+1)):=by
       show _=_;rw [HK.out.1];exact Qf9 HKd.out (by rw [<-hcast];exact hB) hc
      clear hB k1 k2 k3 hb3 hdb hR hCk hr1 hr2 hc hcast;go_wp2_with (go_at_call 156;refine HCk.out.mono ?_;rintro e w4 ⟨rfl,hb4⟩)
      exact ⟨⟨k+1,j+1,by simp,by omega,by omega,HN.out,H3.out.1.trans (hb4.mono (Jz4 H3)),(J2 H3).below hb4 (J2 H3).lt,by rw [show ((j+1:Nat):Int)=(j:Int)+1 by omega];exact (J3 H3).below hb4 (J3 H3).lt⟩,by simp [intOf];omega⟩
     | false=>
      rw [hc] at HCk;have HN:Hid (endM zs z X (i+1)=none):=by
       show _=_;rw [HK.out.1];exact Qgi HKd.out (λ b' hb'=>by rw [<-hcast,hB] at hb';cases hb';exact hc)
      clear hB k1 k2 k3 hb3 hdb hR hCk hr1 hr2 hc hcast;go_wp2_with (go_at_call 156;refine HCk.out.mono ?_;rintro e w4 ⟨rfl,hb4⟩;have k1:=(J2 H3).below hb4 (J2 H3).lt;have c0:w4.cell? ⟨q+1,0,none⟩=some (.int .i64 0):=k1.cell 0;have c1:w4.cell? ⟨q+1,1,none⟩=some (.int .i64 0):=k1.cell 1;have f0:=k1.frozen 0;have f1:=k1.frozen 1)
      have k5:=(k1.set 0 (.int .i64 0)).set 1 (.int .i64 0);have b5:=((H3.out.1.trans (hb4.mono (Jz4 H3))).setCell (p:=⟨q+1,0,none⟩) (by show q<=q+1;omega) (.int .i64 0)).setCell (p:=⟨q+1,1,none⟩) (by show q<=q+1;omega) (.int .i64 0);exact bodyPost_ret (Qad (p:=4) (u:=5) (ty:=85) rfl _ _ (q+1) _ _ _ rfl k5 Tryz.underlying85 rfl Tryz.info_addr _ rfl) rfl ⟨by rw [<-HQ.out];exact b5,.inr ⟨HN.out,rfl⟩⟩
   ·have HKd:=Jh1 hkd
    have hne:(kd != 1)=true:=by simp [hkd]
    clear hkd;go_wp2
    exact ⟨⟨k+1,j,by simp,by omega,by omega,by rw [HK.out.1];exact Qik HKd.out,(J2 HK).alloc hqw _,(J3 HK).alloc _,(J4 HK).alloc _⟩,by simp [intOf];omega⟩
  ·obtain rfl:k=n:=by omega
   have hwj:IntKind.i64.wrap ((j:Int)+1)=(j:Int)+1:=by rw [IntKind.wrap_i64];omega
   have a0:wr.cell? ⟨q+1+1,0,none⟩=some (.int .i64 z):=b2.cell 0;have a1:wr.cell? ⟨q+1+1,1,none⟩=some (.int .i64 j):=b2.cell 1;have z1:=b2.frozen 1;have b2':=b2.set 1 (.int .i64 ((j:Int)+1));have b1':=b1.set_other (a:=⟨q+1+1,1,none⟩) (by show q+1≠q+1+1;omega) (.int .i64 ((j:Int)+1));have e0:(wr.setCell ⟨q+1+1,1,none⟩ (.int .i64 ((j:Int)+1))).cell? ⟨q+1+1,0,none⟩=some (.int .i64 z):=b2'.cell 0;have e1:(wr.setCell ⟨q+1+1,1,none⟩ (.int .i64 ((j:Int)+1))).cell? ⟨q+1+1,1,none⟩=some (.int .i64 ((j:Int)+1)):=b2'.cell 1;have c0:(wr.setCell ⟨q+1+1,1,none⟩ (.int .i64 ((j:Int)+1))).cell? ⟨q+1,0,none⟩=some (.int .i64 0):=b1'.cell 0;have c1:(wr.setCell ⟨q+1+1,1,none⟩ (.int .i64 ((j:Int)+1))).cell? ⟨q+1,1,none⟩=some (.int .i64 0):=b1'.cell 1;have f0:=b1'.frozen 0;have f1:=b1'.frozen 1;have HF:Hid (endM zs z X (i+1)=some (j+1)/\Below q W wr/\Blk (wr.setCell ⟨q+1+1,1,none⟩ (.int .i64 ((j:Int)+1))) (q+1) [.int .i64 0,.int .i64 0] 85):=⟨by rw [he,List.drop_eq_nil_of_le (by omega)];rfl,hb,b1'⟩
   clear he hb b1 b2 b1' b2';go_wp2
   have k5:=((Jz2 HF).set 0 (.int .i64 z)).set 1 (.int .i64 ((j:Int)+1));have b5:=(((J2 HF).setCell (p:=⟨q+1+1,1,none⟩) (by show q<=q+1+1;omega) (.int .i64 ((j:Int)+1))).setCell (p:=⟨q+1,0,none⟩) (by show q<=q+1;omega) (.int .i64 z)).setCell (p:=⟨q+1,1,none⟩) (by show q<=q+1;omega) (.int .i64 ((j:Int)+1));exact bodyPost_ret (Qad (p:=4) (u:=5) (ty:=85) rfl _ _ (q+1) _ _ _ rfl k5 Tryz.underlying85 rfl Tryz.info_addr _ rfl) rfl ⟨by rw [<-HQ.out];exact b5,.inl ⟨j,HF.out.1,rfl⟩⟩
end
end
section
def rcC:List (List Int)->List Value->List Value
 | E :: l,v :: vs=>.int .u64 (decS E) :: v :: rcC l vs
 | _,_=>[]
theorem Qma:∀(l:List (List Int)) (vs:List Value) (E:List Int) (v:Value),vs.length=l.length->rcC (l ++ [E]) (vs ++ [v])=rcC l vs ++ [.int .u64 (decS E),v]
 | [],[],E,v,_=>rfl
 | D :: l,u :: vs,E,v,h=>by
  simp only [List.length_cons,Nat.add_right_cancel_iff] at h
  show _ :: _ :: rcC (l ++ [E]) (vs ++ [v])=_;rw [Qma l vs E v h];rfl
 | [],_ :: _,_,_,h=>by simp at h
 | _ :: _,[],_,_,h=>by simp at h
theorem Qjb {w:World} {a:Option Addr} {n:Nat} {X:List It} (h:ItsIn w a n X) (hn:n≠0) {y:Nat} (hy:a.map (·.block)=some y):y<w.heap.size:=by
 obtain ⟨h1,_,_,h4⟩:=h;obtain ⟨b,off,rfl,hc⟩:=h4.resolve_left hn;simp only [Option.map_some,Option.some.injEq] at hy
 subst hy;obtain ⟨x,hx⟩:∃x,X[0]?=some x:=⟨X[0]'(by omega),by simp⟩
 exact Qaa (hc 0 x hx 0 _ rfl)
theorem ItsIn.outO {O:Nat->Prop} {w w':World} {a:Option Addr} {n:Nat} {X:List It} (h:ItsIn w a n X) (ho:Out O w w') (hn:n≠0->∀y,a.map (·.block)=some y->¬O y):ItsIn w' a n X:=by
 obtain ⟨h1,h2,h3,h4⟩:=h;refine ⟨h1,h2,h3,?_⟩
 by_cases h0:n=0
 ·exact .inl h0
 ·obtain ⟨b,off,rfl,hc⟩:=h4.resolve_left h0
  exact .inr ⟨b,off,rfl,λ i x hx j v hv=>ho.cell (hc i x hx j v hv) (hn h0 b rfl)⟩
theorem Tryz.zero_record:(prog.info? 177).map (λ i=>(i.zero,i.size,i.bytes))=some (some (.agg #[.int .u64 0,.slice none 0 0]),2,32):=by kernel_rfl
def RcD (Z:Nat->Prop) (w:World) (l:List (List Int)) (vs:List Value):Prop:=vs.length=l.length/\∀(i:Nat) (E:List Int) (v:Value),l[i]?=some E->vs[i]?=some v->∃a m c,v=.slice a m c/\ItsIn w a m (decX E)/\(m≠0->∀y,a.map (·.block)=some y->Z y)
theorem RcD.out {Z O:Nat->Prop} {w w':World} {l:List (List Int)} {vs:List Value} (h:RcD Z w l vs) (ho:Out O w w') (hZ:∀y,Z y->¬O y):RcD Z w' l vs:=by
 refine ⟨h.1,λ i E v hE hv=>?_⟩
 obtain ⟨a,m,c,rfl,h1,h2⟩:=h.2 i E v hE hv;exact ⟨a,m,c,rfl,h1.outO ho (λ hm y hy=>hZ y (h2 hm y hy)),h2⟩
theorem RcD.wider {Z Z':Nat->Prop} {w:World} {l:List (List Int)} {vs:List Value} (h:RcD Z w l vs) (hZ:∀y,Z y->Z' y):RcD Z' w l vs:=by
 refine ⟨h.1,λ i E v hE hv=>?_⟩
 obtain ⟨a,m,c,rfl,h1,h2⟩:=h.2 i E v hE hv;exact ⟨a,m,c,rfl,h1,λ hm y hy=>hZ y (h2 hm y hy)⟩
theorem RcD.snoc {Z:Nat->Prop} {w:World} {l:List (List Int)} {vs:List Value} {E:List Int} {a:Option Addr} {m c:Nat} (h:RcD Z w l vs) (hi:ItsIn w a m (decX E)) (hz:m≠0->∀y,a.map (·.block)=some y->Z y):RcD Z w (l ++ [E]) (vs ++ [.slice a m c]):=by
 refine ⟨by rw [List.length_append,List.length_append,h.1];rfl,λ i D v hD hv=>?_⟩
 rcases Nat.lt_or_ge i l.length with hlt | hge
 ·rw [List.getElem?_append_left hlt] at hD
  rw [List.getElem?_append_left (by rw [h.1];exact hlt)] at hv;exact h.2 i D v hD hv
 ·rw [List.getElem?_append_right hge] at hD
  rw [List.getElem?_append_right (by rw [h.1];exact hge),h.1] at hv;rcases Nat.eq_zero_or_pos (i - l.length) with e | e
  ·rw [e] at hD hv
   simp only [List.getElem?_cons_zero,Option.some.injEq] at hD hv
   subst hD;subst hv;exact ⟨a,m,c,rfl,hi,hz⟩
  ·rw [List.getElem?_eq_none (by simp;omega)] at hD
   cases hD
structure ScR (q:Nat) (V wr:World) (A:Option Addr) (n C:Nat) (B:Option Addr) (k cB:Nat) (l:List (List Int)) (is:List Int):Prop where
 ln:l.length=n
 li:is.length=k
 rows:∃vs Z,wr.ownsRow 0 177 2 (.slice A n C) n (rcC l vs)/\RcD Z wr l vs/\(∀x,Z x->q<x/\x<wr.heap.size)/\(∀g,(Value.slice A n C).ownBlock=some g->¬Z g)/\(∀g,(Value.slice B k cB).ownBlock=some g->¬Z g)
 ints:wr.ownsRow 0 3 1 (.slice B k cB) k (Qaj .i64 is)
 hA:∀g,(Value.slice A n C).ownBlock=some g->q<=g
 hB:∀g,(Value.slice B k cB).ownBlock=some g->q<=g
 bel:Below q V wr
 qs:q<wr.heap.size
section
variable {q:Nat} {V wr w X:World} {A B:Option Addr} {n C k cB:Nat} {l:List (List Int)} {is:List Int}
theorem ScR.start (V:World) (q:Nat) (hb:Below q V wr) (hw:q<wr.heap.size):ScR q V wr none 0 0 none 0 0 [] []:=⟨rfl,rfl,⟨[],λ _=>False,World.ownsRow_nil _ _ _ _,⟨rfl,by simp⟩,λ _ h=>h.elim,λ _ _ h=>h,λ _ _ h=>h⟩,World.ownsRow_nil _ _ _ _,(λ g h=>by cases h),(λ g h=>by cases h),hb,hw⟩
theorem ScR.outO {O:Nat->Prop} (h:ScR q V wr A n C B k cB l is) (ho:Out O wr X) (hO:∀x,O x->q<=x) (hA:∀g,(Value.slice A n C).ownBlock=some g->¬O g) (hB:∀g,(Value.slice B k cB).ownBlock=some g->¬O g) (hno:∀x,O x->x<=q\/wr.heap.size<=x):ScR q V X A n C B k cB l is:=by
 obtain ⟨h1,h2,⟨vs,Z,r1,r2,r3,r4,r5⟩,h4,h5,h6,h7,h8⟩:=h;have hs:=ho.size;exact ⟨h1,h2,⟨vs,Z,ho.own r1 hA,r2.out ho (λ y hy hO'=>by have:=r3 y hy;have:=hno y hO';omega),λ x hx=>⟨(r3 x hx).1,by have:=(r3 x hx).2;omega⟩,r4,r5⟩,ho.own h4 hB,h5,h6,h7.trans (ho.below (Nat.le_of_lt h8) hO),by omega⟩
theorem ScR.below (h:ScR q V wr A n C B k cB l is) (hb:Below wr.heap.size wr X):ScR q V X A n C B k cB l is:=
 h.outO (O:=Non) (Qab Non hb) (λ _ e=>e.elim) (λ _ _ e=>e) (λ _ _ e=>e) (λ _ e=>e.elim)
theorem ScR.setQ {L:List Value} {t:TypeId} (h:ScR q V w A n C B k cB l is) (hq:Blk w q L t) (h1:t≠177) (h2:t≠3) (i:Nat) (v:Value):ScR q V (w.setCell ⟨q,i,none⟩ v) A n C B k cB l is:=by
 refine h.outO (O:=λ x=>x=q) (Qdg w q i v) (λ x hx=>by omega) (λ g hg e=>?_) (λ g hg e=>?_) (λ x hx=>.inl (by omega))
 ·subst e
  obtain ⟨_,_,⟨vs,Z,q1,_⟩,_⟩:=h;exact Qcp q1 hq h1 hg
 ·subst e
  exact Qcp h.ints hq h2 hg
theorem ScR.ltA (h:ScR q V wr A n C B k cB l is):∀g,(Value.slice A n C).ownBlock=some g->g<wr.heap.size:=λ g hg=>by
 obtain ⟨_,_,⟨vs,Z,q1,_⟩,_⟩:=h;exact (q1.lt g hg).2
theorem ScR.ltB (h:ScR q V wr A n C B k cB l is):∀g,(Value.slice B k cB).ownBlock=some g->g<wr.heap.size:=λ g hg=>(h.ints.lt g hg).2
theorem ScR.one {E:List Int} {a:Option Addr} {m c g1:Nat} (h:ScR q V w A n C B k cB l is) (hi:ItsIn w a m (decX E)) (hf:m≠0->∀y,a.map (·.block)=some y->q<y/\¬(Value.slice A n C).ownBlock=some y/\¬(Value.slice B k cB).ownBlock=some y) (hn:n+1<=100000)
  (hc0:w.cell? ⟨g1,0,none⟩=some (.int .u64 (decS E))) (hc1:w.cell? ⟨g1,1,none⟩=some (.slice a m c)) :
  ∃a9 c9 w9,(Builtin.append_ #[102,102] 102 #[.slice A n C,.slice (some ⟨g1,0,none⟩) 1 1]).run prog w=.ok (.slice a9 (n+1) c9) w9/\(∀g L t,Blk w g L t->t≠177->Blk w9 g L t)/\ScR q V w9 a9 (n+1) c9 B k cB (l ++ [E]) is:=by
 have hltA:=h.ltA;obtain ⟨h1,h2,⟨vs,Z,r1,r2,r3,r4,r5⟩,h4,h5,h6,h7,h8⟩:=h;obtain ⟨v9,w9,e9,o9,g9,b9⟩:=Qde (e:=177) (t:=102) (ty:=102) (size:=2) (bytes:=32) Tryz.underlying102 Tryz.zero_record rfl (by decide) (by decide) r1 ⟨g1,0,none⟩ 1 1 [.int .u64 (decS E),.slice a m c] rfl (by
  intro j u hj;rw [Addr.add_mid,Nat.zero_add];match j,hj with
  | 0,hj=>cases hj;exact hc0
  | 1,hj=>cases hj;exact hc1) (by intro u hu;simp only [List.mem_cons,List.not_mem_nil,or_false] at hu;rcases hu with rfl | rfl <;> rfl) (by omega)
 obtain ⟨a9,c9,rfl⟩:∃a' c',v9=.slice a' (n+1) c':=Qam o9;have ho9:Out (λ j=>(Value.slice A n C).ownBlock=some j) w w9:=(Out.refl (λ j=>(Value.slice A n C).ownBlock=some j) w).grown g9 (λ j hj=>.inl hj);have hs9:=ho9.size;have apartAB:∀g,(Value.slice B k cB).ownBlock=some g->¬(Value.slice A n C).ownBlock=some g:=λ g hg e=>by
  rcases Qbi h4 r1 (by decide) with h | h
  ·rw [h] at hg;cases hg
  ·exact h (hg.trans e.symm)
 have bA:∀g,(Value.slice a9 (n+1) c9).ownBlock=some g->(Value.slice A n C).ownBlock=some g\/w.heap.size<=g:=λ g hg=>by
  rcases b9 with e | e
  ·exact .inl (by rw [<-e];exact hg)
  ·exact .inr (e g hg)
 refine ⟨a9,c9,w9,e9,λ g L t hg ht=>ho9.blk hg (Qcp r1 hg ht),⟨by rw [List.length_append,h1];rfl,h2,⟨vs ++ [.slice a m c],λ x=>Z x\/(m≠0/\a.map (·.block)=some x),?_,?_,?_,?_,?_⟩,ho9.own h4 apartAB,?_,h6,h7.trans (ho9.below (Nat.le_of_lt h8) (λ j hj=>h5 j hj)),by omega⟩⟩
 ·rw [Qma l vs E _ r2.1]
  exact o9
 ·exact RcD.snoc ((r2.out ho9 (λ y hy e=>r4 y e hy)).wider (λ x hx=>.inl hx)) (hi.outO ho9 (λ hm y hy e=>(hf hm y hy).2.1 e)) (λ hm y hy=>.inr ⟨hm,hy⟩)
 ·rintro x (hx | ⟨hm,hx⟩)
  ·have:=r3 x hx;exact ⟨this.1,by omega⟩
  ·have:=Qjb hi hm hx;exact ⟨(hf hm x hx).1,by omega⟩
 ·rintro g hg (hz | ⟨hm,hz⟩)
  ·rcases bA g hg with e | e
   ·exact r4 g e hz
   ·have:=(r3 g hz).2;omega
  ·rcases bA g hg with e | e
   ·exact (hf hm g hz).2.1 e
   ·have:=Qjb hi hm hz;omega
 ·rintro g hg (hz | ⟨hm,hz⟩)
  ·exact r5 g hg hz
  ·exact (hf hm g hz).2.2 hg
 ·intro g hg
  rcases bA g hg with e | e
  ·exact h5 g e
  ·omega
theorem ScR.int {g2:Nat} {iv:Int} (h:ScR q V w A n C B k cB l is) (hn:k+1<=100000) (hc2:w.cell? ⟨g2,0,none⟩=some (.int .i64 iv)) :
  ∃a8 c8 w8,(Builtin.append_ #[103,103] 103 #[.slice B k cB,.slice (some ⟨g2,0,none⟩) 1 1]).run prog w=.ok (.slice a8 (k+1) c8) w8/\(∀g L t,Blk w g L t->t≠3->Blk w8 g L t)/\ScR q V w8 A n C a8 (k+1) c8 l (is ++ [iv]):=by
 obtain ⟨h1,h2,⟨vs,Z,r1,r2,r3,r4,r5⟩,h4,h5,h6,h7,h8⟩:=h;obtain ⟨v8,w8,e8,o8,g8,b8⟩:=Qde (e:=3) (t:=103) (ty:=103) (size:=1) (bytes:=8) Tryz.underlying103 Tryz.zero_int rfl (by decide) (by decide) h4 ⟨g2,0,none⟩ 1 1 [.int .i64 iv] rfl (by
  intro j u hj;rw [Addr.add_mid,Nat.zero_add];match j,hj with
  | 0,hj=>cases hj;exact hc2) (by intro u hu;simp only [List.mem_cons,List.not_mem_nil,or_false] at hu;rw [hu];rfl) (by omega)
 obtain ⟨a8,c8,rfl⟩:∃a' c',v8=.slice a' (k+1) c':=Qam o8;have ho8:Out (λ j=>(Value.slice B k cB).ownBlock=some j) w w8:=(Out.refl (λ j=>(Value.slice B k cB).ownBlock=some j) w).grown g8 (λ j hj=>.inl hj);have hs8:=ho8.size;have apartAB:∀g,(Value.slice A n C).ownBlock=some g->¬(Value.slice B k cB).ownBlock=some g:=λ g hg e=>by
  rcases Qbi r1 h4 (by decide) with h | h
  ·rw [h] at hg;cases hg
  ·exact h (hg.trans e.symm)
 have bB:∀g,(Value.slice a8 (k+1) c8).ownBlock=some g->(Value.slice B k cB).ownBlock=some g\/w.heap.size<=g:=λ g hg=>by
  rcases b8 with e | e
  ·exact .inl (by rw [<-e];exact hg)
  ·exact .inr (e g hg)
 refine ⟨a8,c8,w8,e8,λ g L t hg ht=>ho8.blk hg (Qcp h4 hg ht),⟨h1,by rw [List.length_append,h2];rfl,⟨vs,Z,ho8.own r1 apartAB,r2.out ho8 (λ y hy e=>r5 y e hy),λ x hx=>⟨(r3 x hx).1,by have:=(r3 x hx).2;omega⟩,r4,?_⟩,by simpa [Qaj] using o8,h5,?_,h7.trans (ho8.below (Nat.le_of_lt h8) (λ j hj=>h6 j hj)),by omega⟩⟩
 ·intro g hg hz
  rcases bB g hg with e | e
  ·exact r5 g e hz
  ·have:=(r3 g hz).2;omega
 ·intro g hg
  rcases bB g hg with e | e
  ·exact h6 g e
  ·omega
theorem Qbg (w:World) (o:Obj):Below w.heap.size w (w.alloc o):=(Below.refl _ _).alloc (Nat.le_refl _) o
theorem Ql8 (w:World) (o o':Obj):Below w.heap.size w ((w.alloc o).alloc o'):=(Qbg w o).alloc (Qbg w o).size o'
theorem Qwr (w:World) (o:Obj):(w.drew.alloc o).heap.size=w.heap.size+1:=by simp
theorem Qx7 (w:World) (o:Obj):Below w.drew.heap.size w.drew (w.alloc o).drew:=Qbg w.drew o
theorem Qxj (w:World) (o o':Obj):Below w.drew.heap.size w.drew ((w.alloc o).alloc o').drew:=Ql8 w.drew o o'
theorem Qz5 (w:World) (o o':Obj):Below w.drew.heap.size w.drew ((w.alloc o).drew.alloc o'):=Ql8 w.drew o o'
theorem Qz2 {w0:World} {ops:Array Oper} {o:Oper} {a0:Act} {K:Act->World->Prop} {Q:Exit->Act->World->Prop} {F:Prop} {E:List Int} {a:Option Addr} {m c g1:Nat} (hg:o.guard=none) (s x:Operand)
  (hop:o.op=.call {callee:=.builtin .append,args:=#[s,x],argTypes:=#[102,102]}) (ht:o.type=102) (hs:a0.eval s=.slice A n C) (hx:a0.eval x=.slice (some ⟨g1,0,none⟩) 1 1) (h:ScR q V w0 A n C B k cB l is) (hb:Below w0.heap.size w0 w) (hi:ItsIn w0 a m (decX E)) (hf:m≠0->∀y,a.map (·.block)=some y->q<y/\¬(Value.slice A n C).ownBlock=some y/\¬(Value.slice B k cB).ownBlock=some y) (hn:n+1<=100000)
  (hc0:w.cell? ⟨g1,0,none⟩=some (.int .u64 (decS E))) (hc1:w.cell? ⟨g1,1,none⟩=some (.slice a m c))
  (hK:∀a9 c9 w9,(∀g L t,Blk w0 g L t->t≠177->Blk w9 g L t)->(∀g L t,Blk w g L t->t≠177->Blk w9 g L t)->ScR q V w9 a9 (n+1) c9 B k cB (l ++ [E]) is->K (a0.put o.dst (.slice a9 (n+1) c9)) w9) :
  if Region.wanted o (yielded ops a0.tmps)=true then Oper.wp prog o a0 w K Q else F:=by
 obtain ⟨a9,c9,w9,e9,k9,s9⟩:=(h.below hb).one (hi.below hb) hf hn hc0 hc1;exact Qbf hg s x 102 102 hop _ _ hs hx _ _ (by rw [ht];exact e9) (hK a9 c9 w9 (λ g L t hg ht=>k9 g L t (hg.below hb hg.lt) ht) k9 s9)
theorem Qqo {ops:Array Oper} {o:Oper} {a0:Act} {K:Act->World->Prop} {Q:Exit->Act->World->Prop} {F:Prop} {g2:Nat} {iv:Int} (hg:o.guard=none) (s x:Operand)
  (hop:o.op=.call {callee:=.builtin .append,args:=#[s,x],argTypes:=#[103,103]}) (ht:o.type=103) (hs:a0.eval s=.slice B k cB) (hx:a0.eval x=.slice (some ⟨g2,0,none⟩) 1 1) (h:ScR q V w A n C B k cB l is) (hn:k+1<=100000) (hc2:w.cell? ⟨g2,0,none⟩=some (.int .i64 iv))
  (hK:∀a8 c8 w8,(∀g L t,Blk w g L t->t≠3->Blk w8 g L t)->ScR q V w8 A n C a8 (k+1) c8 l (is ++ [iv])->K (a0.put o.dst (.slice a8 (k+1) c8)) w8) :
  if Region.wanted o (yielded ops a0.tmps)=true then Oper.wp prog o a0 w K Q else F:=by
 obtain ⟨a8,c8,w8,e8,k8,s8⟩:=h.int hn hc2;exact Qbf hg s x 103 103 hop _ _ hs hx _ _ (by rw [ht];exact e8) (hK a8 c8 w8 k8 s8)
end
end
section
theorem Qzw (bs:List Int):(decX bs).length<=bs.length:=by
 unfold decX;split
 ·rename_i h
  have:=h.1.bounds;omega
 ·simp
def elB (zs:List Zn) (z:Int) (i:Nat):List Int:=(recB zs (z,(i:Int))).getD []
def Q2e (W:World) (zs:List Zn) (z:Int) (e:Ending) (w':World):Prop:=∃A C B cB n,e=.returned (.tuple #[.slice A n C,.slice B n cB])/\ScR W.heap.size W w' A n C B n cB ((Qay zs z).map (elB zs z)) ((Qay zs z).map (λ i=>((i:Nat):Int)))
section
variable {O:Nat->Prop} {W:World} {p:Nat} {s:Sh} {zs:List Zn}
theorem Qth (hw:Wf s zs) {z:Int} {i:Nat} {E:List Int} (h:recB zs (z,(i:Int))=some E):E.length<=4096/\i<4096/\(atZ zs z).1.length<=4096:=by
 obtain ⟨i',j,zn,e1,hz,hj⟩:=Qct (Qgc h).1;simp only [Prod.mk.injEq] at e1
 obtain ⟨rfl,e1⟩:=e1;have hzz:=hw.zone zn (List.mem_of_getElem? hz);have h1:=hzz.2.2.2 E (List.mem_of_getElem? hj);have h2:=(Qbd hw.right.2.2.2.2.1).2;have h3:=hw.right.2.2.2.1;have h4:=(List.getElem?_eq_some_iff.1 hj).1;have h5:(atZ zs (i':Int)).1=zn.1:=by
  unfold atZ;rw [if_pos (by omega)];simp [List.getD,hz]
 rw [h5];have h6:=hzz.1;refine ⟨by omega,by omega,by omega⟩
set_option maxHeartbeats 4000000 in
theorem Qqa (z:Int) (hd:Dv 98 O W p s zs) (hw:Wf s zs) :
  Calls prog 44 #[.pointer (some ⟨p,0,none⟩),.int .i64 z] W (Q2e W zs z):=by
 obtain ⟨q,hq⟩:∃q,q=W.heap.size:=⟨_,rfl⟩
 have hV0:Below q W (W.alloc (.cells #[.int .i64 z,.int .i64 0] 85))/\Blk (W.alloc (.cells #[.int .i64 z,.int .i64 0] 85)) q [.int .i64 z,.int .i64 0] 85:=⟨(Below.refl _ _).alloc (by omega) _,Blk.new' hq.symm rfl⟩
 have HQ:=Jh1 hq;have HRd:Hid (∀V bn,Below q W V->Calls prog 95 #[.pointer (some ⟨p,0,none⟩),.agg #[.int .i64 z,.int .i64 bn]] V (Q29 V zs z bn)):=λ V bn hV=>Qx6 z bn (hd.later (by rw [<-hq];exact hV)) hw
 have HEn:Hid (∀V S i A n C X,Below q W V->ItsIn V A n X->i<=100000->n<=100000->Calls prog 96 #[.agg #[.int .u64 S,.slice A n C,.int .i64 z,.int .i64 (i:Nat)],.pointer (some ⟨p,0,none⟩)] V (Q1c V zs z X i)):=λ V S i A n C X hV hX hi hn=>Q1y S z i A n C X (hd.later (by rw [<-hq];exact hV)) hw hX hi hn
 have HW:=Jh1 hw;clear hd hw;go_enter func44,ntmps44
 go_wp2_with fail
 rw [<-hq];clear hq;generalize World.alloc W _=V at hV0 ⊢;have HV:=Jh1 hV0;clear hV0;go_loopw [6,7] (λ u v wr=>∃(l:List Nat) (i n C cB:Nat) (A B:Option Addr),u=.slice A n C/\v=.slice B n cB/\Qpv zs z l i/\ScR q W wr A n C B n cB (l.map (elB zs z)) (l.map (λ i=>((i:Nat):Int)))/\Blk wr q [.int .i64 z,.int .i64 (i:Nat)] 85/\n<=i) (λ _ _ wr=>(atZ zs z).1.length - (match wr.cell? ⟨q,1,none⟩ with | some v=>(intOf v).toNat | none=>0))
 case atStart=>exact ⟨[],0,0,0,0,none,none,rfl,rfl,Qn2 _ _,ScR.start W q HV.out.1 HV.out.2.lt,HV.out.2,Nat.le_refl _⟩
 case round=>
  obtain ⟨l,i,n,C,cB,A,B,rfl,rfl,way,sc,bq,hni⟩:=hrel;have n0:wr.cell? ⟨q,0,none⟩=some (.int .i64 z):=bq.cell 0;have n1:wr.cell? ⟨q,1,none⟩=some (.int .i64 (i:Nat)):=bq.cell 1;have hRd:=HRd.out wr (i:Nat) sc.bel;have HS:=Jh5 way sc bq n1 hni;clear way sc bq hni;go_wp2_with fail
  refine hRd.mono ?_
  clear hRd;rintro e w1 ⟨hb1,⟨E,hE,a,m,c,rfl,hi,hf⟩ | ⟨hN,S,a,m,c,x1,x2,rfl⟩⟩
  ·have hsm:=Qth HW.out hE
   have hwr:=(J2 HS).bel;have hqw:q<wr.heap.size:=(J3 HS).lt;have hml:m<=100000:=by
    have h1:=hi.1;have h2:=Qzw E;omega
   have HY0:Blk (w1.alloc (.cells #[.int .u64 (decS E),.slice a m c,.int .i64 z,.int .i64 (i:Nat)] 179)) w1.heap.size [.int .u64 (decS E),.slice a m c,.int .i64 z,.int .i64 (i:Nat)] 179/\Below wr.heap.size wr (w1.alloc (.cells #[.int .u64 (decS E),.slice a m c,.int .i64 z,.int .i64 (i:Nat)] 179))/\ItsIn (w1.alloc (.cells #[.int .u64 (decS E),.slice a m c,.int .i64 z,.int .i64 (i:Nat)] 179)) a m (decX E):=⟨Blk.new' rfl rfl,hb1.alloc hb1.size _,hi.below ((Below.refl _ _).alloc (Nat.le_refl _) _)⟩
   obtain ⟨S,hS⟩:∃S,S=decS E:=⟨_,rfl⟩
   rw [<-hS] at HY0 ⊢;have HF:=Jh5 hE hf hS hsm.2.1 hml;clear hE hf hS hsm hml hi;go_wp2_with fail
   generalize World.alloc w1 _=V1 at HY0 ⊢;generalize w1.heap.size=f0 at HY0 ⊢;have HY:Hid (Blk V1 f0 [.int .u64 S,.slice a m c,.int .i64 z,.int .i64 (i:Nat)] 179/\Below wr.heap.size wr V1/\ItsIn V1 a m (decX E)/\Below q W V1):=⟨HY0.1,HY0.2.1,HY0.2.2,hwr.trans (HY0.2.1.mono (by omega))⟩
   clear HY0 hb1 n0 n1;refine (HEn.out V1 S i a m c (decX E) (Jz3 HY) (J3 HY) (by have:=(J4 HF);omega) (Jz4 HF)).mono ?_
   rintro e w2 ⟨hb2,⟨j,hj,rfl⟩ | ⟨hN,rfl⟩⟩
   ·have hf0:=HY.out.1.lt
    have hsz1:=(J2 HY).size;have HZ0:Blk (w2.alloc (.cells #[.int .i64 z,.int .i64 ((j:Nat)+1)] 85)) w2.heap.size [.int .i64 z,.int .i64 ((j:Nat)+1)] 85/\Below wr.heap.size wr (w2.alloc (.cells #[.int .i64 z,.int .i64 ((j:Nat)+1)] 85))/\ItsIn (w2.alloc (.cells #[.int .i64 z,.int .i64 ((j:Nat)+1)] 85)) a m (decX E)/\Blk (w2.alloc (.cells #[.int .i64 z,.int .i64 ((j:Nat)+1)] 85)) f0 [.int .u64 S,.slice a m c,.int .i64 z,.int .i64 (i:Nat)] 179:=by
     have ba:=hb2.alloc hb2.size (.cells #[.int .i64 z,.int .i64 ((j:Nat)+1)] 85);exact ⟨Blk.new' rfl rfl,(J2 HY).trans (ba.mono hsz1),(J3 HY).below ba,HY.out.1.below ba hf0⟩
    have d0:(w2.alloc (.cells #[.int .i64 z,.int .i64 ((j:Nat)+1)] 85)).cell? ⟨f0,0,none⟩=some (.int .u64 S):=HZ0.2.2.2.cell 0;have hre:Qbe zs z i=some (j+1):=by
     unfold Qbe;rw [HF.out.1];exact hj
    have HJ:=Jh1 hre;clear hj hre hb2 hf0 hsz1 d0;go_wp2_with fail
    generalize World.alloc w2 _=V3 at HZ0 ⊢;generalize w2.heap.size=e0 at HZ0 ⊢;have HZ:=Jh1 HZ0;clear HZ0;have hn:n+1<=100000:=by have:=(J4 HF);have:=(Jz4 HS);omega
    have hbq:=(J3 HS).below (J2 HZ) (J3 HS).lt;have hv3:=(J2 HZ).size;have bD:Below V3.heap.size V3 V3.drew:=(Below.refl _ _).drew;have hltA:=(J2 HS).ltA;have hltB:=(J2 HS).ltB;have hfr:m≠0->∀y,a.map (·.block)=some y->q<y/\¬(Value.slice A n C).ownBlock=some y/\¬(Value.slice B n cB).ownBlock=some y:=λ hm y hy=>by
     have h1:=(J2 HF) hm y hy;exact ⟨by omega,λ e=>by have:=hltA y e;omega,λ e=>by have:=hltB y e;omega⟩
    have scD:=(J2 HS).below ((J2 HZ).trans (bD.mono hv3));have hES:S=decS E:=(J3 HF)
    have kf:=(Jz3 HZ).below bD (Jz3 HZ).lt;have ke:=HZ.out.1.below bD HZ.out.1.lt;have kq:=hbq.below bD hbq.lt;have s0:V3.drew.cell? ⟨f0,0,none⟩=some (.int .u64 S):=kf.cell 0;have s1:V3.drew.cell? ⟨f0,1,none⟩=some (.slice a m c):=kf.cell 1;have s3:V3.drew.cell? ⟨f0,3,none⟩=some (.int .i64 (i:Nat)):=kf.cell 3;have t0:∀o,(V3.drew.alloc o).cell? ⟨f0,0,none⟩=some (.int .u64 S):=λ o=>(kf.alloc o).cell 0
    have t1:∀o,(V3.drew.alloc o).cell? ⟨f0,1,none⟩=some (.slice a m c):=λ o=>(kf.alloc o).cell 1
    have t3:∀o,(V3.drew.alloc o).cell? ⟨f0,3,none⟩=some (.int .i64 (i:Nat)):=λ o=>(kf.alloc o).cell 3
    have v0:V3.cell? ⟨f0,0,none⟩=some (.int .u64 S):=(Jz3 HZ).cell 0;have v1:V3.cell? ⟨f0,1,none⟩=some (.slice a m c):=(Jz3 HZ).cell 1;have v3:V3.cell? ⟨f0,3,none⟩=some (.int .i64 (i:Nat)):=(Jz3 HZ).cell 3;have x0:∀o,(V3.alloc o).cell? ⟨f0,0,none⟩=some (.int .u64 S):=λ o=>((Jz3 HZ).alloc o).cell 0
    have x1:∀o,(V3.alloc o).cell? ⟨f0,1,none⟩=some (.slice a m c):=λ o=>((Jz3 HZ).alloc o).cell 1
    have x3:∀o,(V3.alloc o).cell? ⟨f0,3,none⟩=some (.int .i64 (i:Nat)):=λ o=>((Jz3 HZ).alloc o).cell 3
    have it3:=(J3 HZ).below bD;have HD:=Jh8 scD it3 hfr hn hES kf ke kq;clear kf ke kq it3 scD hfr hltA hltB hbq hn bD hES hv3;have HT:Hid ((3:TypeId)≠177/\(179:TypeId)≠177/\(85:TypeId)≠177/\(85:TypeId)≠3):=⟨by decide,by decide,by decide,by decide⟩
    have HI:Hid (Blk ((V3.drew.alloc (.cells #[.int .u64 S,.slice a m c] 177)).alloc (.cells #[.int .i64 (i:Nat)] 3)) (V3.heap.size+1) [.int .i64 (i:Nat)] 3/\Blk ((V3.drew.alloc (.cells #[.int .i64 (i:Nat)] 3)).alloc (.cells #[.int .u64 S,.slice a m c] 177)) V3.heap.size [.int .i64 (i:Nat)] 3):=⟨Blk.new' (Qwr _ _) rfl,(Blk.new' rfl rfl).alloc _⟩
    have HR:Hid (Blk (V3.drew.alloc (.cells #[.int .u64 S,.slice a m c] 177)) V3.heap.size [.int .u64 S,.slice a m c] 177/\Blk ((V3.drew.alloc (.cells #[.int .u64 S,.slice a m c] 177)).alloc (.cells #[.int .i64 (i:Nat)] 3)) V3.heap.size [.int .u64 S,.slice a m c] 177/\Blk ((V3.drew.alloc (.cells #[.int .i64 (i:Nat)] 3)).alloc (.cells #[.int .u64 S,.slice a m c] 177)) (V3.heap.size+1) [.int .u64 S,.slice a m c] 177):=⟨Blk.new' rfl rfl,(Blk.new' rfl rfl).alloc _,Blk.new' (Qwr _ _) rfl⟩
    go_region_law (first
     | (refine Qz2 (E:=E) (a:=a) (m:=m) (c:=c) rfl (.tmp 35) (.tmp 38) rfl rfl rfl rfl HD.out.1 ?_ (J2 HD) (J3 HD) (J4 HD) ?_ ?_ ?_
        · first | exact Qbg _ _ | exact Ql8 _ _ _ | exact Qx7 _ _ | exact Qxj _ _ _ | exact Qz5 _ _ _
        · refine Eq.trans ?_ (congrArg (λ x=>some (Value.int .u64 x)) (J5 HD));first | exact HR.out.1.cell 0 | exact (J2 HR).cell 0 | exact (Jz2 HR).cell 0
        · first | exact HR.out.1.cell 1 | exact (J2 HR).cell 1 | exact (Jz2 HR).cell 1
        intro a9 c9 w9 kb9 k9 sc9;have kf9:Blk w9 f0 [.int .u64 S,.slice a m c,.int .i64 z,.int .i64 (i:Nat)] 179:=kb9 _ _ _ (J6 HD) (J2 HT);have ke9:Blk w9 e0 [.int .i64 z,.int .i64 ((j:Nat)+1)] 85:=kb9 _ _ _ (J7 HD) (J3 HT);have kq9:Blk w9 q [.int .i64 z,.int .i64 (i:Nat)] 85:=kb9 _ _ _ (Jz7 HD) (J3 HT);have u9:w9.cell? ⟨f0,3,none⟩=some (.int .i64 (i:Nat)):=kf9.cell 3)
     | (refine Qqo (iv:=((i:Nat):Int)) rfl (.tmp 40) (.tmp 44) rfl rfl rfl rfl sc9 (J4 HD) ?_ ?_
        · first | exact (k9 _ _ _ HI.out.1 HT.out.1).cell 0 | exact (k9 _ _ _ HI.out.2 HT.out.1).cell 0
        intro a8 c8 w8 k8 sc8;have ke8:Blk w8 e0 [.int .i64 z,.int .i64 ((j:Nat)+1)] 85:=k8 _ _ _ ke9 (Jz3 HT);have kq8:Blk w8 q [.int .i64 z,.int .i64 (i:Nat)] 85:=k8 _ _ _ kq9 (Jz3 HT))
     | (refine Qqo (iv:=((i:Nat):Int)) rfl (.tmp 40) (.tmp 44) rfl rfl rfl rfl (sc9.below (Qbg _ _)) (J4 HD) (World.cell?_alloc_mark ..) ?_
        intro a8 c8 w8 k8 sc8;have ke8:Blk w8 e0 [.int .i64 z,.int .i64 ((j:Nat)+1)] 85:=k8 _ _ _ (ke9.alloc _) (Jz3 HT);have kq8:Blk w8 q [.int .i64 z,.int .i64 (i:Nat)] 85:=k8 _ _ _ (kq9.alloc _) (Jz3 HT)))
    all_goals (
     have H8:=Jh2 sc8 kq8;have p0:w8.cell? ⟨e0,0,none⟩=some (.int .i64 z):=ke8.cell 0;have p1:w8.cell? ⟨e0,1,none⟩=some (.int .i64 ((j:Nat)+1)):=ke8.cell 1;have y0:w8.cell? ⟨q,0,none⟩=some (.int .i64 z):=kq8.cell 0;have y1:w8.cell? ⟨q,1,none⟩=some (.int .i64 (i:Nat)):=kq8.cell 1;have z0:=kq8.frozen 0;have z1:=kq8.frozen 1;have H9:Hid (ScR q W ((w8.setCell ⟨q,0,none⟩ (.int .i64 z)).setCell ⟨q,1,none⟩ (.int .i64 ((j:Nat)+1))) a9 (n+1) c9 a8 (n+1) c8 (l.map (elB zs z) ++ [E]) (l.map (λ i=>((i:Nat):Int)) ++ [((i:Nat):Int)])/\Blk ((w8.setCell ⟨q,0,none⟩ (.int .i64 z)).setCell ⟨q,1,none⟩ (.int .i64 ((j:Nat)+1))) q [.int .i64 z,.int .i64 ((j:Nat)+1)] 85):=⟨(sc8.setQ kq8 (J3 HT) (Jz3 HT) 0 _).setQ (kq8.set 0 (.int .i64 z)) (J3 HT) (Jz3 HT) 1 _,(kq8.set 0 (.int .i64 z)).set 1 (.int .i64 ((j:Nat)+1))⟩
     clear sc8 kq8 ke8 sc9 kq9 ke9 kf9 u9 k8 k9 kb9;go_wp2
     have hlt:=Que HS.out.1 HJ.out;have e1:((w8.setCell ⟨q,0,none⟩ (.int .i64 z)).setCell ⟨q,1,none⟩ (.int .i64 ((j:Nat)+1))).cell? ⟨q,1,none⟩=some (.int .i64 ((j:Nat)+1)):=H9.out.2.cell 1;have e2:=(J4 HS)
     have eE:elB zs z i=E:=by
      unfold elB;rw [HF.out.1];rfl
     refine ⟨⟨l ++ [i],j+1,n+1,c9,c8,a9,a8,rfl,rfl,Qq7 HS.out.1 HJ.out,?_,?_,?_⟩,?_⟩
     ·rw [List.map_append,List.map_append]
      simp only [List.map_cons,List.map_nil,eE]
      exact H9.out.1
     ·rw [show ((j+1:Nat):Int)=(j:Int)+1 by omega]
      exact H9.out.2
     ·have:=(Jz4 HS)
      omega
     ·rw [e1,e2]
      simp [intOf]
      omega)
   ·have hre:Qbe zs z i=none:=by
     unfold Qbe;rw [HF.out.1];exact hN
    have HR:=Jh2 (Qhf HS.out.1 hre) ((J2 HS).below ((J2 HY).trans (hb2.mono (J2 HY).size)));clear hN hre hb2;go_wp2
    go_ret2
    refine ⟨A,C,B,cB,n,rfl,?_⟩
    rw [HR.out.1,<-HQ.out];exact HR.out.2.below ((Below.refl _ _).alloc (Nat.le_refl _) _)
  ·have hre:Qbe zs z i=none:=by
    unfold Qbe;rw [hN]
   have HR:=Jh2 (Qhf HS.out.1 hre) ((J2 HS).below hb1);clear hN hre hb1;go_wp2
   go_ret2
   refine ⟨A,C,B,cB,n,rfl,?_⟩
   rw [HR.out.1,<-HQ.out];exact HR.out.2.below ((Below.refl _ _).alloc (Nat.le_refl _) _)
end
end
section
def Qbn (zs:List Zn) (l:List Pl):List Pl:=l.foldl (λ S x=>if (blkZ zs x.2).isSome=true then putS S x else S) []
theorem Qig {zs:List Zn} {l:List Pl} {i:Nat} {x:Pl} (h:l[i]?=some x):Qbn zs (l.take (i+1))=if (blkZ zs x.2).isSome=true then putS (Qbn zs (l.take i)) x else Qbn zs (l.take i):=by
 unfold Qbn;rw [Qao h,List.foldl_append];rfl
section
variable {O:Nat->Prop} {W:World} {p:Nat} {s:Sh} {zs:List Zn}
set_option maxHeartbeats 2000000 in
theorem Qy7 (a:Option Addr) (n c:Nat) (l:List Pl) (hd:Dv 98 O W p s zs) (hw:Wf s zs) (hl:KIn W a n l) (hn:n<=10000) :
  Calls prog 57 #[.pointer (some ⟨p,0,none⟩),.slice a n c] W λ e w'=>∃m b1 b2 k,e=.returned (.pointer (some ⟨m,0,none⟩))/\LmP w' m b1 b2 (Qbn zs l) k/\k<=n/\Below W.heap.size W w'/\W.heap.size<=m/\W.heap.size<=b1/\W.heap.size<=b2:=by
 have hN:=Qpf W;have HR:Hid (∀V (x:Pr),Below W.heap.size W V->Calls prog 90 #[.pointer (some ⟨p,0,none⟩),.agg #[.int .i64 x.1,.int .i64 x.2]] V λ e w'=>∃h,e=.returned (.tuple #[h,.int .u16 (rdE zs x.1 x.2)])/\Below V.heap.size V w'):=λ V x hV=>by
  refine (Qg6 x.1 x.2 (hd.later hV) hw).mono ?_
  rintro e w' ⟨h,rfl,_,hb⟩;exact ⟨h,rfl,hb⟩
 have HL:=Jh3 hl hl.1 hn;clear hd hw hl hn;go_enter func57,ntmps57
 go_wp2_with (go_at_call 122;refine hN.mono ?_;rintro e V ⟨m,b1,b2,rfl,hm,hb,k0,k1,k2⟩)
 have HV:=Jh5 hm hb k0 k1 k2;clear hm hb k0 k1 k2 hN;go_loopw [13] (λ x wr=>∃k j:Nat,x=.int .i64 k/\k<=n/\j<=k/\LmP wr m b1 b2 (Qbn zs (l.take k)) j/\Below W.heap.size W wr) (λ x _=>n - (intOf x).toNat)
 case atStart=>exact ⟨0,0,rfl,Nat.zero_le _,Nat.le_refl _,HV.out.1,(J2 HV)⟩
 case round=>
  obtain ⟨k,j,rfl,hk,hj,hm,hb⟩:=hrel;obtain ⟨_,hln,hn⟩:=HL.out;rcases Nat.lt_or_ge k n with hlt | hge
  ·have hk':(k:Int)<n:=by omega
   have hwk:IntKind.i64.wrap ((k:Int)+1)=(k:Int)+1:=by rw [IntKind.wrap_i64];omega
   obtain ⟨x,bb,off,hx,hfx,rfl,y0,y1,y2,y3⟩:=(HL.out.1.below hb).at4 hlt;have bA:=Qbg wr (.cells #[.int .u32 x.1.1,.int .u64 x.1.2,.int .i64 x.2.1,.int .i64 x.2.2] 137);have HA:Hid (LmP (wr.alloc (.cells #[.int .u32 x.1.1,.int .u64 x.1.2,.int .i64 x.2.1,.int .i64 x.2.2] 137)) m b1 b2 (Qbn zs (l.take k)) j/\Below W.heap.size W (wr.alloc (.cells #[.int .u32 x.1.1,.int .u64 x.1.2,.int .i64 x.2.1,.int .i64 x.2.2] 137))/\Blk (wr.alloc (.cells #[.int .u32 x.1.1,.int .u64 x.1.2,.int .i64 x.2.1,.int .i64 x.2.2] 137)) wr.heap.size [.int .u32 x.1.1,.int .u64 x.1.2,.int .i64 x.2.1,.int .i64 x.2.2] 137/\l[k]?=some x/\Qdu x):=⟨hm.alloc _,hb.trans (bA.mono hb.size),Blk.new' rfl rfl,hx,hfx⟩
   clear hm hb bA hx hfx;go_wp2_with fail
   generalize World.alloc wr _=Y at HA ⊢;generalize wr.heap.size=ga at HA ⊢;refine (HR.out Y x.2 (J2 HA)).mono ?_
   rintro e w1 ⟨h,rfl,hb1⟩;have kg:=(J3 HA).below hb1 (J3 HA).lt;have hm1:=HA.out.1.below hb1;have hbW:=(J2 HA).trans (hb1.mono (J2 HA).size);have g0:w1.cell? ⟨ga,0,none⟩=some (.int .u32 x.1.1):=kg.cell 0;have g1:w1.cell? ⟨ga,1,none⟩=some (.int .u64 x.1.2):=kg.cell 1;have g2:w1.cell? ⟨ga,2,none⟩=some (.int .i64 x.2.1):=kg.cell 2;have g3:w1.cell? ⟨ga,3,none⟩=some (.int .i64 x.2.2):=kg.cell 3;have HP:Hid (Calls prog 123 #[.pointer (some ⟨m,0,none⟩),.agg #[.int .u32 x.1.1,.int .u64 x.1.2,.int .i64 x.2.1,.int .i64 x.2.2]] w1 λ e w'=>e=.returned (.tuple #[])/\LmP w' m b1 b2 (putS (Qbn zs (l.take k)) x) (j+1)/\Below W.heap.size W w'):=by
    refine (Qmg m b1 b2 _ j x w1 hm1 (Jz4 HA) (by omega)).mono ?_
    rintro e w' ⟨rfl,h1,h2⟩;refine ⟨rfl,h1,hbW.trans (h2.below hbW.size (λ y hy=>?_))⟩
    rcases hy with rfl | rfl
    ·exact (J4 HV)
    ·exact (Jz4 HV)
   have HS:=Qig (zs:=zs) (J4 HA);cases hB:blkZ zs x.2 with
   | none=>
    have hE:=Qjx hB;obtain ⟨E0,hE0⟩:∃E0,E0=rdE zs x.2.1 x.2.2:=⟨_,rfl⟩
    rw [<-hE0] at hE ⊢;have hE1:(E0 == 0)=false:=by have:E0≠0:=(by omega);simp [this]
    rw [hB] at HS;have HK:Hid (Qbn zs (l.take (k+1))=Qbn zs (l.take k)/\LmP w1 m b1 b2 (Qbn zs (l.take k)) j/\Below W.heap.size W w1):=⟨by rw [HS];rfl,hm1,hbW⟩
    clear HS hB hE hE0 hm1 hbW kg hb1;go_wp2
    exact ⟨⟨k+1,j,by simp,by omega,by omega,by rw [HK.out.1];exact (J2 HK),(Jz2 HK)⟩,by simp [intOf];omega⟩
   | some E=>
    have hE:=(Qg9 hB).1;rw [hE];rw [hB] at HS;have HK:Hid (Qbn zs (l.take (k+1))=putS (Qbn zs (l.take k)) x):=by show _=_;rw [HS];rfl
    clear HS hB hE hm1 hbW kg hb1;go_wp2_with (go_at_call 123;refine HP.out.mono ?_;rintro e w2 ⟨rfl,hm2,hb2⟩)
    exact ⟨⟨k+1,j+1,by simp,by omega,by omega,by rw [HK.out];exact hm2,hb2⟩,by simp [intOf];omega⟩
  ·obtain rfl:k=n:=by omega
   rw [List.take_of_length_le (by omega)] at hm;have HF:=Jh3 hm hj hb;clear hm hb;go_wp2
   go_ret
   exact ⟨m,b1,b2,j,rfl,HF.out.1,(J2 HF),(Jz2 HF),(Jz2 HV)⟩
end
end
end Go.Proofs.YtcdnjeiamihhbaaGreat
