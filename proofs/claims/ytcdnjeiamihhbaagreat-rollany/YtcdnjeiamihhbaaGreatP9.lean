/- P9 -/
import Derived.Test.YtcdnjeiamihhbaaGreatP8
set_option linter.unusedVariables false
set_option maxRecDepth 4000
open Go.Proofs.Tryz
namespace Go.Proofs.YtcdnjeiamihhbaaGreat
open Go.RowKit Go.Shelf
section
section
variable {O:Nat->Prop} {W:World} {p:Nat} {s:Sh} {zs:List Zn}
theorem Qgo {zs:List Zn} {zn:Int} (h:¬(0<=zn/\zn<=(zs.length:Int) - 1)):zn<0\/(¬zn<0/\(zs.length:Int)<=zn):=by omega
theorem Qt5 (zn:Int) (hd:Dv 101 O W p s zs) :
  Calls prog 97 #[.pointer (some ⟨p,0,none⟩),.int .i64 zn] W λ e w'=>e=.returned (.tuple #[.int .i64 ((atZ zs zn).1.length:Nat),.int .i64 (atZ zs zn).2])/\Below W.heap.size W w':=by
 obtain ⟨g,c,vs,hv⟩:=hd;have c4:=hv.pcell.2.2.2.2;rcases Qcg zs zn with ⟨i,z,rfl,hz,hi,hb⟩ | ⟨hn,hb⟩
 ·rw [Qc0 hz]
  obtain ⟨a,cc,hu,hr,z0,z1⟩:=hv.at hz;have hi':(i:Int)<zs.length:=by omega
  clear hv hr hz hu hb;go_enter func97,ntmps97
  go_wp2
  go_quiet (fail)
  go_wp2
  go_ret2
  exact ⟨rfl,below_drewN _ _⟩
 ·rw [Qvn hn]
  rcases Qgo hn with h | ⟨h1,h2⟩
  ·clear hb hn hv
   go_enter func97,ntmps97
   go_wp2
   go_ret2
   exact ⟨rfl,Below.refl _ _⟩
  ·clear hb hn hv
   go_enter func97,ntmps97
   go_wp2
   go_ret2
   exact ⟨rfl,Below.refl _ _⟩
theorem Qtx (zn:Int) (hd:Dv 101 O W p s zs) :
  Calls prog 176 #[.pointer (some ⟨p,0,none⟩),.int .i64 zn] W λ e w'=>e=.returned (.int .i64 (Qk1 zs zn))/\Step 101 O W p s (Qks zs zn) w':=by
 obtain ⟨g,c,vs,hv⟩:=hd;have c4:=hv.pcell.2.2.2.2;rcases Qcg zs zn with ⟨i,z,rfl,hz,hi,hb⟩ | ⟨hn,hb⟩
 ·rw [Qgb,Qk1,if_pos (by omega)]
  obtain ⟨a,cc,hu,hr,z0,z1⟩:=hv.at hz;have f0:=hv.free (i*2);have f1:=hv.free (i*2+1);have HR:Hid (Step 101 O W p s (zs.set i ([],0)) ((W.setCell ⟨g,i*2,none⟩ (.slice none 0 0)).setCell ⟨g,i*2+1,none⟩ (.int .i64 0))):=hv.reset hz;have hi':(i:Int)<zs.length:=by omega
  clear hv hr hz hu hb;go_enter func176,ntmps176
  go_wp2
  go_ret
  exact ⟨rfl,HR.out⟩
 ·rw [Qkg hn,Qk1,if_neg hn]
  have HD:Hid (Step 101 O W p s zs W):=Qfw ⟨g,c,vs,hv⟩ (Out.refl _ _);rcases Qgo hn with h | ⟨h1,h2⟩
  ·clear hb hn hv
   go_enter func176,ntmps176
   go_wp2
   go_ret
   exact ⟨rfl,HD.out⟩
  ·clear hb hn hv
   go_enter func176,ntmps176
   go_wp2
   go_ret
   exact ⟨rfl,HD.out⟩
set_option maxHeartbeats 2000000 in
theorem Qtv (hd:Dv 101 O W p s zs) :
  Calls prog 178 #[.pointer (some ⟨p,0,none⟩)] W λ e w'=>(∃v,e=.returned v)/\Step 101 O W p s (Qjw zs) w':=by
 obtain ⟨g,c,vs,hv⟩:=hd;have hl:=hv.small;have HV:=Jh1 hv;clear hv;generalize hN:zs.length=N at *;go_enter func178,ntmps178
 go_wp2
 go_loopw [2] (λ x wr=>∃i:Nat,x=.int .i64 i/\i<=N/\DvV 101 O wr p s (upTo (λ _ z=>fl z) zs i) g c vs/\Out O W wr) (λ x wr=>N - (intOf x).toNat)
 case atStart=>exact ⟨0,rfl,Nat.zero_le _,by rw [Qgv];exact HV.out,Out.refl _ _⟩
 case round=>
  obtain ⟨i,rfl,hi,hv,ho⟩:=hrel;have c4':=hv.pcell.2.2.2.2;rw [Qa5,hN] at c4';rcases Nat.lt_or_ge i N with hlt | hge
  ·obtain ⟨z,hz⟩:∃z,zs[i]?=some z:=⟨zs[i]'(by omega),by simp⟩
   obtain ⟨a,cc,hu,hr,z0,z1⟩:=hv.at ((Qcs _ _ _).trans hz);have f1:=hv.free (i*2+1);have HS:Hid (DvV 101 O (wr.setCell ⟨g,i*2+1,none⟩ (.int .i64 (z.1.length:Nat))) p s (upTo (λ _ z=>fl z) zs (i+1)) g c vs/\Out O W (wr.setCell ⟨g,i*2+1,none⟩ (.int .i64 (z.1.length:Nat)))):=by
    refine ⟨?_,ho.setCell (p:=⟨g,i*2+1,none⟩) (.inl hv.og) _⟩
    have:=hv.setD ((Qcs _ _ _).trans hz) (z.1.length:Nat);rw [<-Qem _ _ hz];exact this
   have hi':(i:Int)<(N:Int):=by omega
   have hw:IntKind.i64.wrap ((i:Int)+1)=(i:Int)+1:=by rw [IntKind.wrap_i64];omega
   have k4:=HS.out.1.pcell.2.2.2.2;rw [Qa5,hN] at k4;have k0:(wr.setCell ⟨g,i*2+1,none⟩ (.int .i64 (z.1.length:Nat))).cell? ⟨g,i*2,none⟩=some (.slice a z.1.length cc):=by
    rw [World.cell?_setCell_other _ _ _ _ (by intro e;injection e with _ e;omega)];exact z0
   clear hv ho hr hu;go_wp2
   go_region_held3 (λ w'=>w'.cell? ⟨p,4,none⟩=some (.slice (some ⟨g,0,none⟩) N c)/\w'.cell? ⟨g,i*2,none⟩=some (.slice a z.1.length cc)) (first | exact ⟨c4',z0⟩ | exact ⟨k4,k0⟩) (fail)
   clear z0 z1 c4' k4 k0;generalize World.setCell _ _ _=V at HS ⊢;go_wp2
   go_roundw
   case rel=>exact ⟨i+1,by simp,by omega,HS.out.1.under (Below.refl _ _).drew,HS.out.2.drew⟩
   case measure=>simp [intOf];omega
  ·obtain rfl:i=N:=by omega
   have HS:=Jh2 hv ho;clear hv ho;go_wp2
   go_end0
   refine ⟨⟨_,rfl⟩,Qfw ⟨g,c,vs,?_⟩ HS.out.2⟩
   have:=HS.out.1;rw [Qid _ _ (by omega)] at this;exact this
end
end
def Qv2 (w:World) (D:List Int) (e:Ending) (w':World):Prop:=
 ∃h,e=.returned h/\BkAt (λ k=>w.heap.size<=k) w' h D/\Below w.heap.size w w'
theorem Qyh {w w':World} {a a':Option Addr} {n c':Nat} {D:List Int} (hb:BIn w a n D) (hn:n<=1000000) (ow:w'.ownsRow w.heap.size 5 1 (.slice a' n c') n (u8s D)) (bl:Below w.heap.size w w'):Qv2 w D (.returned (.slice a' n c')) w':=by
 refine ⟨_,rfl,⟨?_,λ k hk=>(ow.lt k hk).1,hb.2.2.1,by rw [hb.1];exact hn⟩,bl⟩
 rw [hb.1];exact Qbh ow
theorem Qlv (a:Option Addr) (n c:Nat) (D:List Int) (w:World) (hb:BIn w a n D) (hnil:a=none->n=0/\c=0) (hn:n<=1000000) :
  Calls prog 94 #[.slice a n c] w (Qv2 w D):=by
 have hl:=hb.1;have H:=Jh4 hb hnil hn hl;clear hb hnil hn hl;go_enter func94,ntmps94
 go_wp2_with (at_builtin;refine Qak rfl (.tmp 4) (.tmp 5) rfl w.heap.size none 0 0 [] rfl (World.ownsRow_nil _ _ _ _) a n c D rfl H.out.1 (J2 H) (by have:=(J3 H);omega) (Nat.le_refl _) ?_;intro a' c' w' ow bl)
 go_ret
 exact Qyh H.out.1 (J3 H) (by simpa using ow) bl
set_option maxHeartbeats 1000000 in
theorem Ql4 (a:Option Addr) (n c:Nat) (b:Option Addr) (m d:Nat) (Ds:List (List Int)) (w:World) (hx:BsIn w a n Ds) (hy:BsIn w b m Ds) :
  Calls prog 65 #[.slice a n c,.slice b m d] w λ e w'=>e=.returned (.bool true)/\∃k,w'=w.drewN k:=by
 have hnm:n=m:=by rw [<-hx.1,<-hy.1]
 subst hnm;have hn:n<=100000:=hx.2.1;have H:=Jh2 hx hy;clear hx hy;go_enter func65,ntmps65
 go_wp2
 go_loopw [5] (λ i wr=>∃(k d:Nat),k<=n/\i=.int .i64 k/\wr=w.drewN d)
  (λ i _=>n - (intOf i).toNat)
 case atStart=>exact ⟨0,0,by omega,rfl,rfl⟩
 case round=>
  obtain ⟨k,d,hk,rfl,rfl⟩:=hrel;by_cases hlt:k<n
  ·have hlt':(k:Int)<n:=by omega
   obtain ⟨b1,o1,rfl,hc1⟩:=H.out.1.2.2.resolve_left (by omega);obtain ⟨b2,o2,rfl,hc2⟩:=(Jz3 H).resolve_left (by omega);have hkl:k<Ds.length:=by rw [H.out.1.1];exact hlt
   obtain ⟨v1,c1,A1,L1,C1,rfl,s1,_⟩:=hc1 k Ds[k] (List.getElem?_eq_getElem hkl);obtain ⟨v2,c2,A2,L2,C2,rfl,s2,_⟩:=hc2 k Ds[k] (List.getElem?_eq_getElem hkl);have h1:=λ j=>Qh0 (w.drewN j) A1 L1 C1 Ds[k] s1
   have h2:=λ j=>Qh0 (w.drewN j) A2 L2 C2 Ds[k] s2
   obtain ⟨S,eS⟩:∃S,S=strOfNums Ds[k]:=⟨_,rfl⟩
   simp only [<-eS] at h1 h2
   clear hc1 hc2 eS s1 s2 hkl;go_wp2
   go_quiet (fail)
   go_wp2
   go_roundw
   case rel=>exact ⟨k+1,_,by omega,by go_num,rfl⟩
   case measure=>simp [intOf];omega
  ·have hge:(n:Int)<=k:=by omega
   go_wp2
   go_ret
   exact ⟨rfl,d,rfl⟩
def ZsIn (W:World) (a:Option Addr) (n:Nat) (zs:List Zn):Prop:=
 zs.length=n/\n<=1000/\(n=0\/∃b off,a=some ⟨b,off,none⟩/\∀(i:Nat) (z:Zn),zs[i]?=some z->∃A L C,W.cell? ⟨b,off+i*2,none⟩=some (.slice A L C)/\W.cell? ⟨b,off+i*2+1,none⟩=some (.int .i64 z.2)/\BsIn W A L z.1)
theorem ZsIn.below {w w':World} {a:Option Addr} {n:Nat} {zs:List Zn} (h:ZsIn w a n zs) (hb:Below w.heap.size w w'):ZsIn w' a n zs:=by
 obtain ⟨h1,h2,h3⟩:=h;refine ⟨h1,h2,?_⟩
 rcases h3 with h3 | ⟨b,off,ha,hc⟩
 ·exact .inl h3
 ·refine .inr ⟨b,off,ha,λ i z hi=>?_⟩
  obtain ⟨A,L,C,h4,h5,h6⟩:=hc i z hi;exact ⟨A,L,C,by rw [hb.cell (Qaa h4)];exact h4,by rw [hb.cell (Qaa h5)];exact h5,h6.below hb⟩
def Qv6 (zs:List Zn):Prop:=∀z∈zs,Qtq z.1
theorem ZsAt.zsin {O:Nat->Prop} {W:World} {a:Option Addr} {n c:Nat} {zs:List Zn} (h:ZsAt O W (.slice a n c) zs) (hs:Qv6 zs):ZsIn W a n zs:=by
 obtain ⟨vs,h1,h2,h3,h4,h5,h6⟩:=h;have hn:n=zs.length:=(Qev h1).2;refine ⟨hn.symm,by omega,?_⟩
 rcases h1.2 with ⟨hv,hz⟩ | ⟨g,cap,cur,hv,hb,hg,hc,hcm,hsz,htake⟩
 ·exact .inl (by omega)
 ·cases hv
  refine .inr ⟨g,0,rfl,λ i z hi=>?_⟩
  have hlt:=(List.getElem?_eq_some_iff.1 hi).1;obtain ⟨u,hu⟩:∃v,vs[i]?=some v:=⟨vs[i]'(by rw [h3];exact hlt),by simp [h3,hlt]⟩
  have hr:=h4 i u z hu hi;obtain ⟨A,C,rfl⟩:=hr.slice;obtain ⟨g1,g2⟩:=Qd1 vs zs i _ z hu hi;have hl:=Qcl vs zs h3;refine ⟨A,z.1.length,C,?_,?_,hr.bsin (hs z (List.mem_of_getElem? hi))⟩
  ·rw [Nat.zero_add,Nat.mul_comm,h1.cellAt _ (by omega)];exact g1
  ·rw [Nat.zero_add,Nat.mul_comm,h1.cellAt _ (by omega)];exact g2
set_option maxHeartbeats 1000000 in
theorem Qn7 (a:Option Addr) (n c:Nat) (b:Option Addr) (m d:Nat) (zs:List Zn) (w:World) (hx:ZsIn w a n zs) (hy:ZsIn w b m zs) :
  Calls prog 173 #[.slice a n c,.slice b m d] w λ e w'=>e=.returned (.bool true)/\∃k,w'=w.drewN k:=by
 have hnm:n=m:=by rw [<-hx.1,<-hy.1]
 subst hnm;have hn:n<=1000:=hx.2.1;have H:=Jh2 hx hy;clear hx hy;go_enter func173,ntmps173
 go_wp2
 go_loopw [5] (λ i wr=>∃(k d:Nat),k<=n/\i=.int .i64 k/\wr=w.drewN d)
  (λ i _=>n - (intOf i).toNat)
 case atStart=>exact ⟨0,0,by omega,rfl,rfl⟩
 case round=>
  obtain ⟨k,d,hk,rfl,rfl⟩:=hrel;by_cases hlt:k<n
  ·have hlt':(k:Int)<n:=by omega
   obtain ⟨b1,o1,rfl,hc1⟩:=H.out.1.2.2.resolve_left (by omega);obtain ⟨b2,o2,rfl,hc2⟩:=(Jz3 H).resolve_left (by omega);have hkl:k<zs.length:=by rw [H.out.1.1];exact hlt
   obtain ⟨A1,L1,C1,c1,e1,s1⟩:=hc1 k zs[k] (List.getElem?_eq_getElem hkl);obtain ⟨A2,L2,C2,c2,e2,s2⟩:=hc2 k zs[k] (List.getElem?_eq_getElem hkl);have HC:Hid (∀V,Below w.heap.size w V->Calls prog 65 #[.slice A1 L1 C1,.slice A2 L2 C2] V λ e w'=>e=.returned (.bool true)/\∃k,w'=V.drewN k):=λ V hV=>Ql4 A1 L1 C1 A2 L2 C2 zs[k].1 V (s1.below hV) (s2.below hV)
   obtain ⟨D,eD⟩:∃D,D=zs[k].2:=⟨_,rfl⟩
   rw [<-eD] at e1 e2;clear hc1 hc2 eD s1 s2 hkl;go_wp2
   go_region_held3 (λ w'=>w'.cell? ⟨b1,o1+k*2,none⟩=some (.slice A1 L1 C1)/\w'.cell? ⟨b2,o2+k*2,none⟩=some (.slice A2 L2 C2)) (exact ⟨c1,c2⟩) ((go_at_call 65;refine (HC.out _ (by exact ⟨rfl,rfl,rfl,Nat.le_refl _,λ _ _=>rfl⟩)).mono ?_;rintro e w' ⟨rfl,k2,rfl⟩))
   go_wp2
   go_quiet (fail)
   go_wp2
   go_roundw
   case rel=>exact ⟨k+1,_,by omega,by go_num,rfl⟩
   case measure=>simp [intOf];omega
  ·have hge:(n:Int)<=k:=by omega
   go_wp2
   go_ret
   exact ⟨rfl,d,rfl⟩
section
theorem Qad {P:Program} {fn:Func} {p u:Tmp} {ty:TypeId} (h:fn.results=#[.cell p ty,.tmp u]) (tmps:Array Value) (w:World) (g:Nat) (L:List Value) (t:TypeId) (d:TypeDesc) (hp:tmps.getD p undef=.pointer (some ⟨g,0,none⟩))
  (hb:Blk w g L t) (hu:P.underlying ty=some d) (hd:d.isRow=true) (hi:(P.info? ty).map (·.size)=some L.length) (x:Value) (hx:tmps.getD u undef=x):(results fn tmps).run P w=.ok (.tuple #[.agg L.toArray,x]) w:=by
 subst hx;have hl:=run_loadVar_row (P:=P) w g t ty L.toArray (0,0) d hb hu (by cases d <;> first | rfl | cases hd) (by simpa using hi);rw [results_cell_tmp h,hp];simp [asAddr,hl,Result.andThen]
set_option maxHeartbeats 1000000 in
theorem Tryz.info_addr:(prog.info? 85).map (·.size)=some 2:=by kernel_rfl
theorem Qr8 {W:World} {a:Option Addr} {n c:Nat} {D:List Int} (hb:BIn W a n D) (hnil:a=none->n=0/\c=0) (hn:n<=1000000) :
  ∃a' c' w',(Builtin.append_ #[71,71] 71 #[.slice none 0 0,.slice a n c]).run prog W=.ok (.slice a' n c') w'/\BkAt (λ k=>W.heap.size<=k) w' (.slice a' n c') D/\Below W.heap.size W w':=by
 obtain ⟨i0,hi,hz0,hz1,hz2⟩:=info_parts Tryz.zero_u8;obtain ⟨hl,hm,hfit,hcell⟩:=id hb;cases a with
 | none=>
  obtain ⟨rfl,rfl⟩:=hnil rfl;obtain rfl:D=[]:=List.length_eq_zero_iff.1 hl;exact ⟨none,0,W,run_append_owned_none (P:=prog) W W.heap.size 71 71 5 i0 1 Tryz.underlying71 hi _ 0 [] (World.ownsRow_nil _ _ _ _),⟨World.ownsRow_nil _ _ _ _,(λ c h=>by cases h),by simp,by simp⟩,Below.refl _ _⟩
 | some ad=>
  obtain ⟨v',w',h2,h3,h4,_⟩:=run_append_own (P:=prog) W W.heap.size 71 71 5 i0 (.int .u8 0) 1 1 Tryz.underlying71 hi hz0 hz1 hz2 rfl (by decide) _ 0 [] (World.ownsRow_nil _ _ _ _) ad n c (u8s D) (by rw [Qah,hl];omega) (by
   intro j u hj;have hjl:j<n:=by have:=(List.getElem?_eq_some_iff.1 hj).1;rwa [Qah,hl] at this
   rcases hcell with hc | ⟨b,off,ha,hc⟩
   ·omega
   ·cases ha
    rw [Addr.add_mid,hc j hjl,<-hj];simp [u8s,List.getD,hl,hjl]) (Qhl _) (by unfold maxLen;omega) (by omega) (Nat.le_refl _)
  have h3':w'.ownsRow W.heap.size 5 1 v' n (u8s D):=by simpa using h3
  obtain ⟨a',c',rfl⟩:=Qam h3';exact ⟨a',c',w',h2,⟨by rw [hl];exact Qbh h3',λ k hk=>(h3'.lt k hk).1,hfit,by omega⟩,(Below.refl _ _).grown h4 (Nat.le_refl _) (λ k e=>by cases e)⟩
def Qdn (s:Sh) (zs:List Zn) (zn:Int) (D:List Int):Prop:=0<=zn/\zn<=(zs.length:Int) - 1/\(D.length:Int)=s.b
instance (s:Sh) (zs:List Zn) (zn:Int) (D:List Int):Decidable (Qdn s zs zn D):=by unfold Qdn;infer_instance
def Qbc (s:Sh) (zs:List Zn) (zn:Int):Prop:=s.zb<=((atZ zs zn).1.length:Int)
instance (s:Sh) (zs:List Zn) (zn:Int):Decidable (Qbc s zs zn):=by unfold Qbc;infer_instance
def appE (s:Sh) (zs:List Zn) (zn:Int) (D:List Int):Int:=if Qdn s zs zn D then (if Qbc s zs zn then 101 else 0) else 100
def appA (s:Sh) (zs:List Zn) (zn:Int) (D:List Int):Int × Int:=if Qdn s zs zn D then (if Qbc s zs zn then (0,0) else (zn,(atZ zs zn).1.length)) else (0,0)
def appZ (s:Sh) (zs:List Zn) (zn:Int) (D:List Int):List Zn:=if Qdn s zs zn D then (if Qbc s zs zn then zs else zs.set zn.toNat ((atZ zs zn).1 ++ [D],(atZ zs zn).2)) else zs
section
variable {O:Nat->Prop} {W:World} {p:Nat} {s:Sh} {zs:List Zn}
def Qny (T:TypeId) (k:IntKind) (O:Nat->Prop) (W:World) (p:Nat) (s:Sh) (zs:List Zn) (zn:Int) (D:List Int) (e:Ending) (w':World):Prop:=
 e=.returned (.tuple #[.agg #[.int .i64 (appA s zs zn D).1,.int .i64 (appA s zs zn D).2],.int k (appE s zs zn D)])/\Step T O W p s (appZ s zs zn D) w'
theorem Qg3 {T:TypeId} {k:IntKind} {zn:Int} {D:List Int} {q:Nat} {W1:World} (h:¬Qdn s zs zn D) (hd:Dv T O W p s zs) (hb:Below W.heap.size W W1):Qny T k O W p s zs zn D (.returned (.tuple #[.agg #[.int .i64 0,.int .i64 0],.int k 100])) W1:=by
 obtain ⟨g,c,vs,hv⟩:=hd;unfold Qny appA appE appZ;rw [if_neg h,if_neg h,if_neg h];exact ⟨rfl,Qfw ⟨g,c,vs,hv.under hb⟩ (Qab _ hb)⟩
theorem Qkf {T:TypeId} {k:IntKind} {zn:Int} {D:List Int} {q:Nat} {W1:World} (h:Qdn s zs zn D) (hf:Qbc s zs zn) (hd:Dv T O W p s zs) (hb:Below W.heap.size W W1):Qny T k O W p s zs zn D (.returned (.tuple #[.agg #[.int .i64 0,.int .i64 0],.int k 101])) W1:=by
 obtain ⟨g,c,vs,hv⟩:=hd;unfold Qny appA appE appZ;rw [if_pos h,if_pos hf,if_pos h,if_pos hf,if_pos h,if_pos hf];exact ⟨rfl,Qfw ⟨g,c,vs,hv.under hb⟩ (Qab _ hb)⟩
theorem DvV.cell {T:TypeId} {g c:Nat} {vs:List Value} {q:Nat} {L:List Value} {t:TypeId} (h:DvV T O W p s zs g c vs) (hq:Blk W q L t) (h1:t≠T) (h2:t≠91) (h3:t≠71) (h4:t≠5) (i:Nat) (v:Value):DvV T O (W.setCell ⟨q,i,none⟩ v) p s zs g c vs:=by
 obtain ⟨L',hL⟩:=Qdv h.hg;exact ⟨h.hp.set_other (Qbq h.hp hq (λ e=>h1 e.symm)) _,(Qc1 W q i v).own h.hg (λ r e e'=>by cases e;subst e';exact Qbq hq hL h2 rfl),h.op,h.og,h.vl,λ j u z e1 e2=>Qdh hq h3 h4 i v (h.rows j u z e1 e2),h.ap,h.small,h.ty⟩
theorem Qrg {T:TypeId} {k:IntKind} {i:Nat} {z:Zn} {D:List Int} {q:Nat} {W1 V:World} {g cz:Nat} (h:Qdn s zs (i:Int) D) (hf:¬Qbc s zs (i:Int)) (hz:zs[i]?=some z) (hb:Below q W W1) (hq:q=W.heap.size)
  (hd:∃vs',DvV T (λ x=>O x\/W1.heap.size<=x) V p s (zs.set i (z.1 ++ [D],z.2)) g cz vs') (ho:Out O W1 V) (ha:Blk V q [.int .i64 0,.int .i64 0] 85) (hT:T≠85:=by decide) :
  Qny T k O W p s zs (i:Int) D (.returned (.tuple #[.agg #[.int .i64 i,.int .i64 (z.1.length:Nat)],.int k 0])) ((V.setCell ⟨q,0,none⟩ (.int .i64 i)).setCell ⟨q,1,none⟩ (.int .i64 (z.1.length:Nat))):=by
 unfold Qny appA appE appZ;rw [if_pos h,if_neg hf,if_pos h,if_neg hf,if_pos h,if_neg hf,Qc0 hz];refine ⟨rfl,?_⟩
 obtain ⟨vs',hv⟩:=hd;have h1:=hv.cell ha (λ e=>hT e.symm) (by decide) (by decide) (by decide) 0 (.int .i64 i);have h2:=h1.cell (ha.set 0 _) (λ e=>hT e.symm) (by decide) (by decide) (by decide) 1 (.int .i64 (z.1.length:Nat));subst hq;have hoW:Out O W V:=(Qab O hb).trans ho (λ x e=>.inl e);have hoF:Out O W ((V.setCell ⟨W.heap.size,0,none⟩ (.int .i64 i)).setCell ⟨W.heap.size,1,none⟩ (.int .i64 (z.1.length:Nat))):=(hoW.setCell (p:=⟨W.heap.size,0,none⟩) (.inr (Nat.le_refl _)) _).setCell (p:=⟨W.heap.size,1,none⟩) (.inr (Nat.le_refl _)) _;refine ⟨⟨g,cz,vs',?_⟩,hoF⟩
 rw [Int.toNat_natCast];exact h2.mono (λ x hx hlt=>by
  rcases hx with hx | hx
  ·exact .inl hx
  ·exact .inr ⟨by have:=hb.size;omega,hlt⟩)
theorem Qrq {W:World} {q:Nat} (hq:q=W.heap.size):Blk (W.alloc (.cells #[.int .i64 0,.int .i64 0] 85)) q [.int .i64 0,.int .i64 0] 85/\Below q W (W.alloc (.cells #[.int .i64 0,.int .i64 0] 85)):=⟨Blk.new' hq.symm rfl,(Below.refl _ _).alloc (by omega) _⟩
structure AppM (T:TypeId) (O:Nat->Prop) (W1:World) (p:Nat) (s:Sh) (zs:List Zn) (g cz i:Nat) (z:Zn) (ua:Option Addr) (uc:Nat) (a:Option Addr) (n c:Nat) (D:List Int) (a':Option Addr) (c':Nat) (w2:World) (a3:Option Addr) (c3:Nat) (w3:World):Prop where
 run1:(Builtin.append_ #[71,71] 71 #[.slice none 0 0,.slice a n c]).run prog W1.drew=.ok (.slice a' n c') w2
 run2:(Builtin.append_ #[74,74] 74 #[.slice ua z.1.length uc,.slice (some ⟨w2.heap.size,0,none⟩) 1 1]).run prog (w2.alloc (.cells #[.slice a' n c'] 71))=.ok (.slice a3 (z.1.length+1) c3) w3
 c2:w2.cell? ⟨g,i*2,none⟩=some (.slice ua z.1.length uc)
 c2a:(w2.alloc (.cells #[.slice a' n c'] 71)).cell? ⟨g,i*2,none⟩=some (.slice ua z.1.length uc)
 c3':w3.cell? ⟨g,i*2,none⟩=some (.slice ua z.1.length uc)
 fz:w3.frozen? ⟨g,i*2,none⟩=false
 dev:∃vs',DvV T (λ x=>O x\/W1.heap.size<=x) (w3.setCell ⟨g,i*2,none⟩ (.slice a3 (z.1.length+1) c3)) p s (zs.set i (z.1 ++ [D],z.2)) g cz vs'
 out:Out O W1 (w3.setCell ⟨g,i*2,none⟩ (.slice a3 (z.1.length+1) c3))
 blk:∀{q:Nat} {L:List Value} {t:TypeId},Blk W1 q L t->t≠71->t≠91->Blk (w3.setCell ⟨g,i*2,none⟩ (.slice a3 (z.1.length+1) c3)) q L t
theorem Q1o {T:TypeId} {g cz:Nat} {vs:List Value} {i:Nat} {z:Zn} {ua:Option Addr} {uc:Nat} {a:Option Addr} {n c:Nat} {D:List Int} (hv:DvV T O W p s zs g cz vs) (hz:zs[i]?=some z) (hu:vs[i]?=some (.slice ua z.1.length uc)) (hb:BIn W a n D) (hnil:a=none->n=0/\c=0) (hn:n<=100000) (hl:z.1.length+1<=100000) :
  ∃a' c' w2 a3 c3 w3,AppM T O W p s zs g cz i z ua uc a n c D a' c' w2 a3 c3 w3:=by
 have hbd:Below W.heap.size W W.drew:=(Below.refl _ _).drew;obtain ⟨a',c',w2,r1,bk,bl⟩:=Qr8 (W:=W.drew) (hb.below hbd) hnil (by omega:n<=1000000);have bl':Below W.heap.size W w2:=hbd.trans bl;have hv2:=hv.under bl';have hO:∀x,W.heap.size<=x->(λ x=>O x\/W.heap.size<=x) x:=λ x h=>.inr h
 have row2:=(hv2.rows i _ z hu hz).mono (O':=λ x=>O x\/W.heap.size<=x) (λ x h _=>.inl h);have bk2:=bk.mono (O':=λ x=>O x\/W.heap.size<=x) (λ x h _=>.inr h);obtain ⟨a3,c3,w3,r2,row3,hg3,hf3⟩:=Qep row2 bk2 rfl hl (λ k hk=>.inr (by have:=bl'.size;omega));obtain ⟨uv,u1,u2,_⟩:=hv2.rows i _ z hu hz;have ho23:Out (λ x=>(Value.slice ua z.1.length uc).ownBlock=some x) w2 w3:=((Out.refl _ _).alloc _).grown hg3 (λ k e=>.inl e);obtain ⟨k1,k2,k3,hd3⟩:=hv2.upd (O1:=λ x=>O x\/W.heap.size<=x) hz hu ho23 (λ x h=>.inl h) row3 hf3;obtain ⟨ua',uc',hu',_,z0,z1⟩:=hv2.at hz;have:ua'=ua/\uc'=uc:=by rw [hu] at hu';cases hu';exact ⟨rfl,rfl⟩
 obtain ⟨rfl,rfl⟩:=this;obtain ⟨Lg,hLg⟩:=Qdv hv2.hg;refine ⟨a',c',w2,a3,c3,w3,⟨r1,r2,z0,?_,k1,k3 _,⟨_,hd3⟩,?_,?_⟩⟩
 ·rw [(Below.refl w2.heap.size w2 |>.alloc (Nat.le_refl _) _).cell (Qaa z0)];exact z0
 ·have h1:Out O W w2:=Qab _ bl'
  have h2:Out O W w3:=h1.trans ho23 (λ x e=>.inl (u2 x e));exact h2.setCell (p:=⟨g,i*2,none⟩) (.inl hv.og) _
 ·intro q L t hq ht hz'
  have q2:=hq.below bl' hq.lt;have q3:=ho23.blk q2 (Qcd q2 ht u1);refine q3.set_other ?_ _
  intro e;have:q=g:=e;subst this;exact Qbq q2 hLg hz' rfl
set_option maxHeartbeats 4000000 in
theorem Qjj (zn:Int) (a:Option Addr) (n c:Nat) (D:List Int) (hd:Dv 98 O W p s zs) (hw:Wf s zs) (hb:BIn W a n D) (hnil:a=none->n=0/\c=0) (hn:n<=100000) :
  Calls prog 36 #[.pointer (some ⟨p,0,none⟩),.int .i64 zn,.slice a n c] W (Qny 98 .u16 O W p s zs zn D):=by
 obtain ⟨q,hq⟩:∃q,q=W.heap.size:=⟨_,rfl⟩
 obtain ⟨ab,abel⟩:=Qrq hq;have hd1:Dv 98 O (W.alloc (.cells #[.int .i64 0,.int .i64 0] 85)) p s zs:=by
  obtain ⟨g,c,vs,hv⟩:=hd;exact ⟨g,c,vs,hv.under (by rw [<-hq];exact abel)⟩
 have hb1:BIn (W.alloc (.cells #[.int .i64 0,.int .i64 0] 85)) a n D:=hb.alloc _;have hl:=hb.1;go_enter func36,ntmps36
 go_upto_region 1 with fail
 rw [<-hq];generalize hW1:World.alloc _ _=W1 at *;clear hW1;have hh:=Qrl zn hd1;have e0:W1.cell? ⟨q,0,none⟩=some (.int .i64 0):=ab.cell 0;have e1:W1.cell? ⟨q,1,none⟩=some (.int .i64 0):=ab.cell 1;have f0:=ab.frozen 0;have f1:=ab.frozen 1;have HA:=Jh3 ab abel hq;have HD:=Jh3 hd hw hd1;have HI:=Jh4 hb1 hnil hn hl;clear ab abel hq hd hw hb hnil hn hb1 hl;have fin:Hid (∀(x y:Int),Blk ((W1.setCell ⟨q,0,none⟩ (.int .i64 x)).setCell ⟨q,1,none⟩ (.int .i64 y)) q [.int .i64 x,.int .i64 y] 85/\Below W.heap.size W ((W1.setCell ⟨q,0,none⟩ (.int .i64 x)).setCell ⟨q,1,none⟩ (.int .i64 y))):=by
  intro x y;refine ⟨(HA.out.1.set 0 _).set 1 _,?_⟩
  rw [<-(Jz2 HA)];exact ((J2 HA).setCell (p:=⟨q,0,none⟩) (Nat.le_refl _) _).setCell (p:=⟨q,1,none⟩) (Nat.le_refl _) _
 rcases Qcg zs zn with ⟨i,z,rfl,hz,hi,hbb⟩ | ⟨hno,hbb⟩
 ·rw [hbb] at hh
  have HH:=Jh1 @hh;obtain ⟨g,cz,vs,hv⟩:=hd1;obtain ⟨ua,uc,hu,hr,z0,z1⟩:=hv.at hz;obtain ⟨p0,p1,p2,p3,c4⟩:=hv.pcell;have hi':(i:Int)<zs.length:=by omega
  clear hh hbb;by_cases hlen:(n:Int)=s.b
  ·have hok:Hid (Qdn s zs i D):=by
    show Qdn s zs i D;exact ⟨by omega,by omega,by rw [(Jz3 HI)];exact hlen⟩
   have hzw:=(J2 HD).zone z (List.mem_of_getElem? hz);by_cases hfull:s.zb<=(z.1.length:Int)
   ·have heq:(z.1.length:Int)=s.zb:=by omega
    have hff:Hid (Qbc s zs i):=by
     show Qbc s zs i;unfold Qbc;rw [Qc0 hz];exact hfull
    have b1:((n:Int) != s.b)=false:=by simp [hlen]
    have b2:((z.1.length:Int) == s.zb)=true:=by simp [heq]
    clear hfull hzw hv hr hu hz;go_wp2_with (go_at_call 88;refine HH.out.mono ?_;rintro e W1 ⟨rfl,rfl⟩)
    refine bodyPost_ret (Qad (p:=6) (u:=7) (ty:=85) rfl _ _ q _ _ _ rfl (fin.out 0 0).1 Tryz.underlying85 rfl Tryz.info_addr _ rfl) rfl ?_
    exact Qkf (q:=q) hok.out hff.out HD.out.1 (fin.out 0 0).2
   ·have hne:¬(z.1.length:Int)=s.zb:=by omega
    have hff:Hid (¬Qbc s zs i):=by
     show ¬Qbc s zs i;unfold Qbc;rw [Qc0 hz];exact hfull
    have b1:((n:Int) != s.b)=false:=by simp [hlen]
    have b2:((z.1.length:Int) == s.zb)=false:=by simp [hne]
    have hr4:=(J2 HD).right.2.2.2.1;obtain ⟨a',c',w2,a3,c3,w3,M⟩:=Q1o hv hz hu HI.out.1 (J2 HI) (J3 HI) (by omega);have HM:=Jh2 M hz;have m2:=M.c2;have m2a:=M.c2a;have m3:=M.c3';have mf:=M.fz;have aq:=M.blk HA.out.1 (by decide) (by decide);clear M hfull hzw hv hr hu hz hne hr4;go_upto_region 7 with (go_at_call 88;refine HH.out.mono ?_;rintro e W1 ⟨rfl,rfl⟩)
    refine wp_region_noPanic ?_
    go_region_law (first
     | (refine Qbf rfl (.const (.slice none 0 0)) (.tmp 49) 71 71 rfl _ _ rfl rfl _ _ HM.out.1.run1 ?_)
     | (refine Qbf rfl (.tmp 48) (.tmp 51) 74 74 rfl _ _ rfl rfl _ _ HM.out.1.run2 ?_))
    all_goals
     have HV:=Jh4 HM.out.1.dev HM.out.1.out aq HM.out.2;clear HM m2 m2a m3 mf e0 e1 f0 f1 fin;generalize World.setCell w3 _ _=V at HV aq ⊢;have e0:V.cell? ⟨q,0,none⟩=some (.int .i64 0):=aq.cell 0;have e1:V.cell? ⟨q,1,none⟩=some (.int .i64 0):=aq.cell 1;have f0:=aq.frozen 0;have f1:=aq.frozen 1;clear aq;refine NoPanic.normal ?_
     go_wp2
     refine bodyPost_ret (Qad (p:=6) (u:=7) (ty:=85) rfl _ _ q _ _ _ rfl (((J3 HV).set 0 _).set 1 _) Tryz.underlying85 rfl Tryz.info_addr _ rfl) rfl ?_
     exact Qrg hok.out hff.out (Jz3 HV) (J2 HA) (Jz2 HA) HV.out.1 (J2 HV) (J3 HV)
  ·have hok:Hid (¬Qdn s zs i D):=by
    show ¬Qdn s zs i D;rintro ⟨_,_,h⟩;rw [(Jz3 HI)] at h;exact hlen h
   have b1:((n:Int) != s.b)=true:=by simp [hlen]
   clear hv hr hu hz;go_wp2_with (go_at_call 88;refine HH.out.mono ?_;rintro e W1 ⟨rfl,rfl⟩)
   refine bodyPost_ret (Qad (p:=6) (u:=7) (ty:=85) rfl _ _ q _ _ _ rfl (fin.out 0 0).1 Tryz.underlying85 rfl Tryz.info_addr _ rfl) rfl ?_
   exact Qg3 (q:=q) hok.out HD.out.1 (fin.out 0 0).2
 ·rw [hbb] at hh
  have HH:=Jh1 @hh;have hok:Hid (¬Qdn s zs zn D):=by
   show ¬Qdn s zs zn D;rintro ⟨h1,h2,_⟩;exact hno ⟨h1,h2⟩
  clear hh hbb hno hd1;go_wp2_with (go_at_call 88;refine HH.out.mono ?_;rintro e W1 ⟨rfl,rfl⟩)
  refine bodyPost_ret (Qad (p:=6) (u:=7) (ty:=85) rfl _ _ q _ _ _ rfl (fin.out 0 0).1 Tryz.underlying85 rfl Tryz.info_addr _ rfl) rfl ?_
  exact Qg3 (q:=q) hok.out HD.out.1 (fin.out 0 0).2
end
end
section
theorem Wf.short {s:Sh} {zs:List Zn} (h:Wf s zs):Qv6 zs:=by
 intro z hz D hD;have:=(h.zone z hz).2.2.2 D hD;have:=Qbd h.right.2.2.2.2.1;omega
def Qdy (zs:List Zn) (zn:Int):Prop:=0<=zn/\zn<=(zs.length:Int) - 1
instance (zs:List Zn) (zn:Int):Decidable (Qdy zs zn):=by unfold Qdy;infer_instance
def Qcx (zs:List Zn) (zn bn:Int):Prop:=0<=bn/\bn<=((atZ zs zn).1.length:Int) - 1
instance (zs:List Zn) (zn bn:Int):Decidable (Qcx zs zn bn):=by unfold Qcx;infer_instance
def rdE (zs:List Zn) (zn bn:Int):Int:=if Qdy zs zn then (if Qcx zs zn bn then 0 else 102) else 100
def rdB (zs:List Zn) (zn bn:Int):List Int:=if Qdy zs zn then (if Qcx zs zn bn then (atZ zs zn).1.getD bn.toNat [] else []) else []
def Qni (k:IntKind) (W:World) (zs:List Zn) (zn bn:Int) (e:Ending) (w':World):Prop:=
 ∃h,e=.returned (.tuple #[h,.int k (rdE zs zn bn)])/\BkAt (λ x=>W.heap.size<=x) w' h (rdB zs zn bn)/\Below W.heap.size W w'
theorem BkAt.nil (O:Nat->Prop) (W:World):BkAt O W (.slice none 0 0) []:=⟨World.ownsRow_nil _ _ _ _,(λ c h=>by cases h),by simp,by simp⟩
section
variable {O:Nat->Prop} {W:World} {p:Nat} {s:Sh} {zs:List Zn}
theorem Qpq {k:IntKind} {zn bn:Int} {W1:World} (h:¬Qdy zs zn) (hb:Below W.heap.size W W1):Qni k W zs zn bn (.returned (.tuple #[.slice none 0 0,.int k 100])) W1:=by
 unfold Qni rdE rdB;rw [if_neg h,if_neg h];exact ⟨_,rfl,BkAt.nil _ _,hb⟩
theorem Qi0 {k:IntKind} {zn bn:Int} {W1:World} (h:Qdy zs zn) (h2:¬Qcx zs zn bn) (hb:Below W.heap.size W W1):Qni k W zs zn bn (.returned (.tuple #[.slice none 0 0,.int k 102])) W1:=by
 unfold Qni rdE rdB;rw [if_pos h,if_neg h2,if_pos h,if_neg h2];exact ⟨_,rfl,BkAt.nil _ _,hb⟩
theorem Qww {k:IntKind} {i j:Nat} {z:Zn} {D:List Int} {v:Value} {W1:World} (hz:zs[i]?=some z) (hD:z.1[j]?=some D) (hk:BkAt (λ x=>W.heap.size<=x) W1 v D) (hb:Below W.heap.size W W1):Qni k W zs i j (.returned (.tuple #[v,.int k 0])) W1:=by
 have hi:=(List.getElem?_eq_some_iff.1 hz).1;have hj:=(List.getElem?_eq_some_iff.1 hD).1;have h1:Qdy zs i:=⟨by omega,by omega⟩
 have h2:Qcx zs i j:=⟨by omega,by rw [Qc0 hz];omega⟩
 unfold Qni rdE rdB;rw [if_pos h1,if_pos h2,if_pos h1,if_pos h2,Qc0 hz];exact ⟨v,rfl,by simpa [List.getD,hD] using hk,hb⟩
theorem DvV.block {T:TypeId} {g c:Nat} {vs:List Value} {i j:Nat} {z:Zn} {D:List Int} {ua:Option Addr} {uc:Nat} (hv:DvV T O W p s zs g c vs) (hw:Wf s zs) (hz:zs[i]?=some z) (hu:vs[i]?=some (.slice ua z.1.length uc)) (hD:z.1[j]?=some D) :
  ∃b off A L C,ua=some ⟨b,off,none⟩/\W.cell? ⟨b,off+j,none⟩=some (.slice A L C)/\BIn W A L D/\(A=none->L=0/\C=0)/\L<=100000:=by
 have hr:=hv.rows i _ z hu hz;have hbs:=hr.bsin (hw.short z (List.mem_of_getElem? hz));obtain ⟨b,off,ha,hc⟩:=hbs.2.2.resolve_left (by have:=(List.getElem?_eq_some_iff.1 hD).1;omega);obtain ⟨v,h1,A,L,C,rfl,h2,h3,h4,h5⟩:=hc j D hD;exact ⟨b,off,A,L,C,ha,h1,h2,h3,h5⟩
set_option maxHeartbeats 4000000 in
theorem Qg6 (zn bn:Int) (hd:Dv 98 O W p s zs) (hw:Wf s zs) :
  Calls prog 90 #[.pointer (some ⟨p,0,none⟩),.agg #[.int .i64 zn,.int .i64 bn]] W (Qni .u16 W zs zn bn):=by
 obtain ⟨q,hq⟩:∃q,q=W.heap.size:=⟨_,rfl⟩
 have ab:Blk (W.alloc (.cells #[.int .i64 zn,.int .i64 bn] 85)) q [.int .i64 zn,.int .i64 bn] 85:=Blk.new' hq.symm rfl;have abel:Below q W (W.alloc (.cells #[.int .i64 zn,.int .i64 bn] 85)):=(Below.refl _ _).alloc (by omega) _;have hd1:Dv 98 O (W.alloc (.cells #[.int .i64 zn,.int .i64 bn] 85)) p s zs:=by
  obtain ⟨g,c,vs,hv⟩:=hd;exact ⟨g,c,vs,hv.under (by rw [<-hq];exact abel)⟩
 go_enter func90,ntmps90
 go_upto_region 1 with fail
 rw [<-hq];generalize hW1:World.alloc _ _=W1 at *;clear hW1;have hh:=Qrl zn hd1;have e0:W1.cell? ⟨q,0,none⟩=some (.int .i64 zn):=ab.cell 0;have e1:W1.cell? ⟨q,1,none⟩=some (.int .i64 bn):=ab.cell 1;have HA:Hid (Below W.heap.size W W1/\Wf s zs):=⟨by rw [<-hq];exact abel,hw⟩
 clear ab abel hd hw hq;rcases Qcg zs zn with ⟨i,z,rfl,hz,hi,hbb⟩ | ⟨hno,hbb⟩
 ·rw [hbb] at hh
  have HH:=Jh1 @hh;obtain ⟨g,cz,vs,hv⟩:=hd1;obtain ⟨ua,uc,hu,hr,z0,z1⟩:=hv.at hz;obtain ⟨p0,p1,p2,p3,c4⟩:=hv.pcell;have hi':(i:Int)<zs.length:=by omega
  have hzi:Qdy zs i:=⟨by omega,by omega⟩
  have hzl:=(HA.out.2.zone z (List.mem_of_getElem? hz)).1;have hzr:=HA.out.2.right.2.2.2.1;have hwl:IntKind.i64.wrap ((z.1.length:Int) - 1)=(z.1.length:Int) - 1:=by rw [IntKind.wrap_i64];omega
  clear hh hbb;by_cases hbi:0<=bn/\bn<=(z.1.length:Int) - 1
  ·obtain ⟨j,rfl⟩:∃j:Nat,bn=j:=⟨bn.toNat,by omega⟩
   have hj:j<z.1.length:=by omega
   obtain ⟨D,hD⟩:∃D,z.1[j]?=some D:=⟨z.1[j],by simp⟩
   obtain ⟨b,off,A,L,C,rfl,k1,k2,k3,k4⟩:=hv.block HA.out.2 hz hu hD;have HI:Hid (∀n,∃a' c' w',(Builtin.append_ #[71,71] 71 #[.slice none 0 0,.slice A L C]).run prog (W1.drewN n)=.ok (.slice a' L c') w'/\BkAt (λ k=>(W1.drewN n).heap.size<=k) w' (.slice a' L c') D/\Below (W1.drewN n).heap.size (W1.drewN n) w'):=λ n=>Qr8 (W:=W1.drewN n) (k2.below (below_drewN _ _)) k3 (by omega)
   have HZ:=Jh2 hz hD;have hbt:(decide (0<=(j:Int)) && decide ((j:Int)<=(z.1.length:Int) - 1))=true:=by simp;omega
   have hbt2:decide ((j:Int)<=(z.1.length:Int) - 1)=true:=by simp;omega
   have hj':(j:Int)<z.1.length:=by omega
   clear k2 k3 k4 hv hr hu hz hD hbi hzl hzr;go_upto_region 3 with (go_at_call 88;refine HH.out.mono ?_;rintro e W1 ⟨rfl,rfl⟩)
   go_quiet (fail)
   obtain ⟨a',c',w',hrun,hbk,hbl⟩:=HI.out nq;have HR:=Jh3 hrun hbk hbl;clear hrun hbk hbl;go_wp2_with (first
    | (go_at_call 40;refine (Qcb _ _ _ _).mono ?_;rintro e w9 ⟨rfl,rfl⟩)
    | (at_builtin;refine Qag rfl (.const (.slice none 0 0)) (.tmp 32) 71 71 rfl _ _ rfl rfl _ _ HR.out.1 ?_))
   go_ret2
   have hsz:=HA.out.1.size;exact Qww HZ.out.1 HZ.out.2 ((J2 HR).mono (λ x hx _=>Nat.le_trans hsz hx)) (HA.out.1.trans (((below_drewN W1 nq).trans (Jz2 HR)).mono hsz))
  ·have hbf:(decide (0<=bn) && decide (bn<=(z.1.length:Int) - 1))=false:=by simp;omega
   have HN:Hid (Qdy zs i/\¬Qcx zs i bn):=⟨hzi,by unfold Qcx;rw [Qc0 hz];exact hbi⟩
   clear hv hr hu hz hbi hzl hzr hzi;go_upto_region 3 with (go_at_call 88;refine HH.out.mono ?_;rintro e W1 ⟨rfl,rfl⟩)
   go_quiet (fail)
   go_wp2_with (go_at_call 40;refine (Qcb _ _ _ _).mono ?_;rintro e w9 ⟨rfl,rfl⟩)
   go_ret2
   exact Qi0 HN.out.1 HN.out.2 (HA.out.1.trans ((below_drewN W1 nq).mono HA.out.1.size))
 ·rw [hbb] at hh
  have HH:=Jh1 @hh;have HN:=Jh1 hno;clear hh hbb hno hd1;go_wp2_with (go_at_call 88;refine HH.out.mono ?_;rintro e W1 ⟨rfl,rfl⟩)
  go_ret2
  exact Qpq HN.out HA.out.1
end
end
section
theorem Qyn {O:Nat->Prop} {W:World} {a:Option Addr} {k c:Nat} {bs:List (List Int)} (h:RowAt O W (.slice a k c) bs) :
  ∃a' c' w',(Builtin.append_ #[74,74] 74 #[.slice none 0 0,.slice a k c]).run prog W=.ok (.slice a' k c') w'/\RowAt (λ x=>O x\/W.heap.size<=x) w' (.slice a' k c') bs/\Below W.heap.size W w'/\(∀r,(Value.slice a' k c').ownBlock=some r->W.heap.size<=r):=by
 obtain ⟨i0,hi,hz0,hz1,hz2⟩:=info_parts Tryz.zero_bytes;obtain ⟨vs,r1,r2,r3,r4⟩:=id h;have hk:k=bs.length:=(Qev r1).2;have hvl:vs.length=k:=by rw [r3.1,hk]
 rcases r1.2 with ⟨hv,hn⟩ | ⟨g,cap,cur,hv,hB,hh,hnc,hcm,hcs,htk⟩
 ·cases hv
  obtain rfl:bs=[]:=List.length_eq_zero_iff.1 hn;exact ⟨none,0,W,run_append_owned_none (P:=prog) W W.heap.size 74 74 71 i0 1 Tryz.underlying74 hi _ 0 [] (World.ownsRow_nil _ _ _ _),RowAt.nil _ _,Below.refl _ _,λ r e=>by cases e⟩
 ·cases hv
  obtain ⟨v',w',h2,h3,h4,_⟩:=run_append_own (P:=prog) W W.heap.size 74 74 71 i0 (.slice none 0 0) 1 24 Tryz.underlying74 hi hz0 hz1 hz2 rfl (by decide) _ 0 [] (World.ownsRow_nil _ _ _ _) ⟨g,0,none⟩ bs.length c vs (by omega) (r1.cells rfl) (by
   intro u hu;obtain ⟨j,hj⟩:=List.getElem?_of_mem hu;have hjl:=(List.getElem?_eq_some_iff.1 hj).1;obtain ⟨D,hD⟩:∃D,bs[j]?=some D:=⟨bs[j]'(by rw [<-r3.1];exact hjl),by simp⟩
   obtain ⟨x,y,rfl⟩:=Qam (r3.2 j u D hj hD).1;rfl) (by unfold maxLen;omega) (by omega) (Nat.le_refl _)
  have h3':w'.ownsRow W.heap.size 71 1 v' bs.length vs:=by simpa using h3
  obtain ⟨a',c',rfl⟩:=Qam h3';have hb:Below W.heap.size W w':=(Below.refl _ _).grown h4 (Nat.le_refl _) (λ k e=>by cases e);refine ⟨a',c',w',h2,⟨vs,Qbh h3',λ r e=>.inr (h3'.lt r e).1,?_,r4⟩,hb,λ r e=>(h3'.lt r e).1⟩
  exact (r3.mono (O':=λ x=>O x\/W.heap.size<=x) (λ x hx _=>.inl hx)).out (Qab Non hb) (λ _ _ _ _ e=>e)
section
variable {O:Nat->Prop} {W:World} {p:Nat} {s:Sh} {zs:List Zn}
structure Q33 (T:TypeId) (O:Nat->Prop) (W1:World) (p:Nat) (s:Sh) (zs:List Zn) (g cz i:Nat) (z:Zn) (ua:Option Addr) (uc:Nat) (D:List Int) (a2:Option Addr) (c2:Nat) (a3:Option Addr) (c3:Nat) (w5:World):Prop where
 cc:w5.cell? ⟨g,i*2,none⟩=some (.slice ua z.1.length uc)
 fz:w5.frozen? ⟨g,i*2,none⟩=false
 pc:w5.cell? ⟨p,4,none⟩=some (.slice (some ⟨g,0,none⟩) zs.length cz)
 dev:∃vs',DvV T (λ x=>O x\/W1.heap.size<=x) (w5.setCell ⟨g,i*2,none⟩ (.slice a3 (z.1.length+1) c3)) p s (zs.set i (z.1 ++ [D],z.2)) g cz vs'
 out:Out O W1 (w5.setCell ⟨g,i*2,none⟩ (.slice a3 (z.1.length+1) c3))
 blk:∀{q:Nat} {L:List Value} {t:TypeId},Blk W1 q L t->t≠71->t≠91->Blk (w5.setCell ⟨g,i*2,none⟩ (.slice a3 (z.1.length+1) c3)) q L t
theorem Qya {T:TypeId} {g cz:Nat} {vs:List Value} {i:Nat} {z:Zn} {ua:Option Addr} {uc:Nat} {D:List Int} {a2:Option Addr} {c2:Nat} {w2 w3:World} {h:Value} (hv:DvV T O W p s zs g cz vs) (hz:zs[i]?=some z) (hu:vs[i]?=some (.slice ua z.1.length uc)) (hl:z.1.length+1<=100000)
  (h2:RowAt (λ x=>O x\/W.heap.size<=x) w2 (.slice a2 z.1.length c2) z.1) (b2:Below W.heap.size W w2) (f2:∀r,(Value.slice a2 z.1.length c2).ownBlock=some r->W.heap.size<=r)
  (h3:BkAt (λ x=>w2.heap.size<=x) w3 h D) (b3:Below w2.heap.size w2 w3) (ho:h.oneCell'=true) :
  ∃a3 c3 w5,(Builtin.append_ #[74,74] 74 #[.slice a2 z.1.length c2,.slice (some ⟨w3.heap.size,0,none⟩) 1 1]).run prog (w3.alloc (.cells #[h] 71))=.ok (.slice a3 (z.1.length+1) c3) w5/\Q33 T O W p s zs g cz i z ua uc D a2 c2 a3 c3 w5:=by
 have hs2:=b2.size;have hs3:=b3.size;have row3:=h2.out (Qab Non b3) (λ _ _ e=>e) (λ _ _ _ _ e=>e);have bk3:=h3.mono (O':=λ x=>O x\/W.heap.size<=x) (λ x hx _=>.inr (by omega));obtain ⟨a3,c3,w5,r5,row5,g5,f5⟩:=Qep row3 bk3 ho hl (λ k hk=>.inr (by omega));obtain ⟨uv,u1,u2,_⟩:=row3;have hb5:Below W.heap.size W w5:=by
  refine (((b2.trans (b3.mono hs2))).alloc (by omega) _).grown g5 (by simp;omega) (λ k e=>f2 k e)
 have hfr:∀r,(Value.slice a3 (z.1.length+1) c3).ownBlock=some r->W.heap.size<=r:=by
  intro r e;rcases f5 with f5 | f5
  ·rw [f5] at e;exact f2 r e
  ·have:=f5 r e;omega
 obtain ⟨k1,k2,k3,hd5⟩:=hv.upd (O1:=λ x=>O x\/W.heap.size<=x) hz hu (Qab _ hb5) (λ x hx=>.inl hx) row5 (.inr hfr);have hv5:=hv.under hb5;obtain ⟨Lg,hLg⟩:=Qdv hv5.hg;refine ⟨a3,c3,w5,r5,⟨k1,k3 _,hv5.pcell.2.2.2.2,⟨_,hd5⟩,(Qab O hb5).setCell (p:=⟨g,i*2,none⟩) (.inl hv.og) _,?_⟩⟩
 intro q L t hq ht hz';have q5:=hq.below hb5 hq.lt;refine q5.set_other ?_ _
 intro e;have:q=g:=e;subst this;exact Qbq q5 hLg hz' rfl
set_option maxHeartbeats 4000000 in
theorem Qs1 (zn:Int) (a:Option Addr) (n c:Nat) (D:List Int) (hd:Dv 101 O W p s zs) (hw:Wf s zs) (hb:BIn W a n D) (hnil:a=none->n=0/\c=0) (hn:n<=100000) :
  Calls prog 177 #[.pointer (some ⟨p,0,none⟩),.int .i64 zn,.slice a n c] W (Qny 101 .i64 O W p s zs zn D):=by
 obtain ⟨q,hq⟩:∃q,q=W.heap.size:=⟨_,rfl⟩
 obtain ⟨ab,abel⟩:=Qrq hq;have hd1:Dv 101 O (W.alloc (.cells #[.int .i64 0,.int .i64 0] 85)) p s zs:=by
  obtain ⟨g,c,vs,hv⟩:=hd;exact ⟨g,c,vs,hv.under (by rw [<-hq];exact abel)⟩
 have hb1:BIn (W.alloc (.cells #[.int .i64 0,.int .i64 0] 85)) a n D:=hb.alloc _;have hl:=hb.1;go_enter func177,ntmps177
 go_upto_region 1 with fail
 rw [<-hq];generalize hW1:World.alloc _ _=W1 at *;clear hW1;have e0:W1.cell? ⟨q,0,none⟩=some (.int .i64 0):=ab.cell 0;have e1:W1.cell? ⟨q,1,none⟩=some (.int .i64 0):=ab.cell 1;have f0:=ab.frozen 0;have f1:=ab.frozen 1;have HA:=Jh3 ab abel hq;have HD:=Jh2 hd hw;have HI:=Jh4 hb1 hnil hn hl;clear ab abel hq hd hw hb hnil hn hb1 hl;have fin:Hid (∀(x y:Int),Blk ((W1.setCell ⟨q,0,none⟩ (.int .i64 x)).setCell ⟨q,1,none⟩ (.int .i64 y)) q [.int .i64 x,.int .i64 y] 85/\Below W.heap.size W ((W1.setCell ⟨q,0,none⟩ (.int .i64 x)).setCell ⟨q,1,none⟩ (.int .i64 y))):=by
  intro x y;refine ⟨(HA.out.1.set 0 _).set 1 _,?_⟩
  rw [<-(Jz2 HA)];exact ((J2 HA).setCell (p:=⟨q,0,none⟩) (Nat.le_refl _) _).setCell (p:=⟨q,1,none⟩) (Nat.le_refl _) _
 obtain ⟨g,cz,vs,hv⟩:=hd1;obtain ⟨p0,p1,p2,p3,c4⟩:=hv.pcell;rcases Qcg zs zn with ⟨i,z,rfl,hz,hi,hbb⟩ | ⟨hno,hbb⟩
 ·obtain ⟨ua,uc,hu,hr,z0,z1⟩:=hv.at hz
  have hi':(i:Int)<zs.length:=by omega
  clear hbb;by_cases hlen:(n:Int)=s.b
  ·have hok:Hid (Qdn s zs i D):=by
    show Qdn s zs i D;exact ⟨by omega,by omega,by rw [(Jz3 HI)];exact hlen⟩
   have b1:((n:Int) != s.b)=false:=by simp [hlen]
   by_cases hfull:s.zb<=(z.1.length:Int)
   ·have hff:Hid (Qbc s zs i):=by
     show Qbc s zs i;unfold Qbc;rw [Qc0 hz];exact hfull
    clear hv hr hu hz;go_wp2
    refine bodyPost_ret (Qad (p:=6) (u:=7) (ty:=85) rfl _ _ q _ _ _ rfl (fin.out 0 0).1 Tryz.underlying85 rfl Tryz.info_addr _ rfl) rfl ?_
    exact Qkf (q:=q) hok.out hff.out HD.out.1 (fin.out 0 0).2
   ·have hff:Hid (¬Qbc s zs i):=by
     show ¬Qbc s zs i;unfold Qbc;rw [Qc0 hz];exact hfull
    have hr4:=HD.out.2.right.2.2.2.1;obtain ⟨a2,c2,w2,run2,row2,b2,fr2⟩:=Qyn hr;have d4:=(b2.cell (Qaa c4)).trans c4;have dz:=(b2.cell (Qaa z0)).trans z0;have HL:Hid (∃w,Calls prog 94 #[.slice a n c] w2 (Qv2 w2 D)/\w=w2):=⟨w2,Qlv a n c D w2 (HI.out.1.below b2) (J2 HI) (by have:=(J3 HI);omega),rfl⟩
    have HR:=Jh2 run2 b2;have HM:Hid (∀w3 h,BkAt (λ x=>w2.heap.size<=x) w3 h D->Below w2.heap.size w2 w3->h.oneCell'=true->∃a3 c3 w5,(Builtin.append_ #[74,74] 74 #[.slice a2 z.1.length c2,.slice (some ⟨w3.heap.size,0,none⟩) 1 1]).run prog (w3.alloc (.cells #[h] 71))=.ok (.slice a3 (z.1.length+1) c3) w5/\Q33 101 O W1 p s zs g cz i z ua uc D a2 c2 a3 c3 w5):=λ w3 h k1 k2 k3=>Qya hv hz hu (by omega) row2 b2 fr2 k1 k2 k3
    have HZ:=Jh1 hz;clear hv hr hu hz hr4 run2 row2 b2 fr2;go_upto_region 9 with (first
     | (at_builtin;refine Qag rfl (.tmp 59) (.tmp 62) 74 74 rfl _ _ rfl rfl _ _ M5.1 ?_)
     | (at_builtin;refine Qag rfl (.tmp 49) (.tmp 57) 74 74 rfl _ _ rfl rfl _ _ HR.out.1 ?_)
     | (go_at_call 94;obtain ⟨_,hl9,_⟩:=HL.out;refine hl9.mono ?_;rintro e w3 ⟨h3,rfl,bk3,bl3⟩;obtain ⟨x3,y3,e3⟩:=Qam bk3.1;subst e3;obtain ⟨a3,c3,w5,M5⟩:=HM.out w3 _ bk3 bl3 rfl))
    have m0:=M5.2.cc;have m1:=M5.2.fz;have m2:=M5.2.pc;have aq:=M5.2.blk HA.out.1 (by decide) (by decide);have HV:=Jh4 M5.2.dev M5.2.out aq HZ.out;clear M5 bk3 bl3 e0 e1 f0 f1 fin d4 dz z0 z1 p0 p1 p2 p3 c4;go_upto_region 10 with fail
    generalize World.setCell w5 _ _=V at HV aq ⊢;have e0:V.cell? ⟨q,0,none⟩=some (.int .i64 0):=aq.cell 0;have e1:V.cell? ⟨q,1,none⟩=some (.int .i64 0):=aq.cell 1;have f0:=aq.frozen 0;have f1:=aq.frozen 1;clear aq m0 m1 m2;go_wp2
    refine bodyPost_ret (Qad (p:=6) (u:=7) (ty:=85) rfl _ _ q _ _ _ rfl (((J3 HV).set 0 _).set 1 _) Tryz.underlying85 rfl Tryz.info_addr _ rfl) rfl ?_
    exact Qrg hok.out hff.out (Jz3 HV) (J2 HA) (Jz2 HA) HV.out.1 (J2 HV) (J3 HV)
  ·have hok:Hid (¬Qdn s zs i D):=by
    show ¬Qdn s zs i D;rintro ⟨_,_,h⟩;rw [(Jz3 HI)] at h;exact hlen h
   have b1:((n:Int) != s.b)=true:=by simp [hlen]
   clear hv hr hu hz;go_wp2
   refine bodyPost_ret (Qad (p:=6) (u:=7) (ty:=85) rfl _ _ q _ _ _ rfl (fin.out 0 0).1 Tryz.underlying85 rfl Tryz.info_addr _ rfl) rfl ?_
   exact Qg3 (q:=q) hok.out HD.out.1 (fin.out 0 0).2
 ·have hok:Hid (¬Qdn s zs zn D):=by
   show ¬Qdn s zs zn D;rintro ⟨h1,h2,_⟩;exact hno ⟨h1,h2⟩
  rcases Qgo hno with h | ⟨h1,h2⟩
  ·clear hbb hno hv
   go_wp2
   refine bodyPost_ret (Qad (p:=6) (u:=7) (ty:=85) rfl _ _ q _ _ _ rfl (fin.out 0 0).1 Tryz.underlying85 rfl Tryz.info_addr _ rfl) rfl ?_
   exact Qg3 (q:=q) hok.out HD.out.1 (fin.out 0 0).2
  ·clear hbb hno hv
   go_wp2
   refine bodyPost_ret (Qad (p:=6) (u:=7) (ty:=85) rfl _ _ q _ _ _ rfl (fin.out 0 0).1 Tryz.underlying85 rfl Tryz.info_addr _ rfl) rfl ?_
   exact Qg3 (q:=q) hok.out HD.out.1 (fin.out 0 0).2
end
end
section
section
variable {O:Nat->Prop} {W:World} {p:Nat} {s:Sh} {zs:List Zn}
set_option maxHeartbeats 4000000 in
theorem Qra (zn bn:Int) (hd:Dv 101 O W p s zs) (hw:Wf s zs) :
  Calls prog 98 #[.pointer (some ⟨p,0,none⟩),.agg #[.int .i64 zn,.int .i64 bn]] W (Qni .i64 W zs zn bn):=by
 obtain ⟨q,hq⟩:∃q,q=W.heap.size:=⟨_,rfl⟩
 have ab:Blk (W.alloc (.cells #[.int .i64 zn,.int .i64 bn] 85)) q [.int .i64 zn,.int .i64 bn] 85:=Blk.new' hq.symm rfl;have abel:Below q W (W.alloc (.cells #[.int .i64 zn,.int .i64 bn] 85)):=(Below.refl _ _).alloc (by omega) _;have hd1:Dv 101 O (W.alloc (.cells #[.int .i64 zn,.int .i64 bn] 85)) p s zs:=by
  obtain ⟨g,c,vs,hv⟩:=hd;exact ⟨g,c,vs,hv.under (by rw [<-hq];exact abel)⟩
 go_enter func98,ntmps98
 go_upto_region 1 with fail
 rw [<-hq];generalize hW1:World.alloc _ _=W1 at *;clear hW1;have e0:W1.cell? ⟨q,0,none⟩=some (.int .i64 zn):=ab.cell 0;have e1:W1.cell? ⟨q,1,none⟩=some (.int .i64 bn):=ab.cell 1;have HA:Hid (Below W.heap.size W W1/\Wf s zs):=⟨by rw [<-hq];exact abel,hw⟩
 clear ab abel hd hw hq;obtain ⟨g,cz,vs,hv⟩:=hd1;obtain ⟨p0,p1,p2,p3,c4⟩:=hv.pcell;rcases Qcg zs zn with ⟨i,z,rfl,hz,hi,hbb⟩ | ⟨hno,hbb⟩
 ·obtain ⟨ua,uc,hu,hr,z0,z1⟩:=hv.at hz
  have hi':(i:Int)<zs.length:=by omega
  have hi0:decide ((i:Int)<0)=false:=by simp
  have hi1:decide ((zs.length:Int)<=(i:Int))=false:=by simp;omega
  have hi2:decide (zs.length<=i)=false:=by simp;omega
  have hzi:Qdy zs i:=⟨by omega,by omega⟩
  clear hbb;by_cases hbi:0<=bn/\bn<=(z.1.length:Int) - 1
  ·obtain ⟨j,rfl⟩:∃j:Nat,bn=j:=⟨bn.toNat,by omega⟩
   have hj:j<z.1.length:=by omega
   obtain ⟨D,hD⟩:∃D,z.1[j]?=some D:=⟨z.1[j],by simp⟩
   obtain ⟨b,off,A,L,C,rfl,k1,k2,k3,k4⟩:=hv.block HA.out.2 hz hu hD;have HI:Hid (∀V,Below W1.heap.size W1 V->Calls prog 94 #[.slice A L C] V (Qv2 V D)):=λ V hV=>Qlv A L C D V (k2.below hV) k3 (by omega)
   have HZ:=Jh2 hz hD;have hj':(j:Int)<z.1.length:=by omega
   have hj0:decide ((j:Int)<0)=false:=by simp
   have hj1:decide ((z.1.length:Int)<=(j:Int))=false:=by simp;omega
   have hj2:decide (z.1.length<=j)=false:=by simp;omega
   clear k2 k3 k4 hv hr hu hz hD hbi;go_quiet (fail)
   go_wp2
   go_quiet (fail)
   go_wp2
   go_region_held3 (λ w'=>w'.cell? ⟨p,4,none⟩=some (.slice (some ⟨g,0,none⟩) zs.length cz)/\w'.cell? ⟨q,0,none⟩=some (.int .i64 i)/\w'.cell? ⟨q,1,none⟩=some (.int .i64 j)/\w'.cell? ⟨g,i*2,none⟩=some (.slice (some ⟨b,off,none⟩) z.1.length uc)/\w'.cell? ⟨b,off+j,none⟩=some (.slice A L C)) (first | exact ⟨c4,e0,e1,z0,k1⟩ | exact ⟨m4,m0,m1,n0,n1⟩)
    ((go_at_call 94;refine (HI.out _ (by exact ⟨rfl,rfl,rfl,Nat.le_refl _,λ _ _=>rfl⟩)).mono ?_;rintro e w3 ⟨h3,rfl,bk3,bl3⟩;have m4:=(bl3.cell (Qaa c4)).trans c4;have m0:=(bl3.cell (Qaa e0)).trans e0;have m1:=(bl3.cell (Qaa e1)).trans e1;have n0:=(bl3.cell (Qaa z0)).trans z0;have n1:=(bl3.cell (Qaa k1)).trans k1))
   go_wp2
   go_ret2
   have hsz:=HA.out.1.size;have bl4:Below W1.heap.size W1 w3:=⟨bl3.os,bl3.tape,bl3.output,bl3.size,bl3.block⟩
   exact Qww HZ.out.1 HZ.out.2 (bk3.mono (λ x hx _=>Nat.le_trans hsz hx)) (HA.out.1.trans (bl4.mono hsz))
  ·have HN:Hid (Qdy zs i/\¬Qcx zs i bn):=⟨hzi,by unfold Qcx;rw [Qc0 hz];exact hbi⟩
   by_cases hb0:bn<0
   ·clear hv hr hu hz hbi hzi
    go_quiet (fail)
    go_wp2
    go_quiet (fail)
    go_wp2
    go_ret2
    exact Qi0 HN.out.1 HN.out.2 (HA.out.1.trans ⟨rfl,rfl,rfl,Nat.le_refl _,λ _ _=>rfl⟩)
   ·have hge:(z.1.length:Int)<=bn:=by omega
    have b0:decide (bn<0)=false:=by simp;omega
    have b1:decide ((z.1.length:Int)<=bn)=true:=by simp;omega
    clear hv hr hu hz hbi hzi;go_quiet (fail)
    go_wp2
    go_quiet (fail)
    go_wp2
    go_ret2
    exact Qi0 HN.out.1 HN.out.2 (HA.out.1.trans ⟨rfl,rfl,rfl,Nat.le_refl _,λ _ _=>rfl⟩)
 ·have HN:=Jh1 hno
  rcases Qgo hno with h | ⟨h1,h2⟩
  ·have hb:decide (zn<0)=true:=by simp [h]
   clear hbb hno hv;go_quiet (fail)
   go_wp2
   go_ret2
   exact Qpq HN.out (HA.out.1.trans ⟨rfl,rfl,rfl,Nat.le_refl _,λ _ _=>rfl⟩)
  ·have hb:decide (zn<0)=false:=by simp;omega
   have hb2:decide ((zs.length:Int)<=zn)=true:=by simp [h2]
   clear hbb hno hv;go_quiet (fail)
   go_wp2
   go_ret2
   exact Qpq HN.out (HA.out.1.trans ⟨rfl,rfl,rfl,Nat.le_refl _,λ _ _=>rfl⟩)
end
end
def Qe3 (s:Sh):Prop:=s.z<=12/\s.zb<=16/\s.b<=128
instance (s:Sh):Decidable (Qe3 s):=by unfold Qe3;infer_instance
theorem Qzv (s:Sh) (w:World) :
  Calls prog 9 #[.agg (shL s).toArray] w λ e w'=>e=.returned (.bool (decide (Qe3 s)))/\Below w.heap.size w w':=by
 obtain ⟨z,zb,b,r⟩:=s;obtain ⟨B,hB⟩:∃B,B=decide (Qe3 ⟨z,zb,b,r⟩):=⟨_,rfl⟩
 rw [<-hB];have HB:Hid (B=decide (Qe3 ⟨z,zb,b,r⟩)):=hB;clear hB;have bw:Hid (∀o,Below w.heap.size w (w.alloc o)):=λ o=>(Below.refl _ _).alloc (Nat.le_refl _) o
 simp only [shL]
 by_cases h1:z<=12
 ·by_cases h2:zb<=16
  ·have hf:B=decide (b<=128):=by rw [HB.out];simp [Qe3,h1,h2]
   clear HB;subst hf;go_enter func9,ntmps9
   go_wp2
   go_ret
   exact ⟨by simp,bw.out _⟩
  ·have hf:B=false:=by rw [HB.out];simp [Qe3,h2]
   clear HB;subst hf;go_enter func9,ntmps9
   go_wp2
   go_ret
   exact ⟨rfl,bw.out _⟩
 ·have hf:B=false:=by rw [HB.out];simp [Qe3,h1]
  clear HB;subst hf;go_enter func9,ntmps9
  go_wp2
  go_ret
  exact ⟨rfl,bw.out _⟩
def pw (k:Nat):Int:=64*2 ^ k
theorem Q3p:∀k:Fin 7,Powers[k.val]?=some (pw k.val)/\64<=pw k.val/\pw k.val<=4096/\pw (k.val+1)=2*pw k.val:=by decide
theorem Q3l {b:Int} {k:Nat} (h:k<7):decide (b∈Powers.take (k+1))=(decide (b∈Powers.take k) || decide (pw k=b)):=by
 rw [Qao (Q3p ⟨k,h⟩).1,<-Bool.decide_or];apply decide_eq_decide.2
 simp [eq_comm]
set_option maxHeartbeats 2000000 in
theorem Qj1 (s:Sh) (w:World) (hz:-9223372036854775808<=s.z) :
  Calls prog 42 #[.agg (shL s).toArray] w λ e w'=>e=.returned (.bool (decide (Qat s)))/\Below w.heap.size w w':=by
 obtain ⟨z,zb,b,r⟩:=s;obtain ⟨B,hB⟩:∃B,B=decide (Qat ⟨z,zb,b,r⟩):=⟨_,rfl⟩
 rw [<-hB];have HB:Hid (B=decide (Qat ⟨z,zb,b,r⟩)):=hB;clear hB;obtain ⟨W,hW⟩:∃W,W=w.alloc (.cells #[.int .i64 z,.int .i64 zb,.int .i64 b,.int .i64 r] 23):=⟨_,rfl⟩
 have bw:Hid (Below w.heap.size w W):=by
  show Below _ _ _;rw [hW];exact (Below.refl _ _).alloc (Nat.le_refl _) _
 have hb:Blk W w.heap.size [.int .i64 z,.int .i64 zb,.int .i64 b,.int .i64 r] 23:=by rw [hW];exact Blk.new' rfl rfl
 have c0:W.cell? ⟨w.heap.size,0,none⟩=some (.int .i64 z):=hb.cell 0;have c1:W.cell? ⟨w.heap.size,1,none⟩=some (.int .i64 zb):=hb.cell 1;have c2:W.cell? ⟨w.heap.size,2,none⟩=some (.int .i64 b):=hb.cell 2;have c3:W.cell? ⟨w.heap.size,3,none⟩=some (.int .i64 r):=hb.cell 3;simp only [shL]
 dsimp only at hz
 go_enter func42,ntmps42
 go_upto_region 1 with fail
 generalize hq:w.heap.size=q at *;rw [<-hW];clear hW hb;go_wp2
 go_loopw [3,4] (λ p n wr=>∃k:Nat,k<=7/\p=.bool (decide (b∈Powers.take k))/\n=.int .i64 (pw k)/\wr=W) (λ p n wr=>8192 - (intOf n).toNat)
 case atStart=>exact ⟨0,by omega,by simp,rfl,rfl⟩
 case round=>
  obtain ⟨k,hk,rfl,rfl,rfl⟩:=hrel;rcases Nat.lt_or_ge k 7 with h7 | h7
  ·obtain ⟨n0,n1,n2,n3⟩:=Q3p ⟨k,h7⟩
   clear n0;have hm:=Q3l (b:=b) h7;have HM:Hid (decide (b∈Powers.take (k+1))=(decide (b∈Powers.take k) || decide (pw k=b))/\pw (k+1)=2*pw k/\k<7/\64<=pw k):=⟨hm,n3,h7,n1⟩
   dsimp only at n1 n2
   generalize hN:pw k=N at *;have hw:IntKind.i64.wrap (2*N)=2*N:=by rw [IntKind.wrap_i64];omega
   generalize hP:decide (b∈Powers.take k)=P at *;clear hm h7 hk hN hP n3 n1;cases P with
   | true=>
    go_wp2
    go_roundw
    case rel=>exact ⟨k+1,by have:=(J3 HM);omega,by rw [HM.out.1];rfl,by rw [(J2 HM)],(by first | rfl | trivial)⟩
    case measure=>have:=(Jz3 HM);simp [intOf];omega
   | false=>
    go_wp2
    go_roundw
    case rel=>exact ⟨k+1,by have:=(J3 HM);omega,(by rw [HM.out.1];simp;rfl),by rw [(J2 HM)],(by first | rfl | trivial)⟩
    case measure=>have:=(Jz3 HM);simp [intOf];omega
  ·have hk7:k=7:=by omega
   subst hk7;have e7:pw 7=8192:=rfl;have t7:Powers.take 7=Powers:=rfl;rw [e7,t7];clear hk h7;by_cases h0:6<=z
   ·by_cases h1:z<=256
    ·by_cases h2:8<=zb
     ·by_cases h3:zb<=4096
      ·by_cases h4:b∈Powers
       ·by_cases h5:2<=r
        ·have hf:B=decide (r<=z - 4):=by rw [HB.out];exact decide_eq_decide.2 ⟨λ h=>h.2.2.2.2.2.2,λ h=>⟨h0,h1,h2,h3,h4,h5,h⟩⟩
         clear HB;subst hf;rw [decide_eq_true h4];clear h4;have hw4:IntKind.i64.wrap (z - 4)=z - 4:=by rw [IntKind.wrap_i64];omega
         go_wp2
         go_ret
         exact ⟨by simp,by first | exact bw.out | (rw [hq];exact bw.out)⟩
        ·have hf:B=false:=by rw [HB.out];exact decide_eq_false (λ h=>h5 h.2.2.2.2.2.1)
         clear HB;subst hf;rw [decide_eq_true h4];clear h4;go_wp2
         go_ret
         exact ⟨rfl,by first | exact bw.out | (rw [hq];exact bw.out)⟩
       ·have hf:B=false:=by rw [HB.out];exact decide_eq_false (λ h=>h4 h.2.2.2.2.1)
        clear HB;subst hf;rw [decide_eq_false h4];clear h4;go_wp2
        go_ret
        exact ⟨rfl,by first | exact bw.out | (rw [hq];exact bw.out)⟩
      ·have hf:B=false:=by rw [HB.out];exact decide_eq_false (λ h=>h3 h.2.2.2.1)
       clear HB;subst hf;generalize decide (b∈Powers)=P;go_wp2
       go_ret
       exact ⟨rfl,by first | exact bw.out | (rw [hq];exact bw.out)⟩
     ·have hf:B=false:=by rw [HB.out];exact decide_eq_false (λ h=>h2 h.2.2.1)
      clear HB;subst hf;generalize decide (b∈Powers)=P;go_wp2
      go_ret
      exact ⟨rfl,by first | exact bw.out | (rw [hq];exact bw.out)⟩
    ·have hf:B=false:=by rw [HB.out];exact decide_eq_false (λ h=>h1 h.2.1)
     clear HB;subst hf;generalize decide (b∈Powers)=P;go_wp2
     go_ret
     exact ⟨rfl,by first | exact bw.out | (rw [hq];exact bw.out)⟩
   ·have hf:B=false:=by rw [HB.out];exact decide_eq_false (λ h=>h0 h.1)
    clear HB;subst hf;generalize decide (b∈Powers)=P;go_wp2
    go_ret
    exact ⟨rfl,by first | exact bw.out | (rw [hq];exact bw.out)⟩
end Go.Proofs.YtcdnjeiamihhbaaGreat
