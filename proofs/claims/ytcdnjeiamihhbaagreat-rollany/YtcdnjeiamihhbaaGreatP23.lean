/- P23 -/
import Derived.Test.YtcdnjeiamihhbaaGreatP22
set_option linter.unusedVariables false
set_option maxRecDepth 4000
open Go.Proofs.Tryz
namespace Go.Proofs.YtcdnjeiamihhbaaGreat
open Go.RowKit
section
section
variable {D M:Nat->Prop} {W:World} {k:Rs} {st:St}
end
end
section
section
variable {D M:Nat->Prop} {W:World} {k:Rs} {st:St}
end
end
section
section
variable {R:Nat->Prop} {V w:World} {k:Rs} {st:St}
end
end
section
def Qcn (st:St):St:={st with zs:=Qjw st.zs}
open Classical in
noncomputable def Qbb (st:St):Int × St:=(svE st.s (1 - st.o) st.S,{st with zs:=svZ st.s st.zs (1 - st.o) st.q st.S,o:=if svE st.s (1 - st.o) st.S=0 then 1 - st.o else st.o})
def emIn (S:List Pl) (z:Int):Prop:=∀p∈S,p.2.1≠z
instance (S:List Pl) (z:Int):Decidable (emIn S z):=by unfold emIn;infer_instance
def Qv9 (st:St) (z:Int):Prop:=stZ st.L z=3/\emIn st.S z
instance (st:St) (z:Int):Decidable (Qv9 st z):=by unfold Qv9;infer_instance
section
variable {D:Nat->Prop} {W W':World} {k:Bs} {st:St} {c:Nat}
theorem StV.svstep {zs':List Zn} (h:StV D W k st c) (hs:SvSt 98 D W k.pd st.s zs' W') (hw:Wf st.s zs'):Sv D W k {st with zs:=zs'} c W':=by
 obtain ⟨O',hd,hO,ho⟩:=hs;have hlen:zs'.length=st.zs.length:=by have:=hw.len;have:=h.wf.len;omega
 have hn:∀x,k.has x->¬D x:=h.nd;refine ⟨λ x=>O' x/\x<W'.heap.size,⟨ho.blk h.hp (hn _ (.inl rfl)),hd.there,h.sg.out ho (hn _ (.inr (.inl rfl))) (hn _ (.inr (.inr (.inl rfl)))),h.mp.out ho ?_,ho.blk h.hl (hn _ (.inr (.inr (.inr (.inr (.inr (.inr rfl))))))),hw,h.fq,by rw [hlen];exact h.len,λ x hx=>hx.2,?_,h.ap⟩,λ x hx=>hO x hx.1,ho.mono (λ j e _=>.inl e)⟩
 ·rintro x (rfl | rfl | rfl)
  ·exact hn _ (.inr (.inr (.inr (.inl rfl))))
  ·exact hn _ (.inr (.inr (.inr (.inr (.inl rfl)))))
  ·exact hn _ (.inr (.inr (.inr (.inr (.inr (.inl rfl))))))
 ·rintro x hx ⟨hd,_⟩
  rcases hO x hd with h' | h'
  ·exact hn x hx h'
  ·have:=h.kin x hx;omega
theorem Qw0 (h:StV D W k st c):Calls prog 24 #[.pointer (some ⟨k.ps,0,none⟩)] W λ e w'=>(∃v,e=.returned v)/\Sv D W k (Qcn st) c w':=by
 obtain ⟨c0,_⟩:=h.cells;have HF:Hid (Calls prog 66 #[.pointer (some ⟨k.pd,0,none⟩)] W λ e w'=>(∃v,e=.returned v)/\Sv D W k (Qcn st) c w'):=(Qpz h.dv).mono (λ e w' hh=>⟨hh.1,h.dvstep hh.2 h.wf.flush⟩);clear h;go_enter func24,ntmps24
 go_wp2_with (go_at_call 66;refine HF.out.mono ?_;rintro e w2 ⟨⟨v,rfl⟩,sv⟩)
 first | go_end0 | refine bodyPost_ret (results_none rfl _ _ _) rfl ?_
 exact ⟨⟨_,rfl⟩,sv⟩
theorem Q2n (h:StV D W k st c):Calls prog 169 #[.pointer (some ⟨k.ps,0,none⟩)] W λ e w'=>e=.returned (.pointer (some ⟨k.pg,0,none⟩))/\w'=W:=by
 obtain ⟨_,c1,_⟩:=h.cells;clear h;go_enter func169,ntmps169
 go_wp2
 go_ret
 exact ⟨rfl,rfl⟩
theorem Q11 (h:StV D W k st c):Calls prog 73 #[.pointer (some ⟨k.ps,0,none⟩)] W λ e w'=>e=.returned (.bool (lowB st.L st.s.r))/\Below W.heap.size W w':=by
 obtain ⟨_,c1,_⟩:=h.cells;have HL:Hid (Calls prog 135 #[.pointer (some ⟨k.pg,0,none⟩)] W λ e w'=>e=.returned (.bool (lowB st.L st.s.r))/\Below W.heap.size W w'):=Q18 k.pg k.gg st.s.r st.L W h.sg;clear h;go_enter func73,ntmps73
 go_wp2_with (go_at_call 135;refine HL.out.mono ?_;rintro e w2 ⟨rfl,hb⟩)
 go_ret
 exact ⟨rfl,hb⟩
def Qef (la:List Int) (z:Int):Int:=if 0<=z then la.getD z.toNat 0 else 0
theorem Qz8 (z:Int) (h:StV D W k st c):Calls prog 167 #[.pointer (some ⟨k.ps,0,none⟩),.int .i64 z] W λ e w'=>e=.returned (.int .u64 (Qef st.la z))/\Below W.heap.size W w':=by
 obtain ⟨_,_,_,_,c4,_⟩:=h.cells;obtain ⟨N,hN⟩:∃N,N=st.la.length:=⟨_,rfl⟩
 rw [<-hN] at c4;by_cases h0:z<0
 ·have HE:Hid (Qef st.la z=0):=by show _=_;unfold Qef;rw [if_neg (by omega)]
  clear h;go_enter func167,ntmps167
  go_wp2
  go_ret
  exact ⟨by rw [HE.out];rfl,Below.refl _ _⟩
 ·obtain ⟨i,rfl⟩:∃i:Nat,z=i:=⟨z.toNat,by omega⟩
  by_cases h1:i<N
  ·have hlt:¬(N:Int)<=i:=by omega
   have hi':(i:Int)<N:=by omega
   have y0:W.cell? ⟨k.lb,i,none⟩=some (.int .u64 (Qef st.la i)):=by
    rw [h.hl.cell];unfold Qef;simp [Qaj,hN ▸ h1,List.getD]
   generalize Qef st.la i=v at y0 ⊢;clear h hN;go_enter func167,ntmps167
   go_wp2
   go_ret
   exact ⟨rfl,Below.refl _ _⟩
  ·have hge:(N:Int)<=i:=by omega
   have HE:Hid (Qef st.la i=0):=by show _=_;unfold Qef;simp [List.getD,List.getElem?_eq_none (by omega:st.la.length<=i)]
   clear h hN;go_enter func167,ntmps167
   go_wp2
   go_ret
   exact ⟨by rw [HE.out];rfl,Below.refl _ _⟩
set_option maxHeartbeats 4000000 in
theorem Qys (h:StV D W k st c) (hc:c<100000) (hS:st.S.length<=100000) (ho:st.o=0\/st.o=1):Calls prog 63 #[.pointer (some ⟨k.ps,0,none⟩)] W λ e w'=>e=.returned (.int .u16 (Qbb st).1)/\Sv D W k (Qbb st).2 c w':=by
 obtain ⟨c0,c1,c2,c3,c4,c5⟩:=h.cells;obtain ⟨o1,ho1⟩:∃o1,o1=1 - st.o:=⟨_,rfl⟩
 have hwo:IntKind.i64.wrap (1 - st.o)=o1:=by rw [ho1,IntKind.wrap_i64];omega
 have H:=Jh2 h ho1;have kc:∀Y,Below W.heap.size W Y->Y.cell? ⟨k.ps,0,none⟩=some (.pointer (some ⟨k.pd,0,none⟩))/\Y.cell? ⟨k.ps,2,none⟩=some (.pointer (some ⟨k.pm,0,none⟩))/\Y.cell? ⟨k.ps,3,none⟩=some (.int .u64 st.q):=λ Y hY=>⟨(h.under hY).cells.1,(h.under hY).cells.2.2.1,(h.under hY).cells.2.2.2.1⟩
 have HAl:Hid (∀Y,Below W.heap.size W Y->Calls prog 34 #[.pointer (some ⟨k.pm,0,none⟩)] Y λ e Z=>∃a n cc,e=.returned (.slice a n cc)/\(KIn Z a n st.S/\n<=cc/\Below W.heap.size W Z)/\Z.cell? ⟨k.ps,0,none⟩=some (.pointer (some ⟨k.pd,0,none⟩))/\Z.cell? ⟨k.ps,2,none⟩=some (.pointer (some ⟨k.pm,0,none⟩))/\Z.cell? ⟨k.ps,3,none⟩=some (.int .u64 st.q)):=λ Y hY=>by
  refine (Qol k.pm k.b1 k.b2 st.S c Y (h.under hY).mp hc).mono ?_
  rintro e Z ⟨a,n,cc,rfl,ow,hZ⟩;have hb:=hY.trans (hZ.mono hY.size);have hn:st.S.length=n:=(Qeh ow).1;exact ⟨a,n,cc,rfl,⟨Qj3 ow (by unfold maxLen;omega) h.mp.good.fits,Qz6 ow,hb⟩,kc Z hb⟩
 have HSa:Hid (∀Y a n cc,(KIn Y a n st.S/\n<=cc/\Below W.heap.size W Y)->Calls prog 67 #[.pointer (some ⟨k.pd,0,none⟩),.int .i64 o1,.agg #[.int .u64 st.q,.slice a n cc]] Y λ e Z=>e=.returned (.int .u16 (svE st.s o1 st.S))/\Sv D W k {st with zs:=svZ st.s st.zs o1 st.q st.S} c Z/\Z.cell? ⟨k.ps,0,none⟩=some (.pointer (some ⟨k.pd,0,none⟩))/\Z.cell? ⟨k.ps,2,none⟩=some (.pointer (some ⟨k.pm,0,none⟩))/\Z.cell? ⟨k.ps,3,none⟩=some (.int .u64 st.q)):=λ Y a n cc hY=>by
  have hv:=h.under hY.2.2;refine (Qq0 o1 st.q a n cc st.S hv.dv hv.wf hv.fq hY.1 hY.2.1).mono ?_
  rintro e Z ⟨rfl,hs⟩;have sv:=hv.svstep hs (Qok hv.wf _ _ _);obtain ⟨D9,hv9,hD9,ho9⟩:=sv;exact ⟨rfl,Sv.from hY.2.2 ⟨D9,hv9,hD9,ho9⟩,hv9.cells.1,hv9.cells.2.2.1,hv9.cells.2.2.2.1⟩
 clear h kc ho1;go_enter func63,ntmps63
 go_wp2_with fail
 go_region_held3 (λ Y=>Y.cell? ⟨k.ps,0,none⟩=some (.pointer (some ⟨k.pd,0,none⟩))/\Y.cell? ⟨k.ps,2,none⟩=some (.pointer (some ⟨k.pm,0,none⟩))/\Y.cell? ⟨k.ps,3,none⟩=some (.int .u64 st.q)) (first | exact ⟨c0,c2,c3⟩ | exact ⟨d0,d1,d2⟩ | exact ⟨e0,e1,e2⟩)
  (first
  | (go_simp;go_at_call 34;refine (HAl.out _ (by exact (Below.refl _ _).drew)).mono ?_;rintro e Y ⟨a,n,cc,rfl,hY,d0,d1,d2⟩)
  | (go_simp;go_at_call 67;refine (HSa.out _ a n cc hY).mono ?_;rintro e Z ⟨rfl,sv,e0,e1,e2⟩))
 have HZ:=Jh1 sv;clear sv hY d0 d1 d2 e0 e1 e2 c0 c1 c2 c3 c4 c5 HAl HSa;by_cases hE:svE st.s o1 st.S=0
 ·have HM:Hid (Qbb st=(0,{st with zs:=svZ st.s st.zs o1 st.q st.S,o:=o1})):=by
   have e:=H.out.2;show _=_;unfold Qbb;rw [<-e,if_pos hE,hE]
  obtain ⟨D9,hv9,hD9,ho9⟩:=HZ.out;obtain ⟨_,_,_,_,_,z5⟩:=hv9.cells;have f5:=hv9.hp.frozen 5;have HV:Hid (Sv D W k {st with zs:=svZ st.s st.zs o1 st.q st.S,o:=o1} c (Z.setCell ⟨k.ps,5,none⟩ (.int .i64 o1))):=Sv.next hD9 ho9 (hv9.setP (q:=st.q) (o:=o1) rfl hv9.fq);clear hv9 hD9 ho9 HZ;simp only at z5
  rw [hE];clear hE;go_wp2
  go_ret
  rw [HM.out];exact ⟨rfl,HV.out⟩
 ·have hE':(svE st.s o1 st.S == 0)=false:=by simpa using hE
  have HM:Hid (Qbb st=(svE st.s o1 st.S,{st with zs:=svZ st.s st.zs o1 st.q st.S})):=by
   have e:=H.out.2;show _=_;unfold Qbb;rw [<-e,if_neg hE]
  generalize svE st.s o1 st.S=E at HM hE hE' ⊢;go_wp2
  go_ret
  rw [HM.out];exact ⟨rfl,HZ.out⟩
end
end
section
section
variable {D M:Nat->Prop} {W W':World} {k:Rs} {st:St}
theorem SdV.svstep {zs':List Zn} (h:SdV D M W k st) (hs:SvSt 101 D W k.pd st.s zs' W') (hw:Wf st.s zs'):Sd (SdO D M k) W k {st with zs:=zs'} W':=by
 obtain ⟨O',hd,hO,ho⟩:=hs;have hlen:zs'.length=st.zs.length:=by have:=hw.len;have:=h.wf.len;omega
 have hn:∀x,k.has x->¬D x:=λ x hx=>(h.nd x hx).1
 refine ⟨λ x=>O' x/\x<W'.heap.size,M,⟨ho.blk h.hp (hn _ (.inl rfl)),hd.there,h.sg.out ho (hn _ (.inr (.inl rfl))) (hn _ (.inr (.inr (.inl rfl)))),h.mp.out ho (hn _ (.inr (.inr (.inr (.inl rfl))))) (λ x hx hd=>h.dm x hd hx),ho.blk h.hl (hn _ (.inr (.inr (.inr (.inr rfl))))),hw,h.fq,by rw [hlen];exact h.len,?_,?_,?_,h.ap⟩,?_,ho.mono (λ j e _=>.inl e)⟩
 ·rintro x (hx | hx)
  ·exact hx.2
  ·exact Nat.lt_of_lt_of_le (h.lt x (.inr hx)) ho.size
 ·intro x hx
  refine ⟨?_,(h.nd x hx).2⟩
  rintro ⟨hd,_⟩;rcases hO x hd with h' | h'
  ·exact hn x hx h'
  ·have:=h.kin x hx;omega
 ·rintro x ⟨hx,_⟩ hm
  rcases hO x hx with h' | h'
  ·exact h.dm x h' hm
  ·have:=h.lt x (.inr hm);omega
 ·rintro x (⟨hx,_⟩ | hx | hx)
  ·rcases hO x hx with h' | h'
   ·exact .inl (.inl h')
   ·exact .inr h'
  ·exact .inl (.inr (.inl hx))
  ·exact .inl (.inr (.inr hx))
theorem Qx9 (h:SdV D M W k st):Calls prog 171 #[.pointer (some ⟨k.ps,0,none⟩)] W λ e w'=>e=.returned (.bool (lowB st.L st.s.r))/\Below W.heap.size W w':=by
 obtain ⟨_,c1,_⟩:=h.cells;have HL:Hid (Calls prog 232 #[.pointer (some ⟨k.pg,0,none⟩)] W λ e w'=>e=.returned (.bool (lowB st.L st.s.r))/\Below W.heap.size W w'):=Qyq k.pg k.gg k.gc st.s st.L W h.sg;clear h;go_enter func171,ntmps171
 go_wp2_with (go_at_call 232;refine HL.out.mono ?_;rintro e w2 ⟨rfl,hb⟩)
 go_ret
 exact ⟨rfl,hb⟩
theorem Qum (z:Int) (h:SdV D M W k st):Calls prog 168 #[.pointer (some ⟨k.ps,0,none⟩),.int .i64 z] W λ e w'=>e=.returned (.int .u64 (Qef st.la z))/\Below W.heap.size W w':=by
 obtain ⟨_,_,_,_,c4,_⟩:=h.cells;obtain ⟨N,hN⟩:∃N,N=st.la.length:=⟨_,rfl⟩
 rw [<-hN] at c4;by_cases h0:z<0
 ·have HE:Hid (Qef st.la z=0):=by show _=_;unfold Qef;rw [if_neg (by omega)]
  clear h;go_enter func168,ntmps168
  go_wp2
  go_ret
  exact ⟨by rw [HE.out];rfl,Below.refl _ _⟩
 ·obtain ⟨i,rfl⟩:∃i:Nat,z=i:=⟨z.toNat,by omega⟩
  by_cases h1:i<N
  ·have hlt:¬(N:Int)<=i:=by omega
   have hi':(i:Int)<N:=by omega
   have y0:W.cell? ⟨k.lb,i,none⟩=some (.int .u64 (Qef st.la i)):=by
    rw [h.hl.cell];unfold Qef;simp [Qaj,hN ▸ h1,List.getD]
   generalize Qef st.la i=v at y0 ⊢;clear h hN;go_enter func168,ntmps168
   go_wp2
   go_ret
   exact ⟨rfl,Below.refl _ _⟩
  ·have hge:(N:Int)<=i:=by omega
   have HE:Hid (Qef st.la i=0):=by show _=_;unfold Qef;simp [List.getD,List.getElem?_eq_none (by omega:st.la.length<=i)]
   clear h hN;go_enter func168,ntmps168
   go_wp2
   go_ret
   exact ⟨by rw [HE.out];rfl,Below.refl _ _⟩
theorem Q4c {w:World} {a:Option Addr} {n:Nat} {L:List Pl} (h:PlIn w a n L) (hn:n<=maxLen) (hf:∀x∈L,Qdu x):KIn w a n L:=by
 refine ⟨h.1,hn,hf,?_⟩
 rcases h.2 with h0 | ⟨g,ha,hc⟩
 ·exact .inl h0
 ·refine .inr ⟨g,0,ha,λ i x hx j v hv=>?_⟩
  obtain ⟨c0,c1,c2,c3⟩:=hc i x hx;rw [Nat.zero_add];match j,hv with
  | 0,hv=>cases hv;exact c0
  | 1,hv=>cases hv;exact c1
  | 2,hv=>cases hv;exact c2
  | 3,hv=>cases hv;exact c3
  | j+4,hv=>simp [plL] at hv
set_option maxHeartbeats 4000000 in
theorem Qt4 (h:SdV D M W k st) (hS:st.S.length<=10000) (ho:st.o=0\/st.o=1):Calls prog 108 #[.pointer (some ⟨k.ps,0,none⟩)] W λ e w'=>e=.returned (.int .i64 (Qbb st).1)/\Sd (SdO D M k) W k (Qbb st).2 w':=by
 obtain ⟨c0,c1,c2,c3,c4,c5⟩:=h.cells;obtain ⟨o1,ho1⟩:∃o1,o1=1 - st.o:=⟨_,rfl⟩
 have hwo:IntKind.i64.wrap (1 - st.o)=o1:=by rw [ho1,IntKind.wrap_i64];omega
 have H:=Jh2 h ho1;have kc:∀Y,Below W.heap.size W Y->Y.cell? ⟨k.ps,0,none⟩=some (.pointer (some ⟨k.pd,0,none⟩))/\Y.cell? ⟨k.ps,2,none⟩=some (.pointer (some ⟨k.pm,0,none⟩))/\Y.cell? ⟨k.ps,3,none⟩=some (.int .u64 st.q)/\Y.cell? ⟨k.ps,5,none⟩=some (.int .i64 st.o):=λ Y hY=>⟨(h.under hY).cells.1,(h.under hY).cells.2.2.1,(h.under hY).cells.2.2.2.1,(h.under hY).cells.2.2.2.2.2⟩
 have HAl:Hid (∀Y,Below W.heap.size W Y->Calls prog 107 #[.pointer (some ⟨k.pm,0,none⟩)] Y λ e Z=>∃a n cc,e=.returned (.slice a n cc)/\(KIn Z a n st.S/\n<=n/\Below W.heap.size W Z)/\Z.cell? ⟨k.ps,0,none⟩=some (.pointer (some ⟨k.pd,0,none⟩))/\Z.cell? ⟨k.ps,2,none⟩=some (.pointer (some ⟨k.pm,0,none⟩))/\Z.cell? ⟨k.ps,3,none⟩=some (.int .u64 st.q)/\Z.cell? ⟨k.ps,5,none⟩=some (.int .i64 st.o)):=λ Y hY=>by
  refine (Qp0 k.pm st.S Y (h.under hY).mp.d hS).mono ?_
  rintro e Z ⟨a,cc,rfl,ow,hZ⟩;have hb:=hY.trans (hZ.mono hY.size);exact ⟨a,st.S.length,cc,rfl,⟨Q4c ow (by unfold maxLen;omega) h.mp.2.fits,Nat.le_refl _,hb⟩,kc Z hb⟩
 have HSa:Hid (∀Y a n cc,(KIn Y a n st.S/\n<=n/\Below W.heap.size W Y)->Calls prog 111 #[.pointer (some ⟨k.pd,0,none⟩),.int .i64 o1,.agg #[.int .u64 st.q,.slice a n cc]] Y λ e Z=>e=.returned (.int .i64 (svE st.s o1 st.S))/\Sd (SdO D M k) W k {st with zs:=svZ st.s st.zs o1 st.q st.S} Z/\Z.cell? ⟨k.ps,0,none⟩=some (.pointer (some ⟨k.pd,0,none⟩))/\Z.cell? ⟨k.ps,2,none⟩=some (.pointer (some ⟨k.pm,0,none⟩))/\Z.cell? ⟨k.ps,3,none⟩=some (.int .u64 st.q)/\Z.cell? ⟨k.ps,5,none⟩=some (.int .i64 st.o)):=λ Y a n cc hY=>by
  have hv:=h.under hY.2.2;refine (Qv8 o1 st.q a n cc st.S hv.dv hv.wf hv.fq hY.1 (by have:=hY.1.1;omega)).mono ?_
  rintro e Z ⟨rfl,hs⟩;have sv:=hv.svstep hs (Qok hv.wf _ _ _);obtain ⟨D9,M9,hv9,hD9,ho9⟩:=sv;exact ⟨rfl,Sd.from hY.2.2 ⟨D9,M9,hv9,hD9,ho9⟩,hv9.cells.1,hv9.cells.2.2.1,hv9.cells.2.2.2.1,hv9.cells.2.2.2.2.2⟩
 clear h kc ho1;go_enter func108,ntmps108
 go_wp2_with fail
 go_region_held3 (λ Y=>Y.cell? ⟨k.ps,0,none⟩=some (.pointer (some ⟨k.pd,0,none⟩))/\Y.cell? ⟨k.ps,2,none⟩=some (.pointer (some ⟨k.pm,0,none⟩))/\Y.cell? ⟨k.ps,3,none⟩=some (.int .u64 st.q)/\Y.cell? ⟨k.ps,5,none⟩=some (.int .i64 st.o)) (first | exact ⟨c0,c2,c3,c5⟩ | exact ⟨d0,d1,d2,d3⟩ | exact ⟨e0,e1,e2,e3⟩)
  (first
  | (go_simp;go_at_call 107;refine (HAl.out _ (by exact (Below.refl _ _).drew)).mono ?_;rintro e Y ⟨a,n,cc,rfl,hY,d0,d1,d2,d3⟩)
  | (go_simp;go_at_call 111;refine (HSa.out _ a n cc hY).mono ?_;rintro e Z ⟨rfl,sv,e0,e1,e2,e3⟩))
 have HZ:=Jh1 sv;clear sv hY d0 d1 d2 d3 e0 e1 e2 e3 c0 c1 c2 c3 c4 c5 HAl HSa;by_cases hE:svE st.s o1 st.S=0
 ·have HM:Hid (Qbb st=(0,{st with zs:=svZ st.s st.zs o1 st.q st.S,o:=o1})):=by
   have e:=H.out.2;show _=_;unfold Qbb;rw [<-e,if_pos hE,hE]
  obtain ⟨D9,M9,hv9,hD9,ho9⟩:=HZ.out;obtain ⟨_,_,_,_,_,z5⟩:=hv9.cells;have f5:=hv9.hp.frozen 5;have HV:Hid (Sd (SdO D M k) W k {st with zs:=svZ st.s st.zs o1 st.q st.S,o:=o1} (Z.setCell ⟨k.ps,5,none⟩ (.int .i64 o1))):=Sd.next hD9 ho9 (hv9.setP (q:=st.q) (o:=o1) rfl hv9.fq);clear hv9 hD9 ho9 HZ;simp only at z5
  rw [hE];clear hE;go_wp2
  go_ret
  rw [HM.out];exact ⟨rfl,HV.out⟩
 ·have hE':(svE st.s o1 st.S == 0)=false:=by simpa using hE
  have HM:Hid (Qbb st=(svE st.s o1 st.S,{st with zs:=svZ st.s st.zs o1 st.q st.S})):=by
   have e:=H.out.2;show _=_;unfold Qbb;rw [<-e,if_neg hE]
  generalize svE st.s o1 st.S=E at HM hE hE' ⊢;go_wp2
  go_ret
  rw [HM.out];exact ⟨rfl,HZ.out⟩
end
end
theorem Qt7 (w:World):Calls prog 102 #[] w λ e w'=>e=.returned (.pointer (some ⟨w.heap.size,0,none⟩))/\Blk w' w.heap.size [.slice none 0 0] 252/\Below w.heap.size w w':=by
 go_enter func102,ntmps102
 go_wp2
 go_ret
 exact ⟨rfl,Blk.new' rfl rfl,(Below.refl _ _).alloc (Nat.le_refl _) _⟩
theorem Qln {O:Nat->Prop} {W V:World} {p:Nat} {s:Sh} {zs:List Zn} {k:Rs} {q o:Int} (hd:Dv 101 O W p s zs) (hw:Wf s zs) (hb:Below W.heap.size W V) (hq:Qai q) (hpd:k.pd=p) (hz:(s.z.toNat:Int)=s.z)
  (hs:SegR V k.pg k.gg k.gc s (newZ s.z.toNat)) (hm:Blk V k.pm [.slice none 0 0] 252) (hl:Blk V k.lb (Qaj .u64 (List.replicate s.z.toNat 0)) 45) (hp:Blk V k.ps (sdL k q s.z.toNat o) 48)
  (g1:W.heap.size<=k.pg) (g2:W.heap.size<=k.gg) (g3:W.heap.size<=k.pm) (g6:W.heap.size<=k.lb) (g7:W.heap.size<=k.ps) :
  SdV (λ x=>O x/\x<W.heap.size) (λ _=>False) V k (Qfr s zs q o):=by
 have h6:=hw.right.1;have hlen:=hw.len;have a1:k.ps≠k.pg:=blk_ne' hp hs.hp (by decide);have a2:k.ps≠k.pm:=blk_ne' hp hm (by decide);have a3:k.ps≠k.lb:=blk_ne' hp hl (by decide);have a4:k.pg≠k.pm:=blk_ne' hs.hp hm (by decide);have a5:k.pg≠k.lb:=blk_ne' hs.hp hl (by decide);have a6:k.pm≠k.lb:=blk_ne' hm hl (by decide);have own:∀{x:Nat} {L:List Value} {t:TypeId},Blk V x L t->t≠5->x≠k.gg:=λ hb ht e=>Qcp hs.hg hb ht (by rw [e];rfl)
 have b1:k.ps≠k.gg:=own hp (by decide);have b2:k.pg≠k.gg:=own hs.hp (by decide);have b3:k.pm≠k.gg:=own hm (by decide);have b4:k.lb≠k.gg:=own hl (by decide);refine ⟨?_,?_,hs,⟨⟨none,0,0,hm,World.ownsRow_nil _ _ _ _,λ g h=>by cases h⟩,good_nil⟩,hl,hw,hq,⟨?_,?_⟩,?_,?_,λ _ _ h=>h,?_⟩
 ·show Blk V k.ps (sdL k q (List.replicate s.z.toNat (0:Int)).length o) 48
  rw [List.length_replicate];exact hp
 ·rw [hpd]
  obtain ⟨g,c,vs,hv⟩:=hd.there;exact ⟨g,c,vs,hv.under hb⟩
 ·show (newZ s.z.toNat).length=zs.length
  rw [Qcq (by omega)];omega
 ·show (List.replicate s.z.toNat (0:Int)).length=zs.length
  rw [List.length_replicate];omega
 ·rintro x (⟨_,hx⟩ | hx)
  ·exact Nat.lt_of_lt_of_le hx hb.size
  ·exact hx.elim
 ·rintro x hx
  refine ⟨λ hd=>?_,λ h=>h⟩
  rcases hx with rfl | rfl | rfl | rfl | rfl <;> omega
 ·simp only [List.nodup_cons,List.mem_cons,List.not_mem_nil,or_false,not_or,List.nodup_nil,and_true,not_false_eq_true]
  exact ⟨⟨a1,b1,a2,a3⟩,⟨b2,a4,a5⟩,⟨λ e=>b3 e.symm,λ e=>b4 e.symm⟩,a6⟩
section
def Bo (B:Nat) (W:World) (ps rs:Nat) (st:St) (m:Nat) (w:World):Prop:=
 ∃D k D' M' k',k.ps=ps/\k'.ps=rs/\StV D w k st m/\SdV D' M' w k' st/\(∀x,StO D k x->B<=x)/\(∀x,SdO D' M' k' x->B<=x)/\(∀x,StO D k x->¬SdO D' M' k' x)/\Below B W w/\st.S.length<=m
section
variable {B:Nat} {W w w':World} {ps rs:Nat} {st st':St} {m m':Nat}
theorem StV.all {D:Nat->Prop} {k:Bs} {c:Nat} (h:StV D w k st c):∀x,StO D k x->x<w.heap.size:=by
 rintro x (hx | hx)
 ·exact h.lt x hx
 ·exact h.kin x hx
theorem Bo.under (h:Bo B W ps rs st m w) (hb:Below w.heap.size w w'):Bo B W ps rs st m w':=by
 obtain ⟨D,k,D',M',k',h1,h2,h3,h4,h5,h6,h7,h8,h9⟩:=h;exact ⟨D,k,D',M',k',h1,h2,h3.under hb,h4.under hb,h5,h6,h7,h8.trans (hb.mono (by have e:=h5 k.ps (.inr (.inl rfl));have e2:=h3.hp.lt;omega)),h9⟩
end
end
section
section
variable {B:Nat} {W w w':World} {ps rs:Nat} {st:St} {m:Nat}
end
end
section
section
variable {B:Nat} {W w:World} {ps rs:Nat} {st:St} {m:Nat}
end
end
section
section
variable {B:Nat} {W w:World} {ps rs:Nat} {st:St} {m:Nat}
set_option maxHeartbeats 4000000 in
theorem Q2q (h:Bo B W ps rs st m w) (hm:m<=10000) :
  Calls prog 109 #[.pointer (some ⟨ps,0,none⟩),.pointer (some ⟨rs,0,none⟩)] w λ e w'=>e=.returned (.bool true)/\Below w.heap.size w w':=by
 obtain ⟨D,k,D',M',k',rfl,rfl,h3,h4,h5,h6,h7,h8,h9⟩:=h;have H:Hid (∀Y,Below w.heap.size w Y->StV D Y k st m/\SdV D' M' Y k' st):=λ Y hY=>⟨h3.under hY,h4.under hY⟩
 obtain ⟨Z,hZ⟩:∃Z:Nat,st.s.z=Z:=⟨st.s.z.toNat,by have:=h3.wf.right.1;omega⟩
 have hZ1:Z<=256:=by have:=h3.wf.right.2.1;omega
 have HZ:=Jh1 hZ;have HS:Hid (st.S.length<=10000/\m<100000/\Wf st.s st.zs):=⟨by omega,by omega,h3.wf⟩
 clear h3 h4 h5 h6 h7 h8 h9 hZ;have HC:Hid (∀Y,Below w.heap.size w Y->Y.cell? ⟨k'.ps,0,none⟩=some (.pointer (some ⟨k'.pd,0,none⟩))/\Y.cell? ⟨k'.ps,1,none⟩=some (.pointer (some ⟨k'.pg,0,none⟩))/\Y.cell? ⟨k'.ps,2,none⟩=some (.pointer (some ⟨k'.pm,0,none⟩))/\Y.cell? ⟨k'.ps,3,none⟩=some (.int .u64 st.q)/\Y.cell? ⟨k'.pd,0,none⟩=some (.int .i64 (Z:Nat))):=λ Y hY=>by
  obtain ⟨hv,hd⟩:=H.out Y hY;have e:=hd.dcells.1;rw [HZ.out] at e;exact ⟨hd.cells.1,hd.cells.2.1,hd.cells.2.2.1,hd.cells.2.2.2.1,e⟩
 have HLa:Hid (∀(j:Nat) Y,Below w.heap.size w Y->Calls prog 167 #[.pointer (some ⟨k.ps,0,none⟩),.int .i64 (j:Nat)] Y λ e X=>e=.returned (.int .u64 (Qef st.la j))/\Below w.heap.size w X/\X.cell? ⟨k'.ps,1,none⟩=some (.pointer (some ⟨k'.pg,0,none⟩))):=λ j Y hY=>(Qz8 (j:Nat) (H.out Y hY).1).mono (λ e X hh=>⟨hh.1,hY.trans (hh.2.mono hY.size),(HC.out X (hY.trans (hh.2.mono hY.size))).2.1⟩)
 have HDLa:Hid (∀(j:Nat) Y,Below w.heap.size w Y->Calls prog 168 #[.pointer (some ⟨k'.ps,0,none⟩),.int .i64 (j:Nat)] Y λ e X=>e=.returned (.int .u64 (Qef st.la j))/\Below w.heap.size w X/\X.cell? ⟨k'.ps,1,none⟩=some (.pointer (some ⟨k'.pg,0,none⟩))):=λ j Y hY=>(Qum (j:Nat) (H.out Y hY).2).mono (λ e X hh=>⟨hh.1,hY.trans (hh.2.mono hY.size),(HC.out X (hY.trans (hh.2.mono hY.size))).2.1⟩)
 have HSg:Hid (∀Y,Below w.heap.size w Y->Calls prog 169 #[.pointer (some ⟨k.ps,0,none⟩)] Y λ e X=>e=.returned (.pointer (some ⟨k.pg,0,none⟩))/\Below w.heap.size w X/\X.cell? ⟨k'.ps,1,none⟩=some (.pointer (some ⟨k'.pg,0,none⟩))):=λ Y hY=>(Q2n (H.out Y hY).1).mono (λ e X hh=>⟨hh.1,by rw [hh.2];exact hY,by rw [hh.2];exact (HC.out Y hY).2.1⟩)
 have HGs:Hid (∀(j:Nat) Y,Below w.heap.size w Y->Calls prog 133 #[.pointer (some ⟨k.pg,0,none⟩),.int .i64 (j:Nat)] Y λ e X=>e=.returned (.int .u8 (stZ st.L j))/\Below w.heap.size w X/\X.cell? ⟨k'.ps,1,none⟩=some (.pointer (some ⟨k'.pg,0,none⟩))):=λ j Y hY=>(Qnl k.pg k.gg st.s.r st.L (j:Nat) Y (H.out Y hY).1.sg).mono (λ e X hh=>⟨hh.1,by rw [hh.2];exact hY,by rw [hh.2];exact (HC.out Y hY).2.1⟩)
 have HDGs:Hid (∀(j:Nat) Y,Below w.heap.size w Y->Calls prog 170 #[.pointer (some ⟨k'.pg,0,none⟩),.int .i64 (j:Nat)] Y λ e X=>e=.returned (.int .u8 (stZ st.L j))/\Below w.heap.size w X/\X.cell? ⟨k'.ps,1,none⟩=some (.pointer (some ⟨k'.pg,0,none⟩))):=λ j Y hY=>(Qs0 k'.pg k'.gg k'.gc st.s st.L (j:Nat) Y (H.out Y hY).2.sg).mono (λ e X hh=>⟨hh.1,by rw [hh.2];exact hY,by rw [hh.2];exact (HC.out Y hY).2.1⟩)
 have HT:Hid (∀X,Below w.heap.size w X->X.cell? ⟨k'.ps,0,none⟩=some (.pointer (some ⟨k'.pd,0,none⟩))/\X.cell? ⟨k'.ps,2,none⟩=some (.pointer (some ⟨k'.pm,0,none⟩))/\X.cell? ⟨k'.ps,3,none⟩=some (.int .u64 st.q)):=λ X hX=>by obtain ⟨a0,a1,a2,a3,a4⟩:=HC.out X hX;exact ⟨a0,a2,a3⟩
 have HSq:Hid (∀Y,Below w.heap.size w Y->Calls prog 21 #[.pointer (some ⟨k.ps,0,none⟩)] Y λ e X=>e=.returned (.int .u64 st.q)/\Below w.heap.size w X/\X.cell? ⟨k'.ps,0,none⟩=some (.pointer (some ⟨k'.pd,0,none⟩))/\X.cell? ⟨k'.ps,2,none⟩=some (.pointer (some ⟨k'.pm,0,none⟩))/\X.cell? ⟨k'.ps,3,none⟩=some (.int .u64 st.q)):=λ Y hY=>(Qul (H.out Y hY).1).mono (λ e X hh=>⟨hh.1,by rw [hh.2];exact hY,by rw [hh.2];exact HT.out Y hY⟩)
 have HLo:Hid (∀Y,Below w.heap.size w Y->Calls prog 73 #[.pointer (some ⟨k.ps,0,none⟩)] Y λ e X=>e=.returned (.bool (lowB st.L st.s.r))/\Below w.heap.size w X/\X.cell? ⟨k'.ps,0,none⟩=some (.pointer (some ⟨k'.pd,0,none⟩))/\X.cell? ⟨k'.ps,2,none⟩=some (.pointer (some ⟨k'.pm,0,none⟩))/\X.cell? ⟨k'.ps,3,none⟩=some (.int .u64 st.q)):=λ Y hY=>(Q11 (H.out Y hY).1).mono (λ e X hh=>⟨hh.1,hY.trans (hh.2.mono hY.size),HT.out _ (hY.trans (hh.2.mono hY.size))⟩)
 have HDLo:Hid (∀Y,Below w.heap.size w Y->Calls prog 171 #[.pointer (some ⟨k'.ps,0,none⟩)] Y λ e X=>e=.returned (.bool (lowB st.L st.s.r))/\Below w.heap.size w X/\X.cell? ⟨k'.ps,0,none⟩=some (.pointer (some ⟨k'.pd,0,none⟩))/\X.cell? ⟨k'.ps,2,none⟩=some (.pointer (some ⟨k'.pm,0,none⟩))/\X.cell? ⟨k'.ps,3,none⟩=some (.int .u64 st.q)):=λ Y hY=>(Qx9 (H.out Y hY).2).mono (λ e X hh=>⟨hh.1,hY.trans (hh.2.mono hY.size),HT.out _ (hY.trans (hh.2.mono hY.size))⟩)
 have HMp:Hid (∀Y,Below w.heap.size w Y->Calls prog 33 #[.pointer (some ⟨k.ps,0,none⟩)] Y λ e X=>e=.returned (.pointer (some ⟨k.pm,0,none⟩))/\Below w.heap.size w X/\X.cell? ⟨k'.ps,0,none⟩=some (.pointer (some ⟨k'.pd,0,none⟩))/\X.cell? ⟨k'.ps,2,none⟩=some (.pointer (some ⟨k'.pm,0,none⟩))/\X.cell? ⟨k'.ps,3,none⟩=some (.int .u64 st.q)):=λ Y hY=>(Q1i (H.out Y hY).1).mono (λ e X hh=>⟨hh.1,by rw [hh.2];exact hY,by rw [hh.2];exact HT.out Y hY⟩)
 have HDv:Hid (∀Y,Below w.heap.size w Y->Calls prog 17 #[.pointer (some ⟨k.ps,0,none⟩)] Y λ e X=>e=.returned (.pointer (some ⟨k.pd,0,none⟩))/\Below w.heap.size w X/\X.cell? ⟨k'.ps,0,none⟩=some (.pointer (some ⟨k'.pd,0,none⟩))/\X.cell? ⟨k'.ps,2,none⟩=some (.pointer (some ⟨k'.pm,0,none⟩))/\X.cell? ⟨k'.ps,3,none⟩=some (.int .u64 st.q)):=λ Y hY=>(Qwk (H.out Y hY).1).mono (λ e X hh=>⟨hh.1,by rw [hh.2];exact hY,by rw [hh.2];exact HT.out Y hY⟩)
 have HAl:Hid (∀Y,Below w.heap.size w Y->Calls prog 34 #[.pointer (some ⟨k.pm,0,none⟩)] Y λ e X=>∃a cc,e=.returned (.slice a st.S.length cc)/\(PlIn X a st.S.length st.S/\Below w.heap.size w X)/\X.cell? ⟨k'.ps,0,none⟩=some (.pointer (some ⟨k'.pd,0,none⟩))/\X.cell? ⟨k'.ps,2,none⟩=some (.pointer (some ⟨k'.pm,0,none⟩))/\X.cell? ⟨k'.ps,3,none⟩=some (.int .u64 st.q)):=λ Y hY=>by
  refine (Qol k.pm k.b1 k.b2 st.S m Y (H.out Y hY).1.mp (J2 HS)).mono ?_
  rintro e X ⟨a,n,cc,rfl,ow,hX⟩;have hb:=hY.trans (hX.mono hY.size);have hn:st.S.length=n:=(Qeh ow).1;subst hn;exact ⟨a,cc,rfl,⟨Qeh ow,hb⟩,HT.out X hb⟩
 have HDAl:Hid (∀Y a,PlIn Y a st.S.length st.S->Below w.heap.size w Y->Calls prog 107 #[.pointer (some ⟨k'.pm,0,none⟩)] Y λ e X=>∃b cc,e=.returned (.slice b st.S.length cc)/\(PlIn X a st.S.length st.S/\PlIn X b st.S.length st.S/\Below w.heap.size w X)/\X.cell? ⟨k'.ps,0,none⟩=some (.pointer (some ⟨k'.pd,0,none⟩))/\X.cell? ⟨k'.ps,2,none⟩=some (.pointer (some ⟨k'.pm,0,none⟩))/\X.cell? ⟨k'.ps,3,none⟩=some (.int .u64 st.q)):=λ Y a ha hY=>by
  refine (Qp0 k'.pm st.S Y (H.out Y hY).2.mp.d HS.out.1).mono ?_
  rintro e X ⟨b,cc,rfl,ow,hX⟩;have hb:=hY.trans (hX.mono hY.size);exact ⟨b,cc,rfl,⟨ha.below hX,ow,hb⟩,HT.out X hb⟩
 have HSp:Hid (∀Y a b c1 c2,(PlIn Y a st.S.length st.S/\PlIn Y b st.S.length st.S/\Below w.heap.size w Y)->Calls prog 172 #[.slice a st.S.length c1,.slice b st.S.length c2] Y λ e X=>e=.returned (.bool true)/\Below w.heap.size w X/\X.cell? ⟨k'.ps,0,none⟩=some (.pointer (some ⟨k'.pd,0,none⟩))/\X.cell? ⟨k'.ps,2,none⟩=some (.pointer (some ⟨k'.pm,0,none⟩))/\X.cell? ⟨k'.ps,3,none⟩=some (.int .u64 st.q)):=λ Y a b c1 c2 hh=>(Qmb a b st.S.length c1 c2 st.S Y hh.1 hh.2.1 (by have:=HS.out.1;omega)).mono (λ e X h2=>⟨h2.1,hh.2.2.trans (h2.2.mono hh.2.2.size),HT.out _ (hh.2.2.trans (h2.2.mono hh.2.2.size))⟩)
 have HZn:Hid (∀Y,Below w.heap.size w Y->Calls prog 22 #[.pointer (some ⟨k.pd,0,none⟩)] Y λ e X=>∃a n cc,e=.returned (.slice a n cc)/\(ZsIn X a n st.zs/\Below w.heap.size w X)/\X.cell? ⟨k'.ps,0,none⟩=some (.pointer (some ⟨k'.pd,0,none⟩))/\X.cell? ⟨k'.ps,2,none⟩=some (.pointer (some ⟨k'.pm,0,none⟩))/\X.cell? ⟨k'.ps,3,none⟩=some (.int .u64 st.q)):=λ Y hY=>by
  refine (Qzd (H.out Y hY).1.dv (Jz2 HS)).mono ?_
  rintro e X ⟨v,rfl,hz,hX⟩;have hb:=hY.trans (hX.mono hY.size);obtain ⟨a,cc,rfl⟩:=hz.slice;exact ⟨a,_,cc,rfl,⟨hz.zsin (Jz2 HS).short,hb⟩,HT.out X hb⟩
 have HDZn:Hid (∀Y a n,ZsIn Y a n st.zs->Below w.heap.size w Y->Calls prog 174 #[.pointer (some ⟨k'.pd,0,none⟩)] Y λ e X=>∃b n2 cc,e=.returned (.slice b n2 cc)/\(ZsIn X a n st.zs/\ZsIn X b n2 st.zs/\Below w.heap.size w X)/\X.cell? ⟨k'.ps,0,none⟩=some (.pointer (some ⟨k'.pd,0,none⟩))/\X.cell? ⟨k'.ps,2,none⟩=some (.pointer (some ⟨k'.pm,0,none⟩))/\X.cell? ⟨k'.ps,3,none⟩=some (.int .u64 st.q)):=λ Y a n ha hY=>by
  refine (Qub (H.out Y hY).2.dv (Jz2 HS).short).mono ?_
  rintro e X ⟨v,rfl,hz,hX⟩;have hb:=hY.trans (hX.mono hY.size);obtain ⟨b,cc,rfl⟩:=hz.slice;exact ⟨b,_,cc,rfl,⟨ha.below hX,hz.zsin (Jz2 HS).short,hb⟩,HT.out X hb⟩
 have HSz:Hid (∀Y a n b n2 c1 c2,(ZsIn Y a n st.zs/\ZsIn Y b n2 st.zs/\Below w.heap.size w Y)->Calls prog 173 #[.slice a n c1,.slice b n2 c2] Y λ e X=>e=.returned (.bool true)/\Below w.heap.size w X/\X.cell? ⟨k'.ps,0,none⟩=some (.pointer (some ⟨k'.pd,0,none⟩))/\X.cell? ⟨k'.ps,2,none⟩=some (.pointer (some ⟨k'.pm,0,none⟩))/\X.cell? ⟨k'.ps,3,none⟩=some (.int .u64 st.q)):=λ Y a n b n2 c1 c2 hh=>(Qn7 a n c1 b n2 c2 st.zs Y hh.1 hh.2.1).mono (λ e X h2=>by
  obtain ⟨rfl,kk,rfl⟩:=h2;have hb:=Go.below_drewN hh.2.2 kk;exact ⟨rfl,hb,HT.out _ hb⟩)
 go_enter func109,ntmps109
 go_wp2_with fail
 go_loopw [5] (λ x wr=>∃j:Nat,x=.int .i64 j/\j<=Z/\Below w.heap.size w wr) (λ x _=>Z - (intOf x).toNat)
 case atStart=>exact ⟨0,rfl,Nat.zero_le _,Below.refl _ _⟩
 case round=>
  obtain ⟨j,rfl,hj,hb⟩:=hrel;obtain ⟨c0,c1,c2,c3,cd⟩:=HC.out wr hb;have HB:=Jh1 hb;clear hb;rcases Nat.lt_or_ge j Z with hlt | hge
  ·have hj':(j:Int)<Z:=by omega
   have hwj:IntKind.i64.wrap ((j:Int)+1)=(j:Int)+1:=by rw [IntKind.wrap_i64];omega
   have hL:=HLa.out j;have hD:=HDLa.out j;have hG:=HGs.out j;have hDG:=HDGs.out j;generalize Qef st.la (j:Nat)=L1 at hL hD;generalize stZ st.L (j:Nat)=S1 at hG hDG;clear HLa HDLa HGs HDGs;go_wp2_with fail
   go_region_held3 (λ Y=>Y.cell? ⟨k'.ps,1,none⟩=some (.pointer (some ⟨k'.pg,0,none⟩))) (first | exact c1 | exact d1 | exact d2 | exact d3 | exact d4 | exact d5)
    (first
    | (go_simp;go_at_call 167;refine (hL _ (by exact HB.out.drew)).mono ?_;rintro e Y1 ⟨rfl,b1,d1⟩)
    | (go_simp;go_at_call 168;refine (hD _ (by exact b1)).mono ?_;rintro e Y2 ⟨rfl,b2,d2⟩)
    | (go_simp;go_at_call 169;refine (HSg.out _ (by exact b2)).mono ?_;rintro e Y3 ⟨rfl,b3,d3⟩)
    | (go_simp;go_at_call 133;refine (hG _ (by exact b3)).mono ?_;rintro e Y4 ⟨rfl,b4,d4⟩)
    | (go_simp;go_at_call 170;refine (hDG _ (by exact b4)).mono ?_;rintro e Y5 ⟨rfl,b5,d5⟩))
   have H5:=Jh1 b5;clear b1 b2 b3 b4 b5 d1 d2 d3 d4 d5 c0 c1 c2 c3 cd;clear HSq HLo HDLo HMp HDv HAl HDAl HSp HZn HDZn HSz HT;go_wp2
   go_roundw
   case rel=>exact ⟨j+1,by simp,by omega,H5.out⟩
   case measure=>simp [intOf];omega
  ·have hge':¬(j:Int)<Z:=by omega
   clear HLa HDLa HGs HDGs HSg;generalize lowB st.L st.s.r=lo at HLo HDLo;go_wp2_with fail
   go_region_held3 (λ Y=>Y.cell? ⟨k'.ps,0,none⟩=some (.pointer (some ⟨k'.pd,0,none⟩))/\Y.cell? ⟨k'.ps,2,none⟩=some (.pointer (some ⟨k'.pm,0,none⟩))/\Y.cell? ⟨k'.ps,3,none⟩=some (.int .u64 st.q)) (first | exact ⟨c0,c2,c3⟩ | exact d1 | exact d2 | exact d3 | exact d4 | exact d5 | exact d6 | exact d7 | exact d8 | exact d9 | exact d10 | exact d11)
    (first
    | (go_simp;go_at_call 21;refine (HSq.out _ (by exact HB.out.drew)).mono ?_;rintro e Y1 ⟨rfl,b1,d1⟩)
    | (go_simp;go_at_call 73;refine (HLo.out _ (by exact b1)).mono ?_;rintro e Y2 ⟨rfl,b2,d2⟩)
    | (go_simp;go_at_call 171;refine (HDLo.out _ (by exact b2)).mono ?_;rintro e Y3 ⟨rfl,b3,d3⟩)
    | (go_simp;go_at_call 33;refine (HMp.out _ (by exact b3)).mono ?_;rintro e Y4 ⟨rfl,b4,d4⟩)
    | (go_simp;go_at_call 34;refine (HAl.out _ (by exact b4)).mono ?_;rintro e Y5 ⟨a5,cc5,rfl,b5,d5⟩)
    | (go_simp;go_at_call 107;refine (HDAl.out _ a5 (by exact b5.1) (by exact b5.2)).mono ?_;rintro e Y6 ⟨a6,cc6,rfl,b6,d6⟩)
    | (go_simp;go_at_call 172;refine (HSp.out _ a5 a6 cc5 cc6 (by exact b6)).mono ?_;rintro e Y7 ⟨rfl,b7,d7⟩)
    | (go_simp;go_at_call 17;refine (HDv.out _ (by exact b7)).mono ?_;rintro e Y8 ⟨rfl,b8,d8⟩)
    | (go_simp;go_at_call 22;refine (HZn.out _ (by exact b8)).mono ?_;rintro e Y9 ⟨a9,n9,cc9,rfl,b9,d9⟩)
    | (go_simp;go_at_call 174;refine (HDZn.out _ a9 n9 (by exact b9.1) (by exact b9.2)).mono ?_;rintro e Y10 ⟨a10,n10,cc10,rfl,b10,d10⟩)
    | (go_simp;go_at_call 173;refine (HSz.out _ a9 n9 a10 n10 cc9 cc10 (by exact b10)).mono ?_;rintro e Y11 ⟨rfl,b11,d11⟩))
   have H11:=Jh1 b11;clear b1 b2 b3 b4 b5 b6 b7 b8 b9 b10 b11 d1 d2 d3 d4 d5 d6 d7 d8 d9 d10 d11 c0 c1 c2 c3 cd;clear HSq HLo HDLo HMp HDv HAl HDAl HSp HZn HDZn HSz HT;go_wp2
   go_ret
   exact ⟨by simp,H11.out⟩
end
end

section
theorem Qzi (b:Bool) (w:World):Calls prog 50 #[.bool b] w λ e w'=>e=.returned (.int .i64 (trB b))/\w'=w:=by
 cases b
 all_goals (
  go_enter func50,ntmps50
  go_wp2
  go_ret
  exact ⟨rfl,rfl⟩)
section
variable {B:Nat} {W w:World} {ps rs:Nat} {st:St} {m:Nat}
theorem Q17 (h:Bo B W ps rs st m w) (hm:m<=10000) :
  Calls prog 49 #[.pointer (some ⟨ps,0,none⟩),.pointer (some ⟨rs,0,none⟩)] w λ e w'=>e=.returned (.int .i64 1)/\Bo B W ps rs st m w':=by
 have HD:Hid (Calls prog 109 #[.pointer (some ⟨ps,0,none⟩),.pointer (some ⟨rs,0,none⟩)] w λ e w'=>e=.returned (.bool true)/\Bo B W ps rs st m w'):=(Q2q h hm).mono (λ e w' hh=>⟨hh.1,h.under hh.2⟩);have HT:Hid (∀V,Calls prog 50 #[.bool true] V λ e w'=>e=.returned (.int .i64 1)/\w'=V):=λ V=>Qzi true V
 clear h;go_enter func49,ntmps49
 go_wp2_with (first
  | (go_at_call 109;refine HD.out.mono ?_;rintro e w2 ⟨rfl,h2⟩)
  | (go_at_call 50;refine (HT.out _).mono ?_;rintro e w3 ⟨rfl,rfl⟩))
 go_ret
 exact ⟨rfl,h2⟩
end
end
section
section
variable {B:Nat} {W w:World} {ps rs:Nat} {st:St} {m m':Nat}
theorem Bo.bel (h:Bo B W ps rs st m w):Below B W w:=by
 obtain ⟨D,k,D',M',k',h1,h2,h3,h4,h5,h6,h7,h8,h9⟩:=h;exact h8
end
end

def fndS (q:Int) (y:List Int × List Int) (z:Int):List Int × List Int:=(Qcm y.1 z 1 3,if stZ y.1 z=1 then y.2.set z.toNat q else y.2)
theorem KIn.at4 {w:World} {a:Option Addr} {n:Nat} {ps:List Pl} (h:KIn w a n ps) {i:Nat} (hi:i<n):∃(x:Pl) (b off:Nat),ps[i]?=some x/\Qdu x/\a=some ⟨b,off,none⟩/\w.cell? ⟨b,off+i*4,none⟩=some (.int .u32 x.1.1)/\w.cell? ⟨b,off+i*4+1,none⟩=some (.int .u64 x.1.2)/\w.cell? ⟨b,off+i*4+2,none⟩=some (.int .i64 x.2.1)/\w.cell? ⟨b,off+i*4+3,none⟩=some (.int .i64 x.2.2):=by
 obtain ⟨b,off,rfl,hc⟩:=h.2.2.2.resolve_left (by omega);have hl:=h.1;obtain ⟨x,hx⟩:∃x,ps[i]?=some x:=⟨ps[i],by simp [show i<ps.length by omega]⟩
 exact ⟨x,b,off,hx,h.2.2.1 x (List.mem_of_getElem? hx),rfl,hc i x hx 0 _ rfl,hc i x hx 1 _ rfl,hc i x hx 2 _ rfl,hc i x hx 3 _ rfl⟩

end Go.Proofs.YtcdnjeiamihhbaaGreat
