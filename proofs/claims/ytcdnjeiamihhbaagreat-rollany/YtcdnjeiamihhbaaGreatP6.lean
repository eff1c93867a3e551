/- P6 -/
import Derived.Lib.QuietBelow
import Derived.Lib.AppendZerosOnto
import Derived.OrdersIn
import Derived.Orders
import Derived.Test.YtcdnjeiamihhbaaGreatP5
set_option linter.unusedVariables false
set_option maxRecDepth 4000
open Go.Proofs.Tryz
namespace Go.Proofs.YtcdnjeiamihhbaaGreat
open Go.RowKit
def Q0x (w:World) (s:Sh) (ps:List Pl) (e:Ending) (w':World):Prop:=
 Below w.heap.size w w'/\((¬Qm8 s ps/\e=Qdm noBk)\/(Qm8 s ps/\e=.returned (.tuple #[])))
def Upto (s:Sh) (ps:List Pl) (i:Nat):Prop:=(∀k p q,k+1<i->ps[k]?=some p->ps[k+1]?=some q->ltP p.1 q.1=true)/\∀k p,k<i->ps[k]?=some p->InSh s p
theorem Upto.next {s:Sh} {ps:List Pl} {i:Nat} {p:Pl} (h:Upto s ps i) (hp:ps[i]?=some p) (h1:InSh s p) (h2:∀o,0<i->ps[i - 1]?=some o->ltP o.1 p.1=true):Upto s ps (i+1):=by
 refine ⟨λ k x y hk hx hy=>?_,λ k x hk hx=>?_⟩
 ·rcases Nat.lt_or_ge (k+1) i with h' | h'
  ·exact h.1 k x y h' hx hy
  ·obtain rfl:i=k+1:=by omega
   rw [hp] at hy;cases hy;exact h2 x (by omega) (by simpa using hx)
 ·rcases Nat.lt_or_ge k i with h' | h'
  ·exact h.2 k x h' hx
  ·obtain rfl:k=i:=by omega
   rw [hp] at hx;cases hx;exact h1
theorem Upto.all {s:Sh} {ps:List Pl} (hr:Qat s) (h:Upto s ps ps.length):Qm8 s ps:=by
 refine ⟨hr,λ i p q hp hq=>h.1 i p q (List.getElem?_eq_some_iff.1 hq).1 hp hq,λ p hp=>?_⟩
 obtain ⟨k,hk⟩:=List.getElem?_of_mem hp;exact h.2 k p (List.getElem?_eq_some_iff.1 hk).1 hk
theorem Qfl {P:Program} {ops:Array Oper} {C:World->Prop} {Q:Act->Prop} {o:Oper} {rest:List Oper} {a:Act}:wpQuiet P ops C Q (o :: rest) a=if Region.wanted o (yielded ops a.tmps)=true then o.quiet P a C (wpQuiet P ops C Q rest) else wpQuiet P ops C Q rest (a.put o.dst undef):=rfl
set_option maxHeartbeats 4000000 in
theorem Qvz (s:Sh) (A:Option Addr) (n C:Nat) (ps:List Pl) (w:World) (hz:-9223372036854775808<=s.z) (hk:KIn w A n ps) :
  Calls prog 82 #[.agg (shL s).toArray,.slice A n C] w (Q0x w s ps):=by
 obtain ⟨q,hq⟩:∃q,q=w.heap.size:=⟨_,rfl⟩
 have H:=Jh2 hk hq;have hm:n<=9223372036854775807:=by have:=hk.2.1;unfold maxLen at this;omega
 have hb:Blk (w.alloc (.cells #[.int .i64 s.z,.int .i64 s.zb,.int .i64 s.b,.int .i64 s.r] 23)) q (shL s) 23:=Blk.new' hq.symm rfl;have hbel:Below w.heap.size w (w.alloc (.cells #[.int .i64 s.z,.int .i64 s.zb,.int .i64 s.b,.int .i64 s.r] 23)):=(Below.refl _ _).alloc (Nat.le_refl _) _;simp only [shL]
 go_enter func82,ntmps82
 go_upto_region 1 with fail
 rw [<-hq];generalize hW1:World.alloc _ _=W1 at *;have HR:Hid (Calls prog 91 #[.agg #[.int .i64 s.z,.int .i64 s.zb,.int .i64 s.b,.int .i64 s.r]] W1 λ e w'=>e=.returned (.bool (decide (Qat s)))/\Below W1.heap.size W1 w'):=Qia s W1 hz;have e0:W1.cell? ⟨q,0,none⟩=some (.int .i64 s.z):=hb.cell 0;have e1:W1.cell? ⟨q,1,none⟩=some (.int .i64 s.zb):=hb.cell 1;have e2:W1.cell? ⟨q,2,none⟩=some (.int .i64 s.b):=hb.cell 2;have e3:W1.cell? ⟨q,3,none⟩=some (.int .i64 s.r):=hb.cell 3;have HB:=Jh2 hbel hb;clear hW1 hb hbel hq hk;by_cases hr:Qat s
 ·have HS:=Jh1 hr
  rw [decide_eq_true hr] at HR;clear hr;go_wp2_with (go_at_call 91;refine HR.out.mono ?_;rintro e w1 ⟨rfl,b1⟩)
  have HB1:=Jh2 (HB.out.1.trans (b1.mono HB.out.1.size)) (HB.out.2.below b1 HB.out.2.lt);clear b1 e0 e1 e2 e3;go_loopw [12] (λ x wr=>∃i:Nat,x=.int .i64 i/\i<=n/\Below w.heap.size w wr/\Blk wr q (shL s) 23/\Upto s ps i) (λ x _=>n - (intOf x).toNat)
  case atStart=>exact ⟨0,rfl,Nat.zero_le _,HB1.out.1,HB1.out.2,⟨λ k p q h=>by omega,λ k p h=>by omega⟩⟩
  case round=>
   obtain ⟨i,rfl,hi,bl,hsh,hup⟩:=hrel;rcases Nat.lt_or_ge i n with hlt | hge
   ·obtain ⟨x,hx⟩:∃x,ps[i]?=some x:=⟨ps[i]'(by have:=H.out.1.1;omega),by simp⟩
    obtain ⟨b',off,hA,hc⟩:=(H.out.1.below bl).2.2.2.resolve_left (by omega);subst hA;have d0:wr.cell? ⟨b',off+i*4,none⟩=some (.int .u32 x.1.1):=hc i x hx 0 _ rfl;have d1:wr.cell? ⟨b',off+i*4+1,none⟩=some (.int .u64 x.1.2):=hc i x hx 1 _ rfl;have d2:wr.cell? ⟨b',off+i*4+2,none⟩=some (.int .i64 x.2.1):=hc i x hx 2 _ rfl;have d3:wr.cell? ⟨b',off+i*4+3,none⟩=some (.int .i64 x.2.2):=hc i x hx 3 _ rfl;obtain ⟨qi,hqi⟩:∃qi,qi=wr.heap.size:=⟨_,rfl⟩
    have kb:Blk (wr.alloc (.cells #[.int .u32 x.1.1,.int .u64 x.1.2,.int .i64 x.2.1,.int .i64 x.2.2] 137)) qi (plL x) 137:=Blk.new' hqi.symm rfl;have hsh7:=hsh.alloc (.cells #[.int .u32 x.1.1,.int .u64 x.1.2,.int .i64 x.2.1,.int .i64 x.2.2] 137);have bl7:=bl.alloc bl.size (.cells #[.int .u32 x.1.1,.int .u64 x.1.2,.int .i64 x.2.1,.int .i64 x.2.2] 137);have bl7':=bl7;have hi':(i:Int)<n:=by omega
    have hwi:IntKind.i64.wrap ((i:Int)+1)=(i:Int)+1:=by rw [IntKind.wrap_i64];omega
    have hwm:IntKind.i64.wrap ((i:Int) - 1)=(i:Int) - 1:=by rw [IntKind.wrap_i64];omega
    have HX:=Jh2 hx hup;clear hup hx;go_upto_region 6 with fail
    rw [<-hqi];clear hqi d0 d1 d2 d3;have hA7:=(H.out.1.below bl7').2.2.2.resolve_left (by omega);generalize hW7:World.alloc wr _=W7 at kb hsh7 bl7 bl7' hA7 ⊢;clear hW7;have k0:W7.cell? ⟨qi,0,none⟩=some (.int .u32 x.1.1):=kb.cell 0;have k1:W7.cell? ⟨qi,1,none⟩=some (.int .u64 x.1.2):=kb.cell 1;have k2:W7.cell? ⟨qi,2,none⟩=some (.int .i64 x.2.1):=kb.cell 2;have k3:W7.cell? ⟨qi,3,none⟩=some (.int .i64 x.2.2):=kb.cell 3;have g0:W7.cell? ⟨q,0,none⟩=some (.int .i64 s.z):=hsh7.cell 0;have g1:W7.cell? ⟨q,1,none⟩=some (.int .i64 s.zb):=hsh7.cell 1;have g2:W7.cell? ⟨q,2,none⟩=some (.int .i64 s.b):=hsh7.cell 2;have g3:W7.cell? ⟨q,3,none⟩=some (.int .i64 s.r):=hsh7.cell 3;have hIc:∀X:World,Calls prog 141 #[.agg #[.int .i64 s.z,.int .i64 s.zb,.int .i64 s.b,.int .i64 s.r],.agg #[.int .i64 x.2.1,.int .i64 x.2.2]] X λ e w'=>e=.returned (.bool (decide (2<=x.2.1/\x.2.1<s.z/\0<=x.2.2/\x.2.2<s.zb)))/\Below X.heap.size X w':=Qu4 s x.2.1 x.2.2
    have H7:=Jh3 bl7 hsh7 kb;have r0:=λ d os=>cell_regrown k0 d os
    have r1:=λ d os=>cell_regrown k1 d os
    have r2:=λ d os=>cell_regrown k2 d os
    have r3:=λ d os=>cell_regrown k3 d os
    have t0:=λ d os=>cell_regrown g0 d os
    have t1:=λ d os=>cell_regrown g1 d os
    have t2:=λ d os=>cell_regrown g2 d os
    have t3:=λ d os=>cell_regrown g3 d os
    clear kb hsh7 bl7 bl7' hA7 bl hsh hc k0 k1 k2 k3 g0 g1 g2 g3;by_cases hin:InSh s x
    ·have hin':2<=x.2.1/\x.2.1<s.z/\0<=x.2.2/\x.2.2<s.zb:=hin
     rw [decide_eq_true hin'] at hIc;have cI:=λ d os=>Calls.regrown_of (hIc (Go.Sort.grow (redrawn W7 d) os))
     have HIN:=Jh1 hin;clear hin hin' hIc;rcases Nat.eq_zero_or_pos i with h0 | h0
     ·have z1:decide ((0:Int)<(i:Int))=false:=by simp;omega
      have z2:decide (0<i)=false:=by simp;omega
      have HZ:=Jh1 h0;clear h0;refine wp_region_quiet_below (by kernel_rfl) (by kernel_rfl) ?_
      iterate 3 (quiet_step (fail))
      quiet_step (exact cI _ _)
      iterate 5 (quiet_step (fail))
      iterate 8 (rw [Qfl];go_simp)
      iterate 2 (quiet_step (fail))
      refine wpQuiet_nil ?_
      rintro ⟨dq,osq⟩;dsimp only
      have bR:=H7.out.1.trans ((below_regrown W7 dq osq).mono H7.out.1.size);have sR:=(J2 H7).below (below_regrown W7 dq osq) (J2 H7).lt;have HN:Hid (Below w.heap.size w (Go.Sort.grow (redrawn W7 dq) osq)/\Blk (Go.Sort.grow (redrawn W7 dq) osq) q (shL s) 23/\Upto s ps (i+1)):=⟨bR,sR,HX.out.2.next HX.out.1 HIN.out (λ _ h=>absurd HZ.out (by omega))⟩
      clear bR sR r0 r1 r2 r3 t0 t1 t2 t3 cI;generalize Go.Sort.grow _ _=V at HN ⊢;go_wp2
      go_roundw
      case rel=>exact ⟨i+1,by simp,by omega,HN.out.1,(J2 HN),(Jz2 HN)⟩
      case measure=>simp [intOf];omega
     ·obtain ⟨j,hj⟩:∃j,i=j+1:=⟨i - 1,by omega⟩
      have hpos:(0:Int)<i:=by omega
      have hwj:IntKind.i64.wrap ((i:Int) - 1)=(j:Int):=by rw [IntKind.wrap_i64];omega
      have hjn:(j:Int)<n:=by omega
      obtain ⟨o,ho⟩:∃o,ps[j]?=some o:=⟨ps[j]'(by have:=H.out.1.1;omega),by simp⟩
      have HO:=Jh2 ho hj;obtain ⟨b2,off2,hA2,hc2⟩:=(H.out.1.below H7.out.1).2.2.2.resolve_left (by omega);cases hA2
      have p0:=λ d os=>cell_regrown (show W7.cell? ⟨b',off+j*4,none⟩=some (.int .u32 o.1.1) from hc2 j o ho 0 _ rfl) d os
      have p1:=λ d os=>cell_regrown (show W7.cell? ⟨b',off+j*4+1,none⟩=some (.int .u64 o.1.2) from hc2 j o ho 1 _ rfl) d os
      have p2:=λ d os=>cell_regrown (show W7.cell? ⟨b',off+j*4+2,none⟩=some (.int .i64 o.2.1) from hc2 j o ho 2 _ rfl) d os
      have p3:=λ d os=>cell_regrown (show W7.cell? ⟨b',off+j*4+3,none⟩=some (.int .i64 o.2.2) from hc2 j o ho 3 _ rfl) d os
      clear hj ho hwm hc2;have hRc:∀X:World,Calls prog 142 #[.agg #[.int .u32 o.1.1,.int .u64 o.1.2,.int .i64 o.2.1,.int .i64 o.2.2],.agg #[.int .u32 x.1.1,.int .u64 x.1.2,.int .i64 x.2.1,.int .i64 x.2.2]] X λ e w'=>e=.returned (.bool (ltP o.1 x.1))/\Below X.heap.size X w':=Qt3 o x
      by_cases hlr:ltP o.1 x.1=true
      ·have HL:=Jh1 hlr
       rw [hlr] at hRc;have cR:=λ d os=>Calls.regrown_of (hRc (Go.Sort.grow (redrawn W7 d) os))
       clear hlr hRc;refine wp_region_quiet_below (by kernel_rfl) (by kernel_rfl) ?_
       iterate 3 (quiet_step (fail))
       quiet_step (exact cI _ _)
       iterate 11 (quiet_step (fail))
       quiet_step (exact cR _ _)
       iterate 3 (quiet_step (fail))
       refine wpQuiet_nil ?_
       intro _ hw';obtain ⟨⟨dq,osq⟩,hw''⟩:=hw';subst hw'';have bR:=H7.out.1.trans ((below_regrown W7 dq osq).mono H7.out.1.size);have sR:=(J2 H7).below (below_regrown W7 dq osq) (J2 H7).lt;have HN:Hid (Below w.heap.size w (Go.Sort.grow (redrawn W7 dq) osq)/\Blk (Go.Sort.grow (redrawn W7 dq) osq) q (shL s) 23/\Upto s ps (i+1)):=⟨bR,sR,HX.out.2.next HX.out.1 HIN.out (λ o' _ h=>by rw [HO.out.2,Nat.add_sub_cancel,HO.out.1] at h;cases h;exact HL.out)⟩
       clear bR sR r0 r1 r2 r3 t0 t1 t2 t3 cI cR p0 p1 p2 p3;generalize Go.Sort.grow _ _=V at HN ⊢;go_wp2
       go_roundw
       case rel=>exact ⟨i+1,by simp,by omega,HN.out.1,(J2 HN),(Jz2 HN)⟩
       case measure=>simp [intOf];omega
      ·have hlr':ltP o.1 x.1=false:=by simpa using hlr
       rw [hlr'] at hRc;have cR:=λ d os=>Calls.regrown_of (hRc (Go.Sort.grow (redrawn W7 d) os))
       have HL:=Jh1 hlr';clear hlr hlr' hRc;refine wp_region_quiet_below (by kernel_rfl) (by kernel_rfl) ?_
       iterate 3 (quiet_step (fail))
       quiet_step (exact cI _ _)
       iterate 11 (quiet_step (fail))
       quiet_step (exact cR _ _)
       iterate 3 (quiet_step (fail))
       refine wpQuiet_nil ?_
       intro _ hw';obtain ⟨⟨dq,osq⟩,hw''⟩:=hw';subst hw'';have bR:=H7.out.1.trans ((below_regrown W7 dq osq).mono H7.out.1.size);have sR:=(J2 H7).below (below_regrown W7 dq osq) (J2 H7).lt;go_wp2
       refine ⟨rfl,bR,.inl ⟨λ h=>?_,rfl⟩⟩
       have:=h.2.1 j o x HO.out.1 (by rw [<-HO.out.2];exact HX.out.1);rw [HL.out] at this;cases this
    ·have hin':¬(2<=x.2.1/\x.2.1<s.z/\0<=x.2.2/\x.2.2<s.zb):=hin
     rw [decide_eq_false hin'] at hIc;have cI:=λ d os=>Calls.regrown_of (hIc (Go.Sort.grow (redrawn W7 d) os))
     have HIN:=Jh1 hin;clear hin hin' hIc;refine wp_region_quiet_below (by kernel_rfl) (by kernel_rfl) ?_
     iterate 3 (quiet_step (fail))
     quiet_step (exact cI _ _)
     iterate 2 (quiet_step (fail))
     iterate 3 (rw [Qfl];go_simp)
     iterate 8 (rw [Qfl];go_simp;rw [if_neg (by intro h;cases h)])
     rw [Qfl];go_simp
     iterate 1 (quiet_step (fail))
     refine wpQuiet_nil ?_
     rintro ⟨dq,osq⟩;dsimp only
     have bR:=H7.out.1.trans ((below_regrown W7 dq osq).mono H7.out.1.size);have sR:=(J2 H7).below (below_regrown W7 dq osq) (J2 H7).lt;go_wp2
     exact ⟨rfl,bR,.inl ⟨λ h=>HIN.out (h.2.2 x (List.mem_of_getElem? HX.out.1)),rfl⟩⟩
   ·obtain rfl:i=n:=by omega
    have HF:Hid (Q0x w s ps (.returned (.tuple #[])) wr):=⟨bl,.inr ⟨by rw [<-H.out.1.1] at hup;exact hup.all HS.out,rfl⟩⟩
    clear bl hsh hup;go_wp2
    go_end0
    exact HF.out
 ·have HS:=Jh1 hr
  rw [decide_eq_false hr] at HR;clear hr;go_wp2_with (go_at_call 91;refine HR.out.mono ?_;rintro e w1 ⟨rfl,b1⟩)
  exact ⟨rfl,HB.out.1.trans (b1.mono HB.out.1.size),.inl ⟨λ h=>HS.out h.1,rfl⟩⟩
theorem Qg0 (z:Value) (k:Nat):Builtin.zeroCells #[z] k=(List.replicate k z).toArray:=by
 apply Array.ext'
 apply List.ext_getElem
 ·simp [Builtin.zeroCells]
 ·intro i h1 h2
  simp [Builtin.zeroCells,Nat.mod_one]
theorem Qe5 {P:Program} (w:World) (t tn ty e:TypeId) (i:TypeInfo) (kq kn:IntKind) (ht:P.underlying t=some (.slice e)) (htn:P.underlying tn=some (.int kn)) (hi:P.info? e=some i) (hz:i.zero=some (.int .u8 0)) (hs1:i.size=1) (hby:i.bytes=1)
  (g sLen sCap:Nat) (cur:Array Value) (hg:w.heap[g]?=some (.cells cur e (0,0))) (k:Nat) (h0:0<k) (hle:k<=1000000) (hroom:sLen+k<=sCap) (hfit:sLen+k<=cur.size) :
  (Builtin.append_ #[t,tn] ty #[.slice (some ⟨g,0,none⟩) sLen sCap,.int kq k]).run P w =
   .ok (.slice (some ⟨g,0,none⟩) (sLen+k) sCap) (w.setRow g (cur.toList.take sLen ++ List.replicate k (Value.int .u8 0) ++ cur.toList.drop (sLen+k)).toArray):=by
 have hst:=run_storeCells_at P g sLen e (List.replicate k (.int .u8 0)) 0 cur w hg (by simpa using hfit) (by intro u hu;rw [(List.mem_replicate.1 hu).2];rfl);simp only [Nat.add_zero,List.length_replicate] at hst
 have hw:IntKind.i64.wrap (k:Int)=k:=by rw [IntKind.wrap_i64];omega
 have hneg:¬((k:Int)<0):=by omega
 have h48i:¬(281474976710656<(k:Int)):=by omega
 have hk0:¬(k=0):=by omega
 have hzc:Builtin.zeroCells (Value.int .u8 0).cells k=(List.replicate k (.int .u8 0)).toArray:=Qg0 _ k;simp [Builtin.append_,run_underlying ht,run_underlying htn,sizeOf,typeInfo,zeroValue,hi,hz,hs1,hby,asInt,asIntOf,hw,hneg,h48i,hk0,hroom,hzc,Addr.add_lit,hst]
theorem Qfs {P:Program} (w:World) (base:Nat) (t tn ty e:TypeId) (i:TypeInfo) (kq kn:IntKind) (ht:P.underlying t=some (.slice e)) (htn:P.underlying tn=some (.int kn)) (hi:P.info? e=some i) (hz:i.zero=some (.int .u8 0)) (hsize:i.size=1) (hby:i.bytes=1)
  (v:Value) (n:Nat) (xs:List Value) (hown:w.ownsRow base e 1 v n xs) (k:Nat) (h0:0<k) (hle:n+k<=1000000) (hbase:base<=w.heap.size) :
  ∃v' w',(Builtin.append_ #[t,tn] ty #[v,.int kq k]).run P w=.ok v' w'/\w'.ownsRow base e 1 v' (n+k) (xs ++ List.replicate k (.int .u8 0))/\w.grownBy w' v.ownBlock:=by
 have h63:n+k<=maxLen:=by unfold maxLen;omega
 have hxl:xs.length=n:=by simpa using hown.1
 have hlen:(xs ++ List.replicate k (Value.int .u8 0)).length=(n+k)*1:=by rw [List.length_append,hxl,List.length_replicate,Nat.mul_one]
 have hzc:Builtin.zeroCells (Value.int .u8 0).cells k=(List.replicate k (.int .u8 0)).toArray:=Qg0 _ k;have grown:∀(old:Nat),old<n+k->∀(row:Option Nat),
   (w.drew.alloc (.cells (xs.toArray ++ Builtin.zeroCells (Value.int .u8 0).cells k ++ Builtin.zeroCells (Value.int .u8 0).cells (grownCap w (n+k) old e - (n+k))) e)).ownsRow base e 1
    (.slice (some ⟨w.heap.size,0,none⟩) (n+k) (grownCap w (n+k) old e)) (n+k) (xs ++ List.replicate k (.int .u8 0))/\
   w.grownBy (w.drew.alloc (.cells (xs.toArray ++ Builtin.zeroCells (Value.int .u8 0).cells k ++ Builtin.zeroCells (Value.int .u8 0).cells (grownCap w (n+k) old e - (n+k))) e)) row:=by
  intro old ho row;have hge:=grownCap_ge w (n+k) old e;have hcm:grownCap w (n+k) old e<=maxLen:=grownCap_le_maxLen w (n+k) old e h63;refine ⟨⟨hlen,.inr ⟨w.heap.size,_,_,rfl,hbase,heap_alloc_new w.drew _,hge,hcm,?_,?_⟩⟩,⟨rfl,rfl,rfl,by simp,λ j hj _=>heap_alloc_old w.drew _ hj⟩⟩
  ·have hz1:(Value.int IntKind.u8 0).cells.size=1:=rfl
   simp only [Array.size_append,List.size_toArray,size_zeroCells,hz1,hxl]
   omega
  ·rw [hzc]
   simp only [Array.toList_append,List.append_assoc]
   rw [<-List.append_assoc,<-hlen];exact List.take_left
 rcases hown.2 with ⟨rfl,rfl⟩ | ⟨g,cap,cur,rfl,hbg,hg,hnc,hcm,hcs,htake⟩
 ·have hx:xs=[]:=List.eq_nil_of_length_eq_zero hxl
  subst hx;have hr:=Lib.run_append_grow_zeros (P:=P) w t tn ty e i (.int .u8 0) kq kn ht htn hi hz none 0 0 [] (by simp [Builtin.firstCells]) k h0 (by omega) (by omega) (by omega) (by rw [hby];omega) (by rw [hby];exact growslice_fits (by omega) (by omega));have hgr:=grown 0 (by omega) (Value.ownBlock (.slice none 0 0));exact ⟨_,_,hr,hgr.1,hgr.2⟩
 ·by_cases hroom:n+k<=cap
  ·have hcs':cur.size=cap:=by simpa using hcs
   have hr:=Qe5 (P:=P) w t tn ty e i kq kn ht htn hi hz hsize hby g n cap cur hg k h0 (by omega) hroom (by omega);refine ⟨_,_,hr,⟨hlen,.inr ⟨g,cap,_,rfl,hbg,setRow_heap w g cur _ e _ hg,hroom,hcm,?_,?_⟩⟩,⟨rfl,rfl,rfl,by simp,λ k _ hk=>setRow_other w g k _ (λ e=>hk (by simp [Value.ownBlock,e]))⟩⟩
   ·simp only [List.size_toArray,List.length_append,List.length_take,List.length_drop,Array.length_toList,List.length_replicate]
    omega
   ·have ht':cur.toList.take n=xs:=by simpa using htake
    rw [ht',<-hlen];exact List.take_left
  ·have holds:∀j u,xs[j]?=some u->w.cell? ((⟨g,0,none⟩:Addr).add j)=some u:=hown.cells (g:=g) rfl
   have hfo:=run_firstCells_some (P:=P) w.drew i.size n ⟨g,0,none⟩ n cap xs (by rw [hsize];simpa using hxl) (by simpa using holds);have hr:=Lib.run_append_grow_zeros (P:=P) w t tn ty e i (.int .u8 0) kq kn ht htn hi hz (some ⟨g,0,none⟩) n cap xs hfo k h0 (by omega) (by omega) (by omega) (by rw [hby];omega) (by rw [hby];exact growslice_fits (by omega) (by omega));have hgr:=grown cap (by omega) (Value.ownBlock (.slice (some ⟨g,0,none⟩) n cap));exact ⟨_,_,hr,hgr.1,hgr.2⟩
theorem Qfx {ops:Array Oper} {rest:List Oper} {o:Oper} {a:Act} {Q:Exit->Act->World->Prop} {w:World} (hgd:o.guard=none) (s x:Operand)
  (ho:o.op=.call {callee:=.builtin .append,args:=#[s,x],argTypes:=#[71,3]}) (base:Nat)
  (a0:Option Addr) (n0 c0:Nat) (xs:List Int) (hs:a.eval s=.slice a0 n0 c0) (hown:w.ownsRow base 5 1 (.slice a0 n0 c0) n0 (u8s xs))
  (k:Nat) (hx:a.eval x=.int .i64 k) (h0:0<k) (hle:n0+k<=1000000) (hbase:base<=w.heap.size)
  (h:∀a' c' w',w'.ownsRow base 5 1 (.slice a' (n0+k) c') (n0+k) (u8s (xs ++ List.replicate k 0))->Below base w w'->wpList prog ops Q rest (a.put o.dst (.slice a' (n0+k) c')) w') :
  wpList prog ops Q (o :: rest) a w:=by
 obtain ⟨i0,hi,hz0,hz1,hz2⟩:=info_parts Tryz.zero_u8;refine wpList_plain hgd λ K hK=>?_
 obtain ⟨v',w',hr,hown',hgrow⟩:=Qfs (P:=prog) w base 71 3 o.type 5 i0 .i64 .i64 Tryz.underlying71 Tryz.underlying3 hi hz0 hz1 hz2 _ n0 (u8s xs) hown k h0 hle hbase;have hb:Below base w w':=(Below.refl base w).grown hgrow hbase (λ k hk=>(hown.lt k hk).1);have hcat:u8s xs ++ List.replicate k (Value.int .u8 0)=u8s (xs ++ List.replicate k 0):=by simp [u8s]
 rw [hcat] at hown';obtain ⟨a',c',rfl⟩:∃a' c',v'=.slice a' (n0+k) c':=by
  rcases hown'.2 with ⟨hv,hn⟩ | ⟨g,cap,cur,hv,_⟩
  ·exact ⟨none,0,by rw [hv,hn]⟩
  ·exact ⟨_,_,hv⟩
 unfold Oper.wp execOp;simp only [ho,resolve,invoke,builtin,Sem.run_bind,Sem.run_pure,Result.andThen_ok,List.map_toArray,List.map_cons,List.map_nil,hs,hx,hr]
 exact hK _ _ (h a' c' w' hown' hb)
theorem Qw4 {W:World} {base:Nat} {a0:Option Addr} {n0 c0:Nat} {xs:List Int} (hown:W.ownsRow base 5 1 (.slice a0 n0 c0) n0 (u8s xs)) {a1:Option Addr} {n1 c1:Nat} {zs:List Int} (hin:BIn W a1 n1 zs) (hnil:a1=none->n1=0/\c1=0) (hle:n0+n1<=1000000) (hb:base<=W.heap.size) :
  ∃a' c' w',(Builtin.append_ #[71,71] 71 #[.slice a0 n0 c0,.slice a1 n1 c1]).run prog W=.ok (.slice a' (n0+n1) c') w'/\w'.ownsRow base 5 1 (.slice a' (n0+n1) c') (n0+n1) (u8s (xs ++ zs))/\Below base W w'/\W.grownBy w' (Value.ownBlock (.slice a0 n0 c0)):=by
 obtain ⟨i0,hi,hz0,hz1,hz2⟩:=info_parts Tryz.zero_u8;obtain ⟨hl,hm,hfit,hcell⟩:=hin;cases a1 with
 | none=>
  obtain ⟨rfl,rfl⟩:=hnil rfl;obtain rfl:zs=[]:=List.length_eq_zero_iff.1 hl;refine ⟨a0,c0,W,run_append_owned_none (P:=prog) W base 71 71 5 i0 1 Tryz.underlying71 hi _ n0 (u8s xs) hown,by simpa using hown,Below.refl _ _,⟨rfl,rfl,rfl,Nat.le_refl _,λ _ _ _=>rfl⟩⟩
 | some ad=>
  obtain ⟨v',w',h2,h3,h4,_⟩:=run_append_own (P:=prog) W base 71 71 5 i0 (.int .u8 0) 1 1 Tryz.underlying71 hi hz0 hz1 hz2 rfl (by decide) _ n0 (u8s xs) hown ad n1 c1 (u8s zs) (by rw [Qah,hl];omega) (by
   intro j u hj;have hjl:j<n1:=by have:=(List.getElem?_eq_some_iff.1 hj).1;rwa [Qah,hl] at this
   rcases hcell with hc | ⟨b,off,ha,hc⟩
   ·omega
   ·cases ha
    rw [Addr.add_mid,hc j hjl,<-hj];simp [u8s,List.getD,hl,hjl]) (Qhl _) (by unfold maxLen;omega) (by omega) hb
  have hcat:u8s xs ++ u8s zs=u8s (xs ++ zs):=by simp [u8s]
  rw [hcat] at h3;obtain ⟨a',c',rfl⟩:=Qam h3;exact ⟨a',c',w',h2,h3,(Below.refl base W).grown h4 hb (λ k hk=>(hown.lt k hk).1),h4⟩
theorem Qjl {ws vs:List Int} {b d:Option Addr} {n c m f:Nat} {w W:World} {o1 o2:Obj} (hW:W=(w.alloc o1).alloc o2) (hx:NIn .i64 W b n ws) (hy:NIn .u64 W d m vs) (hn:n<=1000) (hm:m<=1000) :
  Calls prog 144 #[.slice b n c,.slice d m f] W.drew λ e w'=>∃a' k' c',e=.returned (.slice a' k' c')/\k'=(Qan ws vs).length/\w'.ownsRow w.heap.size 5 1 (.slice a' k' c') k' (u8s (Qan ws vs))/\Below w.heap.size w w':=by
 subst hW;refine (Qpk b n c ws d m f vs _ hx.drew hy.drew (by omega) (by omega)).mono ?_
 rintro e w' ⟨a',k',c',h1,h2,h3,h4⟩;refine ⟨a',k',c',h1,h2,Qa3 h3 (by simp;omega),((((Below.refl _ _).alloc (Nat.le_refl _) _).alloc (by simp) _).drew).trans (h4.mono (by simp;omega))⟩
theorem Qo6 {ws vs:List Int} {b d:Option Addr} {n c m f:Nat} {w W:World} {o1 o2 o3:Obj} (hW:W=((w.alloc o1).alloc o2).alloc o3) (hx:NIn .i64 W b n ws) (hy:NIn .u64 W d m vs) (hn:n<=1000) (hm:m<=1000) :
  Calls prog 144 #[.slice b n c,.slice d m f] W.drew λ e w'=>∃a' k' c',e=.returned (.slice a' k' c')/\k'=(Qan ws vs).length/\w'.ownsRow w.heap.size 5 1 (.slice a' k' c') k' (u8s (Qan ws vs))/\Below w.heap.size w w':=by
 subst hW;refine (Qpk b n c ws d m f vs _ hx.drew hy.drew (by omega) (by omega)).mono ?_
 rintro e w' ⟨a',k',c',h1,h2,h3,h4⟩;refine ⟨a',k',c',h1,h2,Qa3 h3 (by simp;omega),(((((Below.refl _ _).alloc (Nat.le_refl _) _).alloc (by simp) _).alloc (by simp;omega) _).drew).trans (h4.mono (by simp;omega))⟩
theorem Q2l {w:World} {g:Nat} (h:w.heap.size=g):NIn .i64 (w.alloc (.cells #[.int .i64 4] 3)) (some ⟨g,0,none⟩) 1 [4]:=Qet 3 h rfl rfl rfl (by omega)
theorem Q2i {K:Int} (h:Qai K):∀(X:World) (g:Nat),X.heap.size=g->NIn .u64 (X.alloc (.cells #[.int .u64 K] 45)) (some ⟨g,0,none⟩) 1 [K]:=
 λ X g e=>Qdq 45 e rfl rfl (by intro z hz;simp only [List.mem_cons,List.not_mem_nil,or_false] at hz;subst hz;exact h) (by omega)
theorem Qsn {W W':World} {B g n C:Nat} {L zs:List Int} {cur:Array Value} {off:Nat} (hB:B<=g) (hn:n<=C) (hm:C<=maxLen) (hs:cur.size=C) (ht:cur.toList.take n=u8s L) (hL:L.length=n) (ho:off+zs.length<=n) (hh:W'.heap[g]?=some (.cells (splice cur.toList off (u8s zs)).toArray 5 (0,0))) :
  W'.ownsRow B 5 1 (.slice (some ⟨g,0,none⟩) n C) n (u8s (splice L off zs)):=by
 refine ⟨by rw [Qah,Qc4 (by omega)];omega,.inr ⟨g,C,_,rfl,hB,hh,hn,hm,?_,?_⟩⟩
 ·simp [splice,Qah];omega
 ·rw [Nat.mul_one,<-Qk3,<-ht]
  unfold splice;have e1:(cur.toList.take n).take off=cur.toList.take off:=by rw [List.take_take];congr 1;omega
  rw [e1,List.drop_take,Qah,<-List.append_assoc,<-List.append_assoc,List.take_append,List.take_of_length_le (by simp [Qah];omega)];congr 2
  simp [Qah];omega
theorem Qmy {ps:List Pl} {j:Nat} {x:Pl} (h:ps[j]?=some x):plsB (ps.take (j+1))=plsB (ps.take j) ++ plB x:=by
 rw [List.take_add_one,h,Option.toList_some,Qur]
set_option maxHeartbeats 4000000 in
theorem Qr9 (N:Nat) (A:Option Addr) (c:Nat) (hd:List Int) (a:Option Addr) (m d:Nat) (ps:List Pl) (w:World) (hA:BIn w A 26 hd) (hnil:A=none->26=0/\c=0) (hk:KIn w a m ps) (hf:∀p∈ps,Fit2 p) (hN:28+16*m<=N) (hN':N<=4096) :
  Calls prog 146 #[.int .i64 N,.slice A 26 c,.slice a m d] w λ e w'=>∃g C,e=.returned (.slice (some ⟨g,0,none⟩) N C)/\w'.ownsRow w.heap.size 5 1 (.slice (some ⟨g,0,none⟩) N C) N (u8s (Qek (hd ++ plsB ps ++ List.replicate (N - 1 - (26+16*m)) 0 ++ [231])))/\Below w.heap.size w w':=by
 obtain ⟨i0,hi0,hz0,hz1,hz2⟩:=info_parts Tryz.zero_u8;obtain ⟨q,hq⟩:∃q,q=w.heap.size:=⟨_,rfl⟩
 have H:=Jh9 hA hnil hk hf hq hi0 hz0 hz1 hz2;have HN:=Jh2 hN hN';have hmm:m<=256:=by omega
 rw [<-hq];clear hA hnil hk hf hi0 hz0 hz1 hz2 hN hN';go_enter func146,ntmps146
 go_upto_region 2 with (first
  | (at_make;refine wpList_make_own w rfl _ (.tmp 10) 71 rfl q 5 i0 (.int .u8 0) 1 Tryz.underlying71 (J6 H) (J7 H) (J8 H) .i64 .i64 _ N rfl rfl (by have:=HN.out;omega) (by rw [(Jz8 H)];have:=HN.out;omega) (by have:=HN.out;unfold maxLen;omega) (by rw [(J5 H)];exact Nat.le_refl _) ?_;intro w1 ow1 gr1;have bl1:Below q w w1:=(Below.refl _ _).grown gr1 (by rw [(J5 H)];exact Nat.le_refl _) (λ g hg=>by cases hg))
  | (at_builtin;refine Qak rfl (.tmp 11) (.tmp 12) rfl q _ 0 N [] rfl ow1 A 26 c hd rfl (H.out.1.below (by rw [<-(J5 H)];exact bl1)) (J2 H) (by omega) (by rw [(J5 H)];exact bl1.size) ?_;intro a2 c2 w2 ow2 bl2))
 have H2:Hid (w2.ownsRow q 5 1 (.slice a2 (0+26) c2) (0+26) (u8s (hd ++ plsB (ps.take 0)))/\Below q w w2):=⟨by simpa [plsB] using ow2,bl1.trans bl2⟩
 clear ow1 gr1 bl1 ow2 bl2 hq;go_wp2
 go_loopw [7,16] (λ s i wr=>∃(j:Nat) (a':Option Addr) (k' c':Nat),j<=m/\i=.int .i64 j/\s=.slice a' k' c'/\k'=26+16*j/\wr.ownsRow q 5 1 (.slice a' k' c') k' (u8s (hd ++ plsB (ps.take j)))/\Below q w wr) (λ _ i _=>m - (intOf i).toNat)
 case atStart=>exact ⟨0,a2,26,c2,Nat.zero_le _,rfl,rfl,rfl,H2.out.1,H2.out.2⟩
 case round=>
  obtain ⟨i,a',k',c',hi,rfl,rfl,hk',ow,bl⟩:=hrel;rcases Nat.lt_or_ge i m with hlt | hge
  ·obtain ⟨x,hx⟩:∃x,ps[i]?=some x:=⟨ps[i]'(by have:=(J3 H).1;omega),by simp⟩
   have hxf:=(J4 H) x (List.mem_of_getElem? hx);obtain ⟨b',off,hA,hc⟩:=((J3 H).below (by rw [<-(J5 H)];exact bl)).2.2.2.resolve_left (by omega);subst hA;have d0:wr.cell? ⟨b',off+i*4,none⟩=some (.int .u32 x.1.1):=hc i x hx 0 _ rfl;have d1:wr.cell? ⟨b',off+i*4+1,none⟩=some (.int .u64 x.1.2):=hc i x hx 1 _ rfl;have d2:wr.cell? ⟨b',off+i*4+2,none⟩=some (.int .i64 x.2.1):=hc i x hx 2 _ rfl;have d3:wr.cell? ⟨b',off+i*4+3,none⟩=some (.int .i64 x.2.2):=hc i x hx 3 _ rfl;have hqw:q<=wr.heap.size:=by have:=bl.size;rw [<-(J5 H)] at this;exact this
   obtain ⟨qi,hqi⟩:∃qi,qi=wr.heap.size:=⟨_,rfl⟩
   have kb:Blk (wr.alloc (.cells #[.int .u32 x.1.1,.int .u64 x.1.2,.int .i64 x.2.1,.int .i64 x.2.2] 137)) qi (plL x) 137:=Blk.new' hqi.symm rfl;have ow7:=ow.alloc (.cells #[.int .u32 x.1.1,.int .u64 x.1.2,.int .i64 x.2.1,.int .i64 x.2.2] 137);have bl7:=bl.alloc hqw (.cells #[.int .u32 x.1.1,.int .u64 x.1.2,.int .i64 x.2.1,.int .i64 x.2.2] 137);have hi':(i:Int)<m:=by omega
   have hwi:IntKind.i64.wrap ((i:Int)+1)=(i:Int)+1:=by rw [IntKind.wrap_i64];omega
   have HX:=Jh4 hx hxf hk' hqw;clear hx hxf hc ow bl hk' hqw;go_upto_region 5 with fail
   rw [<-hqi];clear d0 d1 d2 d3;have hsz7:(wr.alloc (.cells #[.int .u32 x.1.1,.int .u64 x.1.2,.int .i64 x.2.1,.int .i64 x.2.2] 137)).heap.size=qi+1:=by simp [hqi]
   generalize World.alloc wr _=W7 at kb ow7 bl7 hsz7 ⊢;have H7:Hid (W7.ownsRow q 5 1 (.slice a' k' c') k' (u8s (hd ++ plsB (ps.take i)))/\Below q w W7/\Blk W7 qi (plL x) 137/\q<=W7.heap.size):=⟨ow7,bl7,kb,by have:=(Jz3 HX);omega⟩
   have c0:W7.cell? ⟨qi,0,none⟩=some (.int .u32 x.1.1):=kb.cell 0;have c1:W7.cell? ⟨qi,1,none⟩=some (.int .u64 x.1.2):=kb.cell 1;have c2':W7.cell? ⟨qi,2,none⟩=some (.int .i64 x.2.1):=kb.cell 2;have c3:W7.cell? ⟨qi,3,none⟩=some (.int .i64 x.2.2):=kb.cell 3;have g0:∀o,(W7.alloc o).cell? ⟨qi,0,none⟩=some (.int .u32 x.1.1):=λ o=>(kb.alloc o).cell 0
   have g1:∀o,(W7.alloc o).cell? ⟨qi,1,none⟩=some (.int .u64 x.1.2):=λ o=>(kb.alloc o).cell 1
   have g2:∀o,(W7.alloc o).cell? ⟨qi,2,none⟩=some (.int .i64 x.2.1):=λ o=>(kb.alloc o).cell 2
   have g3:∀o,(W7.alloc o).cell? ⟨qi,3,none⟩=some (.int .i64 x.2.2):=λ o=>(kb.alloc o).cell 3
   have i0:∀o p,((W7.alloc o).alloc p).cell? ⟨qi,0,none⟩=some (.int .u32 x.1.1):=λ o p=>((kb.alloc o).alloc p).cell 0
   have i1:∀o p,((W7.alloc o).alloc p).cell? ⟨qi,1,none⟩=some (.int .u64 x.1.2):=λ o p=>((kb.alloc o).alloc p).cell 1
   have i2:∀o p,((W7.alloc o).alloc p).cell? ⟨qi,2,none⟩=some (.int .i64 x.2.1):=λ o p=>((kb.alloc o).alloc p).cell 2
   have i3:∀o p,((W7.alloc o).alloc p).cell? ⟨qi,3,none⟩=some (.int .i64 x.2.2):=λ o p=>((kb.alloc o).alloc p).cell 3
   obtain ⟨u0,u2,u3⟩:IntKind.u64.wrap x.1.1=x.1.1/\IntKind.u64.wrap x.2.1=x.2.1/\IntKind.u64.wrap x.2.2=x.2.2:=by
    obtain ⟨⟨f0,_⟩,f2,f3⟩:=(J2 HX)
    unfold Qas at f0;unfold Qb4 at f2 f3;simp only [IntKind.wrap_u64]
    omega
   have HL:Hid (∀(X:World) (g:Nat),X.heap.size=g->NIn .u64 (X.alloc (.cells #[.int .u64 x.1.1,.int .u64 x.1.2,.int .u64 x.2.1,.int .u64 x.2.2] 45)) (some ⟨g,0,none⟩) 4 (plV x)):=Q0r (J2 HX);have HA:Hid (∀X,Below W7.heap.size W7 X->∀a8 k8 c8,k8=(Qan plW (plV x)).length->X.ownsRow W7.heap.size 5 1 (.slice a8 k8 c8) k8 (u8s (Qan plW (plV x)))->∃a9 c9 w9,(Builtin.append_ #[71,71] 71 #[.slice a' k' c',.slice a8 k8 c8]).run prog X=.ok (.slice a9 (k'+k8) c9) w9/\w9.ownsRow q 5 1 (.slice a9 (k'+k8) c9) (k'+k8) (u8s ((hd ++ plsB (ps.take i)) ++ Qan plW (plV x)))/\Below q w w9/\Blk w9 qi (plL x) 137):=by
    intro X hX a8 k8 c8 h8 o8;have hlen:(Qan plW (plV x)).length=16:=Qd2 x;have oX:=Qbx H7.out.1 hX (Nat.le_refl _);have hqX:q<=X.heap.size:=Nat.le_trans (Jz3 H7) hX.size;obtain ⟨a9,c9,w9,e1,e2,e3,e4⟩:=Qw4 oX (Qcf o8 (by rw [h8,hlen];unfold maxLen;omega) (Qc9 _ _)) (Qhj o8) (by have:=(J3 HX);omega) hqX;exact ⟨a9,c9,w9,e1,e2,((J2 H7).trans (hX.mono (Jz3 H7))).trans e3,((J3 H7).below hX (J3 H7).lt).grown (by decide) oX e4⟩
   clear kb ow7 bl7 hsz7 hqi;go_region_held3 (λ X=>X.cell? ⟨qi,0,none⟩=some (.int .u32 x.1.1)/\X.cell? ⟨qi,1,none⟩=some (.int .u64 x.1.2)/\X.cell? ⟨qi,2,none⟩=some (.int .i64 x.2.1)/\X.cell? ⟨qi,3,none⟩=some (.int .i64 x.2.2)) (first | exact ⟨c0,c1,c2',c3⟩ | exact ⟨g0 _,g1 _,g2 _,g3 _⟩ | exact ⟨i0 _ _,i1 _ _,i2 _ _,i3 _ _⟩ | exact ⟨m0,m1,m2,m3⟩ | exact ⟨n0,n1,n2,n3⟩)
    (first
    | (go_simp;go_at_call 213;refine (Qhk _).mono ?_;rintro e W1 ⟨rfl,rfl⟩)
    | (go_simp;go_at_call 144;refine (Qjl (ws:=plW) (vs:=plV x) rfl (by first | exact (Qnt rfl).alloc _ | exact Qnt (by simp)) (by first | exact HL.out _ _ (by simp) | exact (HL.out _ _ rfl).alloc _) (by omega) (by omega)).mono ?_;rintro e w8 ⟨a8,k8,c8,rfl,h8,o8,b8⟩;have kb8:=(J3 H7).below b8 (J3 H7).lt;have m0:w8.cell? ⟨qi,0,none⟩=some (.int .u32 x.1.1):=kb8.cell 0;have m1:w8.cell? ⟨qi,1,none⟩=some (.int .u64 x.1.2):=kb8.cell 1;have m2:w8.cell? ⟨qi,2,none⟩=some (.int .i64 x.2.1):=kb8.cell 2;have m3:w8.cell? ⟨qi,3,none⟩=some (.int .i64 x.2.2):=kb8.cell 3;obtain ⟨a9,c9,w9,e9,o9,b9,kb9⟩:=HA.out w8 b8 a8 k8 c8 h8 o8;have hh8:=Jh1 h8;clear h8;have n0:w9.cell? ⟨qi,0,none⟩=some (.int .u32 x.1.1):=kb9.cell 0;have n1:w9.cell? ⟨qi,1,none⟩=some (.int .u64 x.1.2):=kb9.cell 1;have n2:w9.cell? ⟨qi,2,none⟩=some (.int .i64 x.2.1):=kb9.cell 2;have n3:w9.cell? ⟨qi,3,none⟩=some (.int .i64 x.2.2):=kb9.cell 3)
    | (refine Qaq rfl (.tmp 20) (.tmp 36) 71 71 rfl _ _ rfl rfl _ _ e9 ?_))
   all_goals (
    have H9:Hid (w9.ownsRow q 5 1 (.slice a9 (k'+k8) c9) (k'+k8) (u8s (hd ++ plsB (ps.take (i+1))))/\Below q w w9/\k'+k8=26+16*(i+1)):=by
     refine ⟨?_,b9,?_⟩
     ·rw [Qmy HX.out.1,<-List.append_assoc];exact o9
     ·have hlen:(Qan plW (plV x)).length=16:=Qd2 x
      rw [hh8.out,hlen,(J3 HX)];omega
    clear o9 b9 e9 o8 b8 kb8 kb9 m0 m1 m2 m3 n0 n1 n2 n3 c0 c1 c2' c3 g0 g1 g2 g3 i0 i1 i2 i3 u0 u2 u3 HL HA;go_wp2
    go_roundw
    case rel=>exact ⟨i+1,a9,k'+k8,c9,by omega,by simp,by simp,(Jz2 H9),H9.out.1,(J2 H9)⟩
    case measure=>simp [intOf];omega)
  ·obtain rfl:i=m:=by omega
   obtain ⟨Z,hZ⟩:∃Z:Nat,Z=N - 1 - (26+16*i):=⟨_,rfl⟩
   have hw1:IntKind.i64.wrap ((N:Int) - 1)=(N:Int) - 1:=by have:=HN.out;rw [IntKind.wrap_i64];omega
   have hw2:IntKind.i64.wrap ((N:Int) - 1 - (k':Int))=(Z:Int):=by have:=HN.out;rw [IntKind.wrap_i64];omega
   have hqw:q<=wr.heap.size:=by have:=bl.size;rw [<-(J5 H)] at this;exact this
   have htk:ps.take i=ps:=List.take_of_length_le (by rw [(J3 H).1];exact Nat.le_refl _);rw [htk] at ow;have HE:=Jh5 ow bl hk' hZ hqw;clear ow bl hk' hZ htk hqw;go_upto_region 8 with (at_builtin;refine Qfx rfl (.tmp 39) (.tmp 44) rfl q a' k' c' (hd ++ plsB ps) rfl HE.out.1 Z rfl (by have:=HE.out;have:=HN.out;omega) (by have:=HE.out;have:=HN.out;omega) (Jz4 HE) ?_;intro a3 c3 w3 ow3 bl3)
   have H3:=Jh3 ow3 ((J2 HE).trans bl3) (Nat.le_trans (Jz4 HE) bl3.size);clear ow3 bl3 hw1 hw2;go_upto_region 9 with (at_builtin;refine Qak rfl (.tmp 46) (.tmp 47) rfl q a3 (k'+Z) c3 (hd ++ plsB ps ++ List.replicate Z 0) rfl (H3.out.1.alloc _) (some ⟨w3.heap.size,0,none⟩) 1 1 [231] rfl (Qf6 rfl rfl rfl (by intro z hz;simp only [List.mem_cons,List.not_mem_nil,or_false] at hz;subst hz;unfold Qaf;omega) (by unfold maxLen;omega)) (λ h=>by cases h) (by have:=HE.out;have:=HN.out;omega) (by have:=(Jz2 H3);simp;omega) ?_;intro a4 c4 w4 ow4 bl4)
   have bw4:Below q w w4:=((J2 H3).alloc (Jz2 H3) _).trans bl4;clear bl4;obtain ⟨L,hL⟩:∃L,L=hd ++ plsB ps ++ List.replicate Z 0 ++ [231]:=⟨_,rfl⟩
   rw [<-hL] at ow4;generalize hM:k'+Z+1=M at ow4 ⊢;have hMN:M=N:=by have:=HE.out;have:=HN.out;omega
   clear hM;subst hMN;have hLl:L.length=M:=by have:=ow4.1;rw [Qah] at this;omega
   rcases ow4.2 with ⟨hv,hn0⟩ | ⟨g,cap,cur,hv,hB,hg,hnc,hcm,hcs,htake⟩
   ·exact absurd hn0 (by have:=HN.out;omega)
   ·cases hv
    have hLf:∀z∈L,Qaf z:=by
     intro z hz;rw [hL] at hz;simp only [List.mem_append,List.mem_replicate,List.mem_singleton] at hz
     rcases hz with ((h | h) | ⟨_,h⟩) | h
     ·exact H.out.1.2.2.1 z h
     ·exact Qm1 _ z h
     ·subst h;unfold Qaf;omega
     ·subst h;unfold Qaf;omega
    have hBI:BIn w4 (some ⟨g,0,none⟩) M L:=Qcf ow4 (by omega) hLf;have hsl:∀w:World,(Instr.slice 71 (.slice (some ⟨g,0,none⟩) M c4) (some (.int .i64 4)) none none).run prog w=.ok (.slice (some ⟨g,4,none⟩) (M - 4) (c4 - 4)) w:=λ w=>by
     have:=Qc6 Tryz.underlying71 Tryz.one_bytes (some ⟨g,0,none⟩) M c4 4 (by have:=HN.out;omega) w;rw [if_neg (by have:=HN.out;omega)] at this;simpa [Addr.add_mid] using this
    have hcr:=Qds Qsd hLf;obtain ⟨K,hK⟩:∃K,K=crI 0 L:=⟨_,rfl⟩
    rw [<-hK] at hcr;have hKw:IntKind.u64.wrap K=K:=by have:=hcr.1;have:=hcr.2;rw [IntKind.wrap_u64];omega
    have HC:Hid (∀X,Below w4.heap.size w4 X->∀a8 k8 c8,k8=(Qan [4] [K]).length->X.ownsRow w4.heap.size 5 1 (.slice a8 k8 c8) k8 (u8s (Qan [4] [K]))->∃w9,(Builtin.copy_ #[71,71] 3 #[.slice (some ⟨g,4,none⟩) (M - 4) (c4 - 4),.slice a8 k8 c8]).run prog X=.ok (.int .i64 4) w9/\w9.ownsRow q 5 1 (.slice (some ⟨g,0,none⟩) M c4) M (u8s (Qek L))/\Below q w w9):=by
     intro X hX a8 k8 c8 h8 o8;have hgX:X.heap[g]?=some (.cells cur 5 (0,0)):=(hX.block g (Array.getElem?_eq_some_iff.1 hg).1).trans hg;have hp4:Qan [4] [K]=bigI 4 K:=Qos K;rw [hp4] at h8 o8;rw [Qac] at h8;subst h8;obtain ⟨b8,off8,ha8,hc8⟩:=(Qcf o8 (by unfold maxLen;omega) (Qiy _ _)).2.2.2.resolve_left (by omega);have hM28:=HN.out;have hcs':cur.size=c4:=by simpa using hcs
     have hrun:=run_copy_row (P:=prog) X 71 71 3 5 g 4 (M - 4) (c4 - 4) ⟨b8,off8,none⟩ 4 c8 cur 5 (u8s (bigI 4 K)) Tryz.underlying71 Tryz.byte1 hgX (by rw [Qah,Qac];show 4=min 4 (M - 4);omega) (λ j v hj=>by
      have hjl:j<4:=by have:=(List.getElem?_eq_some_iff.1 hj).1;rwa [Qah,Qac] at this
      rw [Addr.add_mid,hc8 j hjl,<-hj];simp [u8s,List.getD,Qac,hjl]) (by rw [Qah,Qac];omega) (Qhl _)
     rw [ha8];rw [Qah,Qac] at hrun;refine ⟨_,hrun,?_,?_⟩
     ·rw [<-Qed,<-hK]
      refine Qsn (cur:=cur) (W:=X) hB (by omega) hcm hcs' (by simpa using htake) hLl (by rw [Qac];omega) ?_
      have:=setRow_heap X g cur (cur.toList.take 4 ++ u8s (bigI 4 K) ++ cur.toList.drop (4+4)).toArray 5 (0,0) hgX;unfold splice;rw [Qah,Qac,<-List.append_assoc];exact this
     ·exact below_setRow (bw4.trans (hX.mono (by have:=(Array.getElem?_eq_some_iff.1 hg).1;omega))) hB _
    have HB:Hid (∀X,Below w4.heap.size w4 X->BIn X (some ⟨g,0,none⟩) M L):=λ X hX=>hBI.below hX
    have HK:=Jh4 hK hcr hL (J4 HE);clear hB hg hnc hcm hcs htake hLf hBI hcr hK hL bw4 ow4 hLl;have hB0:Hid (∀X,X=w4.drew\/(∃o,X=(w4.alloc o).drew)\/(∃o o',X=((w4.alloc o).alloc o').drew)->Below w4.heap.size w4 X):=by
     rintro X (rfl | ⟨o,rfl⟩ | ⟨o,o',rfl⟩)
     ·exact (Below.refl _ _).drew
     ·exact ((Below.refl _ _).alloc (Nat.le_refl _) _).drew
     ·exact (((Below.refl _ _).alloc (Nat.le_refl _) _).alloc (by simp) _).drew
    have HF:Hid (∀(X:World) (g:Nat),X.heap.size=g->NIn .u64 (X.alloc (.cells #[.int .u64 K] 45)) (some ⟨g,0,none⟩) 1 [K]):=Q2i (by have:=(J2 HK);unfold Qas at this;unfold Qai;omega);go_region_held3 (λ _=>True) (exact trivial)
     (first
     | (go_simp;go_at_call 206;refine (Qge _ (some ⟨g,0,none⟩) M c4 1 L _ (by first | exact (Blk.new' (L:=[.slice (some ⟨g,0,none⟩) M c4]) rfl rfl).cell 0 | exact (Blk.new' (L:=[.slice (some ⟨g,0,none⟩) M c4]) (by simp) rfl).cell 0 | exact ((Blk.new' (L:=[.slice (some ⟨g,0,none⟩) M c4]) rfl rfl).alloc _).cell 0) (HB.out _ (hB0.out _ (by first | exact .inr (.inl ⟨_,rfl⟩) | exact .inr (.inr ⟨_,_,rfl⟩))))).mono ?_;rintro e W5 ⟨rfl,hw5⟩;replace hw5:=hw5.symm;subst hw5;rw [<-HK.out.1])
     | (go_simp;go_at_call 144;refine (Qo6 (ws:=[4]) (vs:=[K]) rfl (by first | exact ((Q2l rfl).alloc _).alloc _ | exact (Q2l (by simp)).alloc _ | exact Q2l (by simp)) (by first | exact HF.out _ _ (by simp) | exact (HF.out _ _ (by simp)).alloc _) (by omega) (by omega)).mono ?_;rintro e w8 ⟨a8,k8,c8,rfl,h8,o8,b8⟩;obtain ⟨w9,e9,o9,b9⟩:=HC.out w8 b8 a8 k8 c8 h8 o8;clear h8 o8 b8))
    all_goals (
     have H9:=Jh2 o9 b9;clear o9 b9 e9 HC HB hB0 hsl hKw HF;go_wp2
     go_ret
     refine ⟨g,c4,rfl,?_,H9.out.2⟩
     rw [<-(Jz3 HK),<-(J3 HK)];exact H9.out.1)
end Go.Proofs.YtcdnjeiamihhbaaGreat
namespace Go.Proofs.YtcdnjeiamihhbaaGreat
open Go.RowKit Go.Shelf
attribute [local go_sem] Oper.semAt_some
theorem Qv1 (a:Option Addr) (n c:Nat) (r:Int) (w:World):Calls prog 143 #[.slice a n c,.int .i64 r] w λ e w'=>e=.returned (.func (.func 210) #[] #[.pointer (some ⟨w.heap.size,0,none⟩),.pointer (some ⟨w.heap.size+1,0,none⟩)])/\w'=(w.alloc (.cells #[.slice a n c] 77)).alloc (.cells #[.int .i64 r] 3):=by
 have hmf:∀(fn:Fn) (first cap:Array Value) (w:World),(Instr.makeFunc fn first cap).run prog w=.ok (.func fn first cap) w:=λ _ _ _ _=>rfl
 go_enter func143,ntmps143
 go_wp2
 go_ret
 exact ⟨rfl,rfl⟩
def kadr (A:Option Addr) (C r:Nat):Nat->Option Addr
 | 0=>A
 | k+1=>Qfo (kadr A C r k) (C - k*r) r
theorem KIn.cuts {w:World} {A:Option Addr} {n C r:Nat} {ps:List Pl} (h:KIn w A n ps) (hc:n<=C):∀k,k*r<=n->KIn w (kadr A C r k) (n - k*r) (ps.drop (k*r))
 | 0,_=>by simpa [kadr] using h
 | k+1,hk=>by
  have e:(k+1)*r=k*r+r:=Nat.succ_mul k r;rw [e] at hk;have ih:=KIn.cuts (r:=r) h hc k (by omega);have:=ih.back (c:=C - k*r) r (by omega) (by omega);rw [List.drop_drop,Nat.sub_sub,<-e] at this;exact this
theorem Qtj {r k:Nat} {ps:List Pl}:Qb7 r k ps=(ps.drop (k*r)).take r:=rfl
theorem Qjy {r n k:Nat} (hr:0<r) (h1:n - k*r<=r) (h2:k=0\/0<n - k*r):Qd4 r n=k+1:=by
 unfold Qd4;have e:(k+1)*r=k*r+r:=Nat.succ_mul k r;rcases h2 with rfl | h2
 ·have:(n+r - 1) / r<=1:=by
   rw [Nat.div_le_iff_le_mul_add_pred hr];omega
  omega
 ·have h3:(n+r - 1) / r=k+1:=by
   apply Nat.div_eq_of_lt_le
   ·omega
   ·have e2:(k+1+1)*r=(k+1)*r+r:=Nat.succ_mul (k+1) r
    omega
  omega
set_option maxRecDepth 100000 in
set_option maxHeartbeats 2000000 in
theorem Qtd {A:Option Addr} {n C r B1 B2 l:Nat} {R:Loop} {f:Nat} {J:Nat->World->Prop} {J':Nat->Value->World->Prop} (hr:0<r) (hr':r<=1000000) (hn:n<=10000000) (hC:n<=C)
  (hcap:∀k W,J k W->W.cell? ⟨B1,0,none⟩=some (.slice A n C)/\W.cell? ⟨B2,0,none⟩=some (.int .i64 r))
  (hmore:∀k W,J k W->k*r<=n->r<n - k*r->J' k (.slice (kadr A C r k) r (C - k*r)) W)
  (hlast:∀k W,J k W->k*r<=n->n - k*r<=r->(k=0\/0<n - k*r)->J' k (.slice (kadr A C r k) (n - k*r) (C - k*r)) W)
  (hY:∀k x W1,Book R l W1->J' k x W1->YieldAt Fence.wide (f - 1) prog (l+1) #[x] W1 λ e W'=>e=.returned (.bool true)/\Book R l W'/\J (k+1) W')
  (W:World) (hB:Book R l W) (h0:J 0 W) :
  CallsIn Fence.wide f prog 210 #[.func (.yield (l+1)) #[] #[],.pointer (some ⟨B1,0,none⟩),.pointer (some ⟨B2,0,none⟩)] W λ e W'=>(∃v,e=.returned v)/\Book R l W'/\J (Qd4 r n) W':=by
 obtain ⟨c1,c2⟩:=hcap 0 W h0;refine callsIn_of_wp func210 rfl trivial ?_ rfl
 simp only [ntmps210,List.size_toArray,List.length_cons,List.length_nil,Nat.reduceAdd,Nat.reduceSub,Array.replicate_succ,Array.replicate_zero,List.push_toArray,List.append_toArray,List.nil_append,List.cons_append]
 have hfw:∀f,Fence.wide.fn f=True:=λ _=>rfl
 have hdw:Fence.wide.depth.isSome=false:=rfl;have HH:=Jh8 hcap hmore hlast hB h0 hr hC hn;have HY:=Jh1 @hY;clear hcap hmore hlast hB h0 hY hr hC hr' hn;gi_wp2
 gi_loopw [4] (λ v wr=>∃k N:Nat,v=.slice (kadr A C r k) N (C - k*r)/\N=n - k*r/\k*r<=n/\(k=0\/0<n - k*r)/\Book R l wr/\J k wr) (λ v wr=>(match v with | .slice _ N _=>N | _=>0))
 case atStart=>
  exact ⟨0,n,by simp [kadr],by simp,by simp,.inl rfl,(J4 HH),(J5 HH)⟩
 case round=>
  obtain ⟨k,N,rfl,hN,hkn,hpos,hbk,hj⟩:=hrel;obtain ⟨c3,c4⟩:=HH.out.1 k _ hj;have hrn:=(J6 HH)
  have hNC:N<=C - k*r:=by have:=(J7 HH);omega
  have hNs:N<=10000000:=by have:=(Jz7 HH);omega
  rcases Nat.lt_or_ge r N with hlt | hge
  ·have hJ':=(J2 HH) k wr hj hkn (by omega)
   obtain ⟨fn,tmps,assign,body,hy,hR⟩:=HY.out k _ wr hbk hJ';have hlt':(r:Int)<N:=by omega
   have hs1:=λ w=>Qm3 (kadr A C r k) N (C - k*r) r (by omega) w
   have HK:=Jh3 hN hkn hlt;have hrN:r<=N:=by omega
   clear hN hkn hpos hj hbk hJ' hlt;gi_wp2
   refine hR.mono ?_
   rintro e W4 ⟨rfl,hbk4,hj4⟩;obtain ⟨c5,c6⟩:=HH.out.1 (k+1) _ hj4;have hs2:=λ w=>Qpi (kadr A C r k) N (C - k*r) r hrN w
   have HJ:=Jh2 hbk4 hj4;clear hR hy hbk4 hj4 c3 c4;gi_wp2
   go_roundw
   case rel=>
    have e:(k+1)*r=k*r+r:=Nat.succ_mul k r;have hk:=HK.out;exact ⟨k+1,N - r,by rw [e,<-Nat.sub_sub];rfl,by omega,by omega,.inr (by omega),HJ.out.1,HJ.out.2⟩
   case measure=>simp;omega
  ·have hJ':=(J3 HH) k wr hj hkn (by omega) hpos
   rw [<-hN] at hJ';obtain ⟨fn,tmps,assign,body,hy,hR⟩:=HY.out k _ wr hbk hJ';have hge':(N:Int)<=r:=by omega
   have HK:Hid (Qd4 r n=k+1):=Qjy hrn (by omega) hpos;clear hN hkn hpos hj hbk hJ' hge;gi_wp2
   refine hR.mono ?_
   rintro e W4 ⟨rfl,hbk4,hj4⟩;have HJ:=Jh2 hbk4 hj4;clear hR hy hbk4 hj4;gi_wp2
   go_end0
   exact ⟨⟨_,rfl⟩,HJ.out.1,by rw [HK.out];exact HJ.out.2⟩
def Qhp (o:Oper):Bool:=match o.op with | .defer _=>false | _=>true
theorem Qss {o:Oper} (h:Qhp o=true):∀c,o.op≠.defer c:=by
 intro c e;unfold Qhp at h;rw [e] at h;cases h
theorem Q2c {P:Program} {l n:Nat} {row:String} {args:Array Value} {w:World} {R:Value->World->Prop} (h:Rows P row args w R):RowsIn (Fence.wide.inRound l) n P row args w R:=
 λ c cs _=>let ⟨v,w',r,s⟩:=h c cs;⟨v,w',r,stepsIn_wide.2 s⟩
theorem Qsp {P:Program} {l n:Nat} {o:Oper} {a:Act} {w:World} {K:Act->World->Prop} {Q:Exit->Act->World->Prop} (hd:Qhp o=true) (h:o.wp P a w K Q):o.wpIn (Fence.wide.inRound l) n P a w K Q:=by
 refine ⟨λ f _=>trivial,?_⟩
 rw [show (Fence.wide.inRound l).round=some l from rfl,Oper.semAt_some l _ o (Qss hd)];unfold Oper.wp at h;generalize (execOp a.eval o).run P w=r at *;cases r with
 | ok x w'=>
  cases x <;> simp only [Oper.upon,Oper.uponIn] at h ⊢ <;>
   first
    | exact h
    | exact ⟨(λ e=>by cases e),callsIn_wide.2 h⟩
    | exact ⟨(λ e=>by cases e),Q2c h⟩
 | halt x w'=>cases x <;> simp only [Oper.upon,Oper.uponIn] at h ⊢ <;> exact h
theorem Qxu {P:Program} {l n:Nat} {ops:Array Oper} {Q:Exit->Act->World->Prop} (hQ:¬LetsOut Q) (hd:∀(i:Nat) (o:Oper),ops[i]?=some o->Qhp o=true) {i:Nat} {K K':Act->World->Prop} {a:Act} {w:World} (hK:∀a w,K a w->K' a w) (h:wpOp P ops Q i K a w):wpOpIn (Fence.wide.inRound l) n P ops Q i K' a w:=by
 unfold wpOp at h;unfold wpOpIn;cases ho:ops[i]? with
 | none=>rw [ho] at h;exact hK _ _ h
 | some o=>
  rw [ho] at h;dsimp only at h ⊢
  split
  ·rename_i hw
   rw [if_pos hw] at h;rcases h with h | ⟨_,h⟩
   ·exact Oper.wpIn_mono hK (Qsp (hd i o ho) h)
   ·exact absurd h hQ
  ·rename_i hw
   rw [if_neg hw] at h;exact ⟨λ f _=>trivial,hK _ _ h⟩
theorem Qm0 {P:Program} {l n:Nat} {md:Region.Mode} {ops:Array Oper} {Q:Exit->Act->World->Prop} (hQ:¬LetsOut Q) (hd:∀(i:Nat) (o:Oper),ops[i]?=some o->Qhp o=true) :
  ∀(fuel:Nat) (listed:Array Bool) (a:Act) (w:World),wpAny P md ops Q fuel listed a w->wpAnyIn (Fence.wide.inRound l) n P md ops Q fuel listed a w
 | 0,_,_,_,h=>h
 | fuel+1,_,_,_,h=>⟨h.1,λ i hi=>Qxu hQ hd (λ a' w' h'=>Qm0 hQ hd fuel _ a' w' h') (h.2 i hi)⟩
theorem Qhz {P:Program} {l n id:Nat} {ops:List Oper} {S:World->Prop} {Q:Exit->Act->World->Prop} {a:Act} {w:World} (hm:P.follows .mixedOrders=true) (hQ:¬LetsOut Q) (hd:ops.all Qhp=true) (hS:S w.drew)
  (h:S w.drew->wpAnyH P .any ops.toArray Q S ops.toArray.size (Array.replicate ops.toArray.size false) a w.drew):(Code.region id ops.toArray true).wpIn (Fence.wide.inRound l) n P Q a w:=
 wpIn_region_any hm (Qm0 hQ (λ i o ho=>List.all_eq_true.1 hd o (by
  have:=List.mem_of_getElem? (by simpa using ho:ops[i]?=some o);exact this)) _ _ _ _ (wpAny_of_held _ _ _ _ (h hS)))
end Go.Proofs.YtcdnjeiamihhbaaGreat
