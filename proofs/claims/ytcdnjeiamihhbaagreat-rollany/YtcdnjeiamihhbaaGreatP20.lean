/- P20 -/
import Derived.Test.YtcdnjeiamihhbaaGreatP19
import Derived.Test.YtcdnjeiamihhbaaGreatP17
set_option linter.unusedVariables false
set_option maxRecDepth 4000
open Go.Proofs.Tryz
namespace Go.Proofs.YtcdnjeiamihhbaaGreat
open Go.RowKit
theorem Qoq (x:Pl) (S:List Pl) (k:Nat) (y:Pl) (hy:S[k]?=some y):Qbm x (S.take (k+1))=Qav x (Qbm x (S.take k)) y:=by
 have hk:k<S.length:=(List.getElem?_eq_some_iff.1 hy).1;have e:S.take (k+1)=S.take k ++ [y]:=by rw [List.take_succ_eq_append_getElem hk];congr 2;exact (List.getElem?_eq_some_iff.1 hy).2
 unfold Qbm;rw [e,List.foldl_append];rfl
theorem Qkr (x:Pl):∀(S:List Pl) (s:List Pl × Bool),(S.foldl (Qav x) s).1.length<=s.1.length+2*S.length
 | [],s=>by simp
 | y :: r,s=>by
  have:=Qkr x r (Qav x s y);have h2:(Qav x s y).1.length<=s.1.length+2:=by
   unfold Qav;simp only [List.length_append]
   have a1:(if (!s.2 && (ltP x.1 y.1 || y.1 == x.1))=true then [x] else []).length<=1:=by split <;> simp
   have a2:(if (!(y.1 == x.1) && (y.2 != x.2))=true then [y] else []).length<=1:=by split <;> simp
   omega
  rw [List.foldl_cons,List.length_cons];omega
structure PutR (w:World) (x:Pl) (b:Option Addr) (dd:Nat) (o:List Pl) (wr:World):Prop where
 bx:Blk wr w.heap.size (plL x) 137
 row:wr.ownsRow (w.heap.size+1) 137 4 (.slice b o.length dd) o.length (plC o)
 bel:Below w.heap.size w wr
theorem PutR.below {w:World} {x:Pl} {b:Option Addr} {dd:Nat} {o:List Pl} {wr wr':World} (h:PutR w x b dd o wr) (hb:Below wr.heap.size wr wr'):PutR w x b dd o wr':=
 ⟨h.bx.below hb h.bx.lt,(Qab Non hb).own h.row (λ _ _ e=>e),Qla h.bel hb⟩
theorem PutR.size {w:World} {x:Pl} {b:Option Addr} {dd:Nat} {o:List Pl} {wr:World} (h:PutR w x b dd o wr):w.heap.size+1<=wr.heap.size:=h.bx.lt
theorem PutR.app {w:World} {x:Pl} {b:Option Addr} {dd:Nat} {o:List Pl} {wr:World} (h:PutR w x b dd o wr) (y:Pl) (hn:o.length<=100000) :
  ∃g cc W,(Builtin.append_ #[77,77] 77 #[.slice b o.length dd,.slice (some ⟨wr.heap.size,0,none⟩) 1 1]).run prog (wr.alloc (.cells #[.int .u32 y.1.1,.int .u64 y.1.2,.int .i64 y.2.1,.int .i64 y.2.2] 137))=.ok (.slice (some ⟨g,0,none⟩) (o.length+1) cc) W/\
   PutR w x (some ⟨g,0,none⟩) cc (o ++ [y]) W/\Out (λ k=>w.heap.size+1<=k/\(Value.slice b o.length dd).ownBlock=some k) wr W:=by
 obtain ⟨g,cc,W,h1,h2,h3⟩:=Qhm h.row y hn h.size wr.heap.size rfl;have ho:Out (λ k=>w.heap.size+1<=k/\(Value.slice b o.length dd).ownBlock=some k) wr W:=⟨h3.os,h3.tape,h3.output,h3.size,λ k hk hn'=>h3.block k hk (λ e=>hn' ⟨(h.row.lt k e.symm).1,e.symm⟩)⟩
 refine ⟨g,cc,W,h1,⟨ho.blk h.bx (λ e=>by omega),by simpa using h2,?_⟩,ho⟩
 exact ⟨h3.os.trans h.bel.os,h3.tape.trans h.bel.tape,h3.output.trans h.bel.output,Nat.le_trans h.bel.size ho.size,λ j hj=>(ho.block j (Nat.lt_of_lt_of_le hj h.bel.size) (λ e=>by omega)).trans (h.bel.block j hj)⟩
theorem Blk.four {w:World} {g:Nat} {x:Pl} (h:Blk w g (plL x) 137):w.cell? ⟨g,0,none⟩=some (.int .u32 x.1.1)/\w.cell? ⟨g,1,none⟩=some (.int .u64 x.1.2)/\w.cell? ⟨g,2,none⟩=some (.int .i64 x.2.1)/\w.cell? ⟨g,3,none⟩=some (.int .i64 x.2.2):=
 ⟨h.cell 0,h.cell 1,h.cell 2,h.cell 3⟩
theorem PutR.done {w:World} {x:Pl} {b:Option Addr} {dd r:Nat} {o:List Pl} {wr:World} {v:Value} (h:PutR w x b dd o wr) (hb:Blk w r [v] 252) (hg:Good o):LmN w.heap.size (wr.setCell ⟨r,0,none⟩ (.slice b o.length dd)) r o/\Out (λ k=>k=r) w (wr.setCell ⟨r,0,none⟩ (.slice b o.length dd)):=by
 have hbr:=hb.below h.bel hb.lt;have hne:=Q00 hbr h.row (by decide);refine ⟨⟨⟨b,_,dd,hbr.set 0 _,?_⟩,hg⟩,(Qab (λ k=>k=r) h.bel).setCell (.inl rfl) _⟩
 have ho:Out (λ k=>k=r) wr (wr.setCell ⟨r,0,none⟩ (.slice b o.length dd)):=(Out.refl (λ k=>k=r) wr).setCell (p:=⟨r,0,none⟩) (.inl rfl) _;exact ho.own (Qdr (Qbh h.row) (λ g hg=>by have:=(h.row.lt g hg).1;omega)) (λ g hg e=>hne (by rw [hg,e]))
set_option maxHeartbeats 8000000 in
theorem Ql6 (r:Nat) (S:List Pl) (x:Pl) (w:World) (h:LmD w r S) (hx:Qdu x) (hS:S.length<=10000) :
  Calls prog 103 #[.pointer (some ⟨r,0,none⟩),.agg #[.int .u32 x.1.1,.int .u64 x.1.2,.int .i64 x.2.1,.int .i64 x.2.2]] w λ e w'=>e=.returned (.tuple #[])/\LmN w.heap.size w' r (putS S x)/\Out (λ k=>k=r) w w':=by
 obtain ⟨a,m,cc,hb,hr⟩:=h.row;have hm:S.length=m:=(Qeh hr).1;subst hm;have HG:=Jh2 h.good hx;have HR:=Jh2 hb hr;clear h hb hr hx;go_enter func103,ntmps103
 go_wp2
 go_loopw [4,5,6,7,8,9] (λ v d i _ _ _ wr=>∃(k:Nat) (b:Option Addr) (dd:Nat) (o:List Pl) (d':Bool),k<=S.length/\i=.int .i64 k/\d=.bool d'/\v=.slice b o.length dd/\PutR w x b dd o wr/\Qbm x (S.take k)=(o,d')) (λ _ _ i _ _ _ _=>S.length - (intOf i).toNat)
 case atStart=>exact ⟨0,none,0,[],false,by omega,rfl,rfl,rfl,⟨Blk.new' rfl rfl,⟨rfl,.inl ⟨rfl,rfl⟩⟩,(Below.refl _ _).alloc (Nat.le_refl _) _⟩,rfl⟩
 case round=>
  obtain ⟨k,b,dd,o,d,hk,rfl,rfl,rfl,hP,hod⟩:=hrel;have c0:=(HR.out.1.below hP.bel HR.out.1.lt).cell 0;have c0':=λ o=>(HR.out.1.below (hP.bel.alloc hP.bel.size o) HR.out.1.lt).cell 0
  simp only [List.getElem?_cons_zero] at c0 c0'
  have hol:o.length<=2*k:=by
   have:=Qkr x (S.take k) ([],false);rw [List.length_take] at this;unfold Qbm at hod;rw [hod] at this;simp at this
   omega
  by_cases hlt:k<S.length
  ·have hlt':(k:Int)<S.length:=by omega
   obtain ⟨y,hy⟩:∃y,S[k]?=some y:=⟨_,List.getElem?_eq_getElem hlt⟩
   have HST:Hid (Qbm x (S.take (k+1))=Qav x (o,d) y):=by rw [<-hod];exact Qoq x S k y hy
   obtain ⟨g,rfl,hc⟩:=(Qeh HR.out.2).2.resolve_left (by omega);obtain ⟨y0,y1,y2,y3⟩:=hc k y hy;have y0:=(hP.bel.cell (Qaa y0)).trans y0;have y1:=(hP.bel.cell (Qaa y1)).trans y1;have y2:=(hP.bel.cell (Qaa y2)).trans y2;have y3:=(hP.bel.cell (Qaa y3)).trans y3;have HY:Hid (Blk (wr.alloc (.cells #[.int .u32 y.1.1,.int .u64 y.1.2,.int .i64 y.2.1,.int .i64 y.2.2] 137)) wr.heap.size (plL y) 137):=Blk.new' rfl rfl;have HP:Hid (PutR w x b dd o (wr.alloc (.cells #[.int .u32 y.1.1,.int .u64 y.1.2,.int .i64 y.2.1,.int .i64 y.2.2] 137))):=hP.below ((Below.refl _ _).alloc (Nat.le_refl _) _);have HQ:=Jh1 hP;obtain ⟨x0,x1,x2,x3⟩:=HP.out.bx.four;have C:=Qyf x y (wr.alloc (.cells #[.int .u32 y.1.1,.int .u64 y.1.2,.int .i64 y.2.1,.int .i64 y.2.2] 137));clear hc hP hy;clear hod;cases d with
   | false=>
    by_cases hsm:y.1=x.1
    ·have e1:(y.1.1 == x.1.1)=true:=by rw [hsm];simp
     have e2:(y.1.2 == x.1.2)=true:=by rw [hsm];simp
     have hl:ltP x.1 y.1=false:=by rw [hsm];exact Qfj _
     rw [hl] at C;have HL:=Jh1 hl;have HE:Hid ((y.1 == x.1)=true):=by show (y.1 == x.1)=true;simp [hsm]
     have HT:=Jh1 trivial;clear hsm hl;go_wp2_with fail
     refine C.mono ?_
     rintro e w5 ⟨rfl,hb5⟩;have hP5:=HP.out.below hb5;have hY5:=HY.out.below hb5 HY.out.lt;obtain ⟨x0,x1,x2,x3⟩:=hP5.bx.four;obtain ⟨y0,y1,y2,y3⟩:=hY5.four;obtain ⟨g1,d1,W1,hr1,hP6,ho1⟩:=hP5.app x (by omega);have hY6:=ho1.blk hY5 (λ e=>by have:=(HQ.out.row.lt _ e.2).2;omega);obtain ⟨z0,z1,z2,z3⟩:=hP6.bx.four;obtain ⟨v0,v1,v2,v3⟩:=hY6.four;have HF:=Jh1 hP6;clear hP5 hY5 hb5 hP6 hY6 ho1;go_wp2_with (first | (at_builtin;refine Qae rfl _ _ 77 77 rfl _ _ rfl rfl _ _ hr1 ?_;clear hr1) | go_in)
     go_roundw
     case rel=>
      have hs:Qbm x (S.take (k+1))=((o ++ [x]),true):=by rw [HST.out];simp [Qav,HL.out,HE.out]
      exact ⟨k+1,(some ⟨g1,0,none⟩),d1,(o ++ [x]),true,by omega,by go_num,rfl,by simp,HF.out,hs⟩
     case measure=>simp [intOf];omega
    ·have hne:=Qx4.1 hsm
     have HE:Hid ((y.1 == x.1)=false):=by show (y.1 == x.1)=false;simpa using hsm
     by_cases ht:y.1.1=x.1.1
     ·have e1:(y.1.1 == x.1.1)=true:=by rw [ht];simp
      have e2:(y.1.2 == x.1.2)=false:=by simp only [beq_eq_false_iff_ne];omega
      clear ht hsm hne;cases hl:ltP x.1 y.1 with
      | false=>
       rw [hl] at C;have HL:=Jh1 hl;clear hl;by_cases hat:y.2=x.2
       ·have hab:(y.2 != x.2)=false:=by simp [hat]
        have hq:=λ W=>neqA y.2 x.2 W
        rw [hab] at hq;have HT:=Jh1 hab;clear hab;clear hat;go_wp2_with fail
        refine C.mono ?_
        rintro e w5 ⟨rfl,hb5⟩;have hP5:=HP.out.below hb5;have hY5:=HY.out.below hb5 HY.out.lt;obtain ⟨x0,x1,x2,x3⟩:=hP5.bx.four;obtain ⟨y0,y1,y2,y3⟩:=hY5.four;have HF:=Jh1 hP5;clear hP5 hY5 hb5;go_wp2
        go_roundw
        case rel=>
         have hs:Qbm x (S.take (k+1))=(o,false):=by rw [HST.out];simp [Qav,HL.out,HE.out,HT.out]
         exact ⟨k+1,b,dd,o,false,by omega,by go_num,rfl,by simp,HF.out,hs⟩
        case measure=>simp [intOf];omega
       ·have hab:(y.2 != x.2)=true:=by simpa using hat
        have hq:=λ W=>neqA y.2 x.2 W
        rw [hab] at hq;have HT:=Jh1 hab;clear hab;clear hat;go_wp2_with fail
        refine C.mono ?_
        rintro e w5 ⟨rfl,hb5⟩;have hP5:=HP.out.below hb5;have hY5:=HY.out.below hb5 HY.out.lt;obtain ⟨x0,x1,x2,x3⟩:=hP5.bx.four;obtain ⟨y0,y1,y2,y3⟩:=hY5.four;obtain ⟨g2,d2,W2,hr2,hP7,ho2⟩:=hP5.app y (by omega);have HF:=Jh1 hP7;clear hP5 hY5 hb5 hP7 ho2;go_wp2_with (first | (at_builtin;refine Qae rfl _ _ 77 77 rfl _ _ rfl rfl _ _ hr2 ?_;clear hr2) | go_in)
        go_roundw
        case rel=>
         have hs:Qbm x (S.take (k+1))=((o ++ [y]),false):=by rw [HST.out];simp [Qav,HL.out,HE.out,HT.out]
         exact ⟨k+1,(some ⟨g2,0,none⟩),d2,(o ++ [y]),false,by omega,by go_num,rfl,by simp,HF.out,hs⟩
        case measure=>simp [intOf];omega
      | true=>
       rw [hl] at C;have HL:=Jh1 hl;clear hl;by_cases hat:y.2=x.2
       ·have hab:(y.2 != x.2)=false:=by simp [hat]
        have hq:=λ W=>neqA y.2 x.2 W
        rw [hab] at hq;have HT:=Jh1 hab;clear hab;clear hat;go_wp2_with fail
        refine C.mono ?_
        rintro e w5 ⟨rfl,hb5⟩;have hP5:=HP.out.below hb5;have hY5:=HY.out.below hb5 HY.out.lt;obtain ⟨x0,x1,x2,x3⟩:=hP5.bx.four;obtain ⟨y0,y1,y2,y3⟩:=hY5.four;obtain ⟨g1,d1,W1,hr1,hP6,ho1⟩:=hP5.app x (by omega);have hY6:=ho1.blk hY5 (λ e=>by have:=(HQ.out.row.lt _ e.2).2;omega);obtain ⟨z0,z1,z2,z3⟩:=hP6.bx.four;obtain ⟨v0,v1,v2,v3⟩:=hY6.four;have HF:=Jh1 hP6;clear hP5 hY5 hb5 hP6 hY6 ho1;go_wp2_with (first | (at_builtin;refine Qae rfl _ _ 77 77 rfl _ _ rfl rfl _ _ hr1 ?_;clear hr1) | go_in)
        go_roundw
        case rel=>
         have hs:Qbm x (S.take (k+1))=((o ++ [x]),true):=by rw [HST.out];simp [Qav,HL.out,HE.out,HT.out]
         exact ⟨k+1,(some ⟨g1,0,none⟩),d1,(o ++ [x]),true,by omega,by go_num,rfl,by simp,HF.out,hs⟩
        case measure=>simp [intOf];omega
       ·have hab:(y.2 != x.2)=true:=by simpa using hat
        have hq:=λ W=>neqA y.2 x.2 W
        rw [hab] at hq;have HT:=Jh1 hab;clear hab;clear hat;go_wp2_with fail
        refine C.mono ?_
        rintro e w5 ⟨rfl,hb5⟩;have hP5:=HP.out.below hb5;have hY5:=HY.out.below hb5 HY.out.lt;obtain ⟨x0,x1,x2,x3⟩:=hP5.bx.four;obtain ⟨y0,y1,y2,y3⟩:=hY5.four;obtain ⟨g1,d1,W1,hr1,hP6,ho1⟩:=hP5.app x (by omega);have hY6:=ho1.blk hY5 (λ e=>by have:=(HQ.out.row.lt _ e.2).2;omega);obtain ⟨z0,z1,z2,z3⟩:=hP6.bx.four;obtain ⟨v0,v1,v2,v3⟩:=hY6.four;obtain ⟨g2,d2,W2,hr2,hP7,ho2⟩:=hP6.app y (by simp;omega);simp only [List.length_append,List.length_cons,List.length_nil,Nat.zero_add] at hr2
        have HF:=Jh1 hP7;clear hP5 hY5 hb5 hP6 hY6 ho1 hP7 ho2;go_wp2_with (first | (at_builtin;refine Qae rfl _ _ 77 77 rfl _ _ rfl rfl _ _ hr1 ?_;clear hr1) | (at_builtin;refine Qae rfl _ _ 77 77 rfl _ _ rfl rfl _ _ hr2 ?_;clear hr2) | go_in)
        go_roundw
        case rel=>
         have hs:Qbm x (S.take (k+1))=((o ++ [x] ++ [y]),true):=by rw [HST.out];simp [Qav,HL.out,HE.out,HT.out]
         exact ⟨k+1,(some ⟨g2,0,none⟩),d2,(o ++ [x] ++ [y]),true,by omega,by go_num,rfl,by simp,HF.out,hs⟩
        case measure=>simp [intOf];omega
     ·have e1:(y.1.1 == x.1.1)=false:=by simpa using ht
      clear ht hsm hne;cases hl:ltP x.1 y.1 with
      | false=>
       rw [hl] at C;have HL:=Jh1 hl;clear hl;by_cases hat:y.2=x.2
       ·have hab:(y.2 != x.2)=false:=by simp [hat]
        have hq:=λ W=>neqA y.2 x.2 W
        rw [hab] at hq;have HT:=Jh1 hab;clear hab;clear hat;go_wp2_with fail
        refine C.mono ?_
        rintro e w5 ⟨rfl,hb5⟩;have hP5:=HP.out.below hb5;have hY5:=HY.out.below hb5 HY.out.lt;obtain ⟨x0,x1,x2,x3⟩:=hP5.bx.four;obtain ⟨y0,y1,y2,y3⟩:=hY5.four;have HF:=Jh1 hP5;clear hP5 hY5 hb5;go_wp2
        go_roundw
        case rel=>
         have hs:Qbm x (S.take (k+1))=(o,false):=by rw [HST.out];simp [Qav,HL.out,HE.out,HT.out]
         exact ⟨k+1,b,dd,o,false,by omega,by go_num,rfl,by simp,HF.out,hs⟩
        case measure=>simp [intOf];omega
       ·have hab:(y.2 != x.2)=true:=by simpa using hat
        have hq:=λ W=>neqA y.2 x.2 W
        rw [hab] at hq;have HT:=Jh1 hab;clear hab;clear hat;go_wp2_with fail
        refine C.mono ?_
        rintro e w5 ⟨rfl,hb5⟩;have hP5:=HP.out.below hb5;have hY5:=HY.out.below hb5 HY.out.lt;obtain ⟨x0,x1,x2,x3⟩:=hP5.bx.four;obtain ⟨y0,y1,y2,y3⟩:=hY5.four;obtain ⟨g2,d2,W2,hr2,hP7,ho2⟩:=hP5.app y (by omega);have HF:=Jh1 hP7;clear hP5 hY5 hb5 hP7 ho2;go_wp2_with (first | (at_builtin;refine Qae rfl _ _ 77 77 rfl _ _ rfl rfl _ _ hr2 ?_;clear hr2) | go_in)
        go_roundw
        case rel=>
         have hs:Qbm x (S.take (k+1))=((o ++ [y]),false):=by rw [HST.out];simp [Qav,HL.out,HE.out,HT.out]
         exact ⟨k+1,(some ⟨g2,0,none⟩),d2,(o ++ [y]),false,by omega,by go_num,rfl,by simp,HF.out,hs⟩
        case measure=>simp [intOf];omega
      | true=>
       rw [hl] at C;have HL:=Jh1 hl;clear hl;by_cases hat:y.2=x.2
       ·have hab:(y.2 != x.2)=false:=by simp [hat]
        have hq:=λ W=>neqA y.2 x.2 W
        rw [hab] at hq;have HT:=Jh1 hab;clear hab;clear hat;go_wp2_with fail
        refine C.mono ?_
        rintro e w5 ⟨rfl,hb5⟩;have hP5:=HP.out.below hb5;have hY5:=HY.out.below hb5 HY.out.lt;obtain ⟨x0,x1,x2,x3⟩:=hP5.bx.four;obtain ⟨y0,y1,y2,y3⟩:=hY5.four;obtain ⟨g1,d1,W1,hr1,hP6,ho1⟩:=hP5.app x (by omega);have hY6:=ho1.blk hY5 (λ e=>by have:=(HQ.out.row.lt _ e.2).2;omega);obtain ⟨z0,z1,z2,z3⟩:=hP6.bx.four;obtain ⟨v0,v1,v2,v3⟩:=hY6.four;have HF:=Jh1 hP6;clear hP5 hY5 hb5 hP6 hY6 ho1;go_wp2_with (first | (at_builtin;refine Qae rfl _ _ 77 77 rfl _ _ rfl rfl _ _ hr1 ?_;clear hr1) | go_in)
        go_roundw
        case rel=>
         have hs:Qbm x (S.take (k+1))=((o ++ [x]),true):=by rw [HST.out];simp [Qav,HL.out,HE.out,HT.out]
         exact ⟨k+1,(some ⟨g1,0,none⟩),d1,(o ++ [x]),true,by omega,by go_num,rfl,by simp,HF.out,hs⟩
        case measure=>simp [intOf];omega
       ·have hab:(y.2 != x.2)=true:=by simpa using hat
        have hq:=λ W=>neqA y.2 x.2 W
        rw [hab] at hq;have HT:=Jh1 hab;clear hab;clear hat;go_wp2_with fail
        refine C.mono ?_
        rintro e w5 ⟨rfl,hb5⟩;have hP5:=HP.out.below hb5;have hY5:=HY.out.below hb5 HY.out.lt;obtain ⟨x0,x1,x2,x3⟩:=hP5.bx.four;obtain ⟨y0,y1,y2,y3⟩:=hY5.four;obtain ⟨g1,d1,W1,hr1,hP6,ho1⟩:=hP5.app x (by omega);have hY6:=ho1.blk hY5 (λ e=>by have:=(HQ.out.row.lt _ e.2).2;omega);obtain ⟨z0,z1,z2,z3⟩:=hP6.bx.four;obtain ⟨v0,v1,v2,v3⟩:=hY6.four;obtain ⟨g2,d2,W2,hr2,hP7,ho2⟩:=hP6.app y (by simp;omega);simp only [List.length_append,List.length_cons,List.length_nil,Nat.zero_add] at hr2
        have HF:=Jh1 hP7;clear hP5 hY5 hb5 hP6 hY6 ho1 hP7 ho2;go_wp2_with (first | (at_builtin;refine Qae rfl _ _ 77 77 rfl _ _ rfl rfl _ _ hr1 ?_;clear hr1) | (at_builtin;refine Qae rfl _ _ 77 77 rfl _ _ rfl rfl _ _ hr2 ?_;clear hr2) | go_in)
        go_roundw
        case rel=>
         have hs:Qbm x (S.take (k+1))=((o ++ [x] ++ [y]),true):=by rw [HST.out];simp [Qav,HL.out,HE.out,HT.out]
         exact ⟨k+1,(some ⟨g2,0,none⟩),d2,(o ++ [x] ++ [y]),true,by omega,by go_num,rfl,by simp,HF.out,hs⟩
        case measure=>simp [intOf];omega
   | true=>
    by_cases hsm:y.1=x.1
    ·have e1:(y.1.1 == x.1.1)=true:=by rw [hsm];simp
     have e2:(y.1.2 == x.1.2)=true:=by rw [hsm];simp
     have hl:ltP x.1 y.1=false:=by rw [hsm];exact Qfj _
     rw [hl] at C;have HL:=Jh1 hl;have HE:Hid ((y.1 == x.1)=true):=by show (y.1 == x.1)=true;simp [hsm]
     have HT:=Jh1 trivial;clear hsm hl;go_wp2_with fail
     refine C.mono ?_
     rintro e w5 ⟨rfl,hb5⟩;have hP5:=HP.out.below hb5;have hY5:=HY.out.below hb5 HY.out.lt;obtain ⟨x0,x1,x2,x3⟩:=hP5.bx.four;obtain ⟨y0,y1,y2,y3⟩:=hY5.four;have HF:=Jh1 hP5;clear hP5 hY5 hb5;go_wp2
     go_roundw
     case rel=>
      have hs:Qbm x (S.take (k+1))=(o,true):=by rw [HST.out];simp [Qav,HL.out,HE.out]
      exact ⟨k+1,b,dd,o,true,by omega,by go_num,rfl,by simp,HF.out,hs⟩
     case measure=>simp [intOf];omega
    ·have hne:=Qx4.1 hsm
     have HE:Hid ((y.1 == x.1)=false):=by show (y.1 == x.1)=false;simpa using hsm
     by_cases ht:y.1.1=x.1.1
     ·have e1:(y.1.1 == x.1.1)=true:=by rw [ht];simp
      have e2:(y.1.2 == x.1.2)=false:=by simp only [beq_eq_false_iff_ne];omega
      clear ht hsm hne;cases hl:ltP x.1 y.1 with
      | false=>
       rw [hl] at C;have HL:=Jh1 hl;clear hl;by_cases hat:y.2=x.2
       ·have hab:(y.2 != x.2)=false:=by simp [hat]
        have hq:=λ W=>neqA y.2 x.2 W
        rw [hab] at hq;have HT:=Jh1 hab;clear hab;clear hat;go_wp2_with fail
        refine C.mono ?_
        rintro e w5 ⟨rfl,hb5⟩;have hP5:=HP.out.below hb5;have hY5:=HY.out.below hb5 HY.out.lt;obtain ⟨x0,x1,x2,x3⟩:=hP5.bx.four;obtain ⟨y0,y1,y2,y3⟩:=hY5.four;have HF:=Jh1 hP5;clear hP5 hY5 hb5;go_wp2
        go_roundw
        case rel=>
         have hs:Qbm x (S.take (k+1))=(o,true):=by rw [HST.out];simp [Qav,HE.out,HT.out]
         exact ⟨k+1,b,dd,o,true,by omega,by go_num,rfl,by simp,HF.out,hs⟩
        case measure=>simp [intOf];omega
       ·have hab:(y.2 != x.2)=true:=by simpa using hat
        have hq:=λ W=>neqA y.2 x.2 W
        rw [hab] at hq;have HT:=Jh1 hab;clear hab;clear hat;go_wp2_with fail
        refine C.mono ?_
        rintro e w5 ⟨rfl,hb5⟩;have hP5:=HP.out.below hb5;have hY5:=HY.out.below hb5 HY.out.lt;obtain ⟨x0,x1,x2,x3⟩:=hP5.bx.four;obtain ⟨y0,y1,y2,y3⟩:=hY5.four;obtain ⟨g2,d2,W2,hr2,hP7,ho2⟩:=hP5.app y (by omega);have HF:=Jh1 hP7;clear hP5 hY5 hb5 hP7 ho2;go_wp2_with (first | (at_builtin;refine Qae rfl _ _ 77 77 rfl _ _ rfl rfl _ _ hr2 ?_;clear hr2) | go_in)
        go_roundw
        case rel=>
         have hs:Qbm x (S.take (k+1))=((o ++ [y]),true):=by rw [HST.out];simp [Qav,HE.out,HT.out]
         exact ⟨k+1,(some ⟨g2,0,none⟩),d2,(o ++ [y]),true,by omega,by go_num,rfl,by simp,HF.out,hs⟩
        case measure=>simp [intOf];omega
      | true=>
       rw [hl] at C;have HL:=Jh1 hl;clear hl;by_cases hat:y.2=x.2
       ·have hab:(y.2 != x.2)=false:=by simp [hat]
        have hq:=λ W=>neqA y.2 x.2 W
        rw [hab] at hq;have HT:=Jh1 hab;clear hab;clear hat;go_wp2_with fail
        refine C.mono ?_
        rintro e w5 ⟨rfl,hb5⟩;have hP5:=HP.out.below hb5;have hY5:=HY.out.below hb5 HY.out.lt;obtain ⟨x0,x1,x2,x3⟩:=hP5.bx.four;obtain ⟨y0,y1,y2,y3⟩:=hY5.four;have HF:=Jh1 hP5;clear hP5 hY5 hb5;go_wp2
        go_roundw
        case rel=>
         have hs:Qbm x (S.take (k+1))=(o,true):=by rw [HST.out];simp [Qav,HE.out,HT.out]
         exact ⟨k+1,b,dd,o,true,by omega,by go_num,rfl,by simp,HF.out,hs⟩
        case measure=>simp [intOf];omega
       ·have hab:(y.2 != x.2)=true:=by simpa using hat
        have hq:=λ W=>neqA y.2 x.2 W
        rw [hab] at hq;have HT:=Jh1 hab;clear hab;clear hat;go_wp2_with fail
        refine C.mono ?_
        rintro e w5 ⟨rfl,hb5⟩;have hP5:=HP.out.below hb5;have hY5:=HY.out.below hb5 HY.out.lt;obtain ⟨x0,x1,x2,x3⟩:=hP5.bx.four;obtain ⟨y0,y1,y2,y3⟩:=hY5.four;obtain ⟨g2,d2,W2,hr2,hP7,ho2⟩:=hP5.app y (by omega);have HF:=Jh1 hP7;clear hP5 hY5 hb5 hP7 ho2;go_wp2_with (first | (at_builtin;refine Qae rfl _ _ 77 77 rfl _ _ rfl rfl _ _ hr2 ?_;clear hr2) | go_in)
        go_roundw
        case rel=>
         have hs:Qbm x (S.take (k+1))=((o ++ [y]),true):=by rw [HST.out];simp [Qav,HE.out,HT.out]
         exact ⟨k+1,(some ⟨g2,0,none⟩),d2,(o ++ [y]),true,by omega,by go_num,rfl,by simp,HF.out,hs⟩
        case measure=>simp [intOf];omega
     ·have e1:(y.1.1 == x.1.1)=false:=by simpa using ht
      clear ht hsm hne;cases hl:ltP x.1 y.1 with
      | false=>
       rw [hl] at C;have HL:=Jh1 hl;clear hl;by_cases hat:y.2=x.2
       ·have hab:(y.2 != x.2)=false:=by simp [hat]
        have hq:=λ W=>neqA y.2 x.2 W
        rw [hab] at hq;have HT:=Jh1 hab;clear hab;clear hat;go_wp2_with fail
        refine C.mono ?_
        rintro e w5 ⟨rfl,hb5⟩;have hP5:=HP.out.below hb5;have hY5:=HY.out.below hb5 HY.out.lt;obtain ⟨x0,x1,x2,x3⟩:=hP5.bx.four;obtain ⟨y0,y1,y2,y3⟩:=hY5.four;have HF:=Jh1 hP5;clear hP5 hY5 hb5;go_wp2
        go_roundw
        case rel=>
         have hs:Qbm x (S.take (k+1))=(o,true):=by rw [HST.out];simp [Qav,HE.out,HT.out]
         exact ⟨k+1,b,dd,o,true,by omega,by go_num,rfl,by simp,HF.out,hs⟩
        case measure=>simp [intOf];omega
       ·have hab:(y.2 != x.2)=true:=by simpa using hat
        have hq:=λ W=>neqA y.2 x.2 W
        rw [hab] at hq;have HT:=Jh1 hab;clear hab;clear hat;go_wp2_with fail
        refine C.mono ?_
        rintro e w5 ⟨rfl,hb5⟩;have hP5:=HP.out.below hb5;have hY5:=HY.out.below hb5 HY.out.lt;obtain ⟨x0,x1,x2,x3⟩:=hP5.bx.four;obtain ⟨y0,y1,y2,y3⟩:=hY5.four;obtain ⟨g2,d2,W2,hr2,hP7,ho2⟩:=hP5.app y (by omega);have HF:=Jh1 hP7;clear hP5 hY5 hb5 hP7 ho2;go_wp2_with (first | (at_builtin;refine Qae rfl _ _ 77 77 rfl _ _ rfl rfl _ _ hr2 ?_;clear hr2) | go_in)
        go_roundw
        case rel=>
         have hs:Qbm x (S.take (k+1))=((o ++ [y]),true):=by rw [HST.out];simp [Qav,HE.out,HT.out]
         exact ⟨k+1,(some ⟨g2,0,none⟩),d2,(o ++ [y]),true,by omega,by go_num,rfl,by simp,HF.out,hs⟩
        case measure=>simp [intOf];omega
      | true=>
       rw [hl] at C;have HL:=Jh1 hl;clear hl;by_cases hat:y.2=x.2
       ·have hab:(y.2 != x.2)=false:=by simp [hat]
        have hq:=λ W=>neqA y.2 x.2 W
        rw [hab] at hq;have HT:=Jh1 hab;clear hab;clear hat;go_wp2_with fail
        refine C.mono ?_
        rintro e w5 ⟨rfl,hb5⟩;have hP5:=HP.out.below hb5;have hY5:=HY.out.below hb5 HY.out.lt;obtain ⟨x0,x1,x2,x3⟩:=hP5.bx.four;obtain ⟨y0,y1,y2,y3⟩:=hY5.four;have HF:=Jh1 hP5;clear hP5 hY5 hb5;go_wp2
        go_roundw
        case rel=>
         have hs:Qbm x (S.take (k+1))=(o,true):=by rw [HST.out];simp [Qav,HE.out,HT.out]
         exact ⟨k+1,b,dd,o,true,by omega,by go_num,rfl,by simp,HF.out,hs⟩
        case measure=>simp [intOf];omega
       ·have hab:(y.2 != x.2)=true:=by simpa using hat
        have hq:=λ W=>neqA y.2 x.2 W
        rw [hab] at hq;have HT:=Jh1 hab;clear hab;clear hat;go_wp2_with fail
        refine C.mono ?_
        rintro e w5 ⟨rfl,hb5⟩;have hP5:=HP.out.below hb5;have hY5:=HY.out.below hb5 HY.out.lt;obtain ⟨x0,x1,x2,x3⟩:=hP5.bx.four;obtain ⟨y0,y1,y2,y3⟩:=hY5.four;obtain ⟨g2,d2,W2,hr2,hP7,ho2⟩:=hP5.app y (by omega);have HF:=Jh1 hP7;clear hP5 hY5 hb5 hP7 ho2;go_wp2_with (first | (at_builtin;refine Qae rfl _ _ 77 77 rfl _ _ rfl rfl _ _ hr2 ?_;clear hr2) | go_in)
        go_roundw
        case rel=>
         have hs:Qbm x (S.take (k+1))=((o ++ [y]),true):=by rw [HST.out];simp [Qav,HE.out,HT.out]
         exact ⟨k+1,(some ⟨g2,0,none⟩),d2,(o ++ [y]),true,by omega,by go_num,rfl,by simp,HF.out,hs⟩
        case measure=>simp [intOf];omega
  ·have hge:(S.length:Int)<=k:=by omega
   have hkn:k=S.length:=by omega
   have hput:putS S x=if d then o else o ++ [x]:=by
    unfold putS;rw [hkn,List.take_length] at hod;rw [hod]
   have hgd:=HG.out.1.put HG.out.2;rw [hput] at hgd;cases d with
   | true=>
    rw [if_pos rfl] at hgd hput;have HPS:=Jh1 hput;have HF:Hid (LmN w.heap.size (wr.setCell ⟨r,0,none⟩ (.slice b o.length dd)) r o/\Out (λ k=>k=r) w (wr.setCell ⟨r,0,none⟩ (.slice b o.length dd))):=hP.done HR.out.1 hgd;have f0:=(HR.out.1.below hP.bel HR.out.1.lt).frozen 0;clear hP hod hput hgd hkn c0';go_wp2
    first | go_end0 | refine bodyPost_ret (results_none rfl _ _ _) rfl ?_
    exact ⟨rfl,by rw [HPS.out];exact HF.out⟩
   | false=>
    rw [if_neg (by simp)] at hgd hput;have HPS:=Jh1 hput;obtain ⟨x0,x1,x2,x3⟩:=hP.bx.four;obtain ⟨g2,d2,W2,hr2,hP7,ho2⟩:=hP.app x (by omega);have hbr:=HR.out.1.below hP7.bel HR.out.1.lt;have f0:=hbr.frozen 0;have q0:=hbr.cell 0;simp only [List.getElem?_cons_zero] at q0
    have hF:=hP7.done HR.out.1 hgd;rw [List.length_append] at hF;simp only [List.length_cons,List.length_nil,Nat.zero_add] at hF
    have HF:=Jh1 hF;clear hP hod hput hgd hkn c0' hP7 ho2 hF hbr;go_wp2_with (first | (at_builtin;refine Qae rfl _ _ 77 77 rfl _ _ rfl rfl _ _ hr2 ?_;clear hr2) | go_in)
    first | go_end0 | refine bodyPost_ret (results_none rfl _ _ _) rfl ?_
    exact ⟨rfl,by rw [HPS.out];exact HF.out⟩
theorem LmD.list {w:World} {r:Nat} {S:List Pl} (h:LmD w r S):∃a cc,Blk w r [.slice a S.length cc] 252/\w.ownsRow 0 137 4 (.slice a S.length cc) S.length (plC S):=by
 obtain ⟨a,m,cc,hb,hr⟩:=h.row;have hm:S.length=m:=(Qeh hr).1;subst hm;exact ⟨a,cc,hb,hr⟩
theorem Qmb (a b:Option Addr) (n c1 c2:Nat) (L:List Pl) (w:World) (h1:PlIn w a n L) (h2:PlIn w b n L) (hn:n<=100000) :
  Calls prog 172 #[.slice a n c1,.slice b n c2] w λ e w'=>e=.returned (.bool true)/\Below w.heap.size w w':=by
 have HP:=Jh2 h1 h2;have hl:=h1.1;clear h1 h2;go_enter func172,ntmps172
 go_wp2
 go_loopw [5] (λ i wr=>∃k j:Nat,k<=n/\i=.int .i64 k/\wr=w.drewN j) (λ i _=>n - (intOf i).toNat)
 case atStart=>exact ⟨0,0,by omega,rfl,rfl⟩
 case round=>
  obtain ⟨k,j,hk,rfl,rfl⟩:=hrel;by_cases hlt:k<n
  ·have hlt':(k:Int)<n:=by omega
   obtain ⟨y,hy⟩:∃y,L[k]?=some y:=⟨_,List.getElem?_eq_getElem (by omega)⟩
   obtain ⟨g,rfl,hc⟩:=HP.out.1.2.resolve_left (by omega);obtain ⟨g',rfl,hc'⟩:=(Jz2 HP).resolve_left (by omega);obtain ⟨y0,y1,y2,y3⟩:=hc k y hy;obtain ⟨z0,z1,z2,z3⟩:=hc' k y hy;have y0:∀i,(w.drewN i).cell? ⟨g,k*4,none⟩=some (.int .u32 y.1.1):=λ i=>y0
   have y1:∀i,(w.drewN i).cell? ⟨g,k*4+1,none⟩=some (.int .u64 y.1.2):=λ i=>y1
   have y2:∀i,(w.drewN i).cell? ⟨g,k*4+2,none⟩=some (.int .i64 y.2.1):=λ i=>y2
   have y3:∀i,(w.drewN i).cell? ⟨g,k*4+3,none⟩=some (.int .i64 y.2.2):=λ i=>y3
   have z0:∀i,(w.drewN i).cell? ⟨g',k*4,none⟩=some (.int .u32 y.1.1):=λ i=>z0
   have z1:∀i,(w.drewN i).cell? ⟨g',k*4+1,none⟩=some (.int .u64 y.1.2):=λ i=>z1
   have z2:∀i,(w.drewN i).cell? ⟨g',k*4+2,none⟩=some (.int .i64 y.2.1):=λ i=>z2
   have z3:∀i,(w.drewN i).cell? ⟨g',k*4+3,none⟩=some (.int .i64 y.2.2):=λ i=>z3
   have hq:=λ W=>neqP y y W
   simp only [bne_self_eq_false] at hq
   clear hc hc' hy;go_wp2_with fail
   go_quiet (fail)
   try simp only [World.drewN_drewN]
   go_wp2
   go_roundw
   case rel=>exact ⟨k+1,_,by omega,by go_num,rfl⟩
   case measure=>simp [intOf];omega
  ·have hge:(n:Int)<=k:=by omega
   go_wp2
   go_ret
   exact ⟨rfl,Go.below_drewN (Below.refl _ _) _⟩
def PlO (w:World) (a:Option Addr) (n:Nat) (L:List Pl):Prop:=
 L.length=n/\(n=0\/∃g off,a=some ⟨g,off,none⟩/\∀i x,L[i]?=some x->w.cell? ⟨g,off+i*4,none⟩=some (.int .u32 x.1.1)/\w.cell? ⟨g,off+i*4+1,none⟩=some (.int .u64 x.1.2)/\w.cell? ⟨g,off+i*4+2,none⟩=some (.int .i64 x.2.1)/\w.cell? ⟨g,off+i*4+3,none⟩=some (.int .i64 x.2.2))
theorem PlIn.o {w:World} {a:Option Addr} {n:Nat} {L:List Pl} (h:PlIn w a n L):PlO w a n L:=by
 obtain ⟨h1,h2⟩:=h;refine ⟨h1,h2.imp id ?_⟩
 rintro ⟨g,rfl,hc⟩;exact ⟨g,0,rfl,λ i x hx=>by simpa using hc i x hx⟩
theorem Qq1 {w:World} {base:Nat} {a:Option Addr} {n c:Nat} {zs:List Value} (h:w.ownsRow base 137 4 (.slice a n c) n zs):a=none->n=0/\c=0:=by
 rintro rfl;rcases h.2 with ⟨hv,hn⟩ | ⟨g,cap,cur,hv,_⟩
 ·cases hv;exact ⟨rfl,rfl⟩
 ·cases hv
theorem Qp5 {W:World} {B:Nat} {a:Option Addr} {n cc:Nat} {xs:List Pl} (h:W.ownsRow B 137 4 (.slice a n cc) n (plC xs)) {b:Option Addr} {m dd:Nat} {ys:List Pl} (hin:PlO W b m ys) (hnil:b=none->m=0/\dd=0) (hn:n+m<=100000) (hB:B<=W.heap.size) :
  ∃a' cc' W',(Builtin.append_ #[77,77] 77 #[.slice a n cc,.slice b m dd]).run prog W=.ok (.slice a' (n+m) cc') W'/\
   W'.ownsRow B 137 4 (.slice a' (n+m) cc') (n+m) (plC (xs ++ ys))/\W.grownBy W' (Value.slice a n cc).ownBlock:=by
 obtain ⟨i0,hi,hz0,hz1,hz2⟩:=info_parts Tryz.zero_place;obtain ⟨hl,hc⟩:=hin;cases b with
 | none=>
  obtain ⟨rfl,rfl⟩:=hnil rfl;have:ys=[]:=List.length_eq_zero_iff.1 hl;subst this;have hrun:=run_append_owned_none (P:=prog) (w:=W) B 77 77 137 i0 4 Tryz.underlying77 hi _ n _ h;exact ⟨a,cc,W,hrun,by simpa using h,⟨rfl,rfl,rfl,Nat.le_refl _,λ _ _ _=>rfl⟩⟩
 | some ad=>
  have hcell:∀j u,(plC ys)[j]?=some u->W.cell? (ad.add j)=some u:=by
   intro j u hj;have hjl:j<m*4:=by have:=(List.getElem?_eq_some_iff.1 hj).1;rw [Qch,hl] at this;exact this
   obtain ⟨g,off,ha,hcs⟩:=hc.resolve_left (by omega);cases ha
   have hi4:j / 4<ys.length:=by omega
   have hx:ys[j / 4]?=some ys[j / 4]:=List.getElem?_eq_getElem hi4;have hp:=Qkp ys (j / 4) _ (j % 4) hx (by omega);have e:j / 4*4+j % 4=j:=by omega
   rw [e,hj] at hp;obtain ⟨d0,d1,d2,d3⟩:=hcs _ _ hx;rw [Addr.add_mid];have h4:j % 4=0\/j % 4=1\/j % 4=2\/j % 4=3:=by omega
   rcases h4 with h4 | h4 | h4 | h4 <;> rw [h4] at hp e <;> rw [hp]
   ·rw [show off+j=off+j / 4*4 by omega];exact d0
   ·rw [show off+j=off+j / 4*4+1 by omega];exact d1
   ·rw [show off+j=off+j / 4*4+2 by omega];exact d2
   ·rw [show off+j=off+j / 4*4+3 by omega];exact d3
  obtain ⟨v',W',h1,h2,h3,h4⟩:=Qde (ty:=77) Tryz.underlying77 Tryz.zero_place rfl (by decide) (by decide) (Qbh h) ad m dd (plC ys) (by rw [Qch,hl]) hcell (λ u hu=>by
   unfold plC at hu;obtain ⟨x,_,hx⟩:=List.mem_flatMap.1 hu;exact Qoj x u hx) (by omega)
  obtain ⟨a',c',rfl⟩:=Qam h2;rw [Qsx] at h2;refine ⟨a',c',W',h1,Qdr h2 (λ g hg=>?_),h3⟩
  rcases h4 with h4 | h4
  ·exact (h.lt g (by rw [<-h4];exact hg)).1
  ·have:=h4 g hg;omega
theorem Qp0 (r:Nat) (S:List Pl) (w:World) (h:LmD w r S) (hS:S.length<=10000) :
  Calls prog 107 #[.pointer (some ⟨r,0,none⟩)] w λ e w'=>∃a cc,e=.returned (.slice a S.length cc)/\PlIn w' a S.length S/\Below w.heap.size w w':=by
 obtain ⟨a,cc,hb,hr⟩:=h.list;have c0:=hb.cell 0;simp only [List.getElem?_cons_zero] at c0
 have hnone:w.ownsRow w.heap.size 137 4 (.slice none 0 0) 0 (plC []):=⟨rfl,.inl ⟨rfl,rfl⟩⟩
 obtain ⟨a',cc',W',hrun,hO,hg⟩:=Qp5 hnone (Qeh hr).o (Qq1 hr) (by omega) (Nat.le_refl _);rw [Nat.zero_add,List.nil_append] at hO;rw [Nat.zero_add] at hrun;have HO:Hid (PlIn W' a' S.length S/\Below w.heap.size w W'):=⟨Qeh hO,(Below.refl _ _).grown hg (Nat.le_refl _) (λ k hk=>by cases hk)⟩
 clear h hb hr hnone hO hg;go_enter func107,ntmps107
 go_wp2_with (first | (at_builtin;refine Qae rfl _ _ 77 77 rfl _ _ rfl rfl _ _ hrun ?_;clear hrun) | go_in)
 go_ret
 exact ⟨a',cc',rfl,HO.out⟩
theorem Qz6 {w:World} {base:Nat} {a:Option Addr} {n c:Nat} {zs:List Value} (h:w.ownsRow base 137 4 (.slice a n c) n zs):n<=c:=by
 rcases h.2 with ⟨hv,hn⟩ | ⟨g,cap,cur,hv,_,_,h3,_⟩
 ·cases hv;omega
 ·cases hv;exact h3
structure Pt where
 t:Int
 b:Int
 x:Bool
 d:List Int
def Pt.n (p:Pt):Pr:=(p.t,p.b)
def Pt.Fits (p:Pt):Prop:=Qas p.t/\Qai p.b/\∀z∈p.d,Qaf z
def itP (p:Pt):It:=if p.x then ⟨p.t,p.b,2,0,0⟩ else ⟨p.t,p.b,1,crI 0 p.d,(Qdl p.d:Nat)⟩
structure St where
 s:Sh
 zs:List Zn
 L:List Int
 S:List Pl
 q:Int
 la:List Int
 o:Int
def Qbv (s:Sh) (zs:List Zn) (a:Int):Int:=s.zb - ((atZ zs a).1.length:Int)
def curA (L:List Int):Int:=match Qfy L 2 with | z :: _=>z | []=>Qo8 L
def curB (L:List Int):Bool:=match Qfy L 2 with | _ :: _=>true | []=>Qng L
def curL (L:List Int):List Int:=match Qfy L 2 with | _ :: _=>L | []=>Qja L
def muZ (L:List Int):Nat:=cntZ L 1+cntZ L 2
def Q0n (s:Sh) (zs:List Zn) (k:Int):Nat->List Int->Int × Bool × List Int
 | 0,L=>(curA L,curB L,curL L)
 | f+1,L=>if curB L=true/\Qbv s zs (curA L)<k then Q0n s zs k f (Qcm (curL L) (curA L) 2 3) else (curA L,curB L,curL L)
def Qa6 (s:Sh) (zs:List Zn) (k:Int) (L:List Int):Int × Bool × List Int:=Q0n s zs k (muZ L) L
def frN:List Pt->Nat->Int->Nat
 | [],_,_=>0
 | _ :: _,0,_=>0
 | p :: l,k+1,d=>if p.x=true then frN l k d+1 else if 0<d then frN l k (d - 1)+1 else 0
def oneP (s:Sh) (z:Int) (y:List Zn × List Pl) (p:Pt):List Zn × List Pl:=
 if p.x=true then (y.1,Qax y.2 p.n) else (appZ s y.1 z p.d,putS y.2 (p.n,appA s y.1 z p.d))
def incU (q:Int):Int:=(q+1) % 18446744073709551616
def recZ (st:St) (z:Int) (l:List Pt):List Zn:=appZ st.s st.zs z (encB (incU st.q) (l.map itP) st.s.b)
def wrY (st:St) (z:Int) (l:List Pt) (k:Nat):List Zn × List Pl:=(l.take k).foldl (oneP st.s z) (recZ st z l,st.S)
def Qti (s:Sh) (zs:List Zn) (L:List Int) (z:Int):List Int:=if Qbv s zs z=0 then Qcm L z 2 3 else L
def Qcu (st:St) (z:Int) (l:List Pt):St:=
 {st with zs:=(wrY st z l l.length).1,S:=(wrY st z l l.length).2,L:=Qti st.s (wrY st z l l.length).1 st.L z,q:=incU st.q,la:=st.la.set z.toNat (incU st.q)}
def Qa9 (p:Pt):Int:=if p.x=true then 1 else 2
def Qca (st:St) (a:Int) (l:List Pt):Nat:=frN l (Qbu st.s.b).toNat (Qbv st.s st.zs a - 1)
def putF:Nat->St->List Pt->Int × St
 | 0,st,_=>(0,st)
 | _+1,st,[]=>(0,st)
 | f+1,st,p :: l=>
  if (Qa6 st.s st.zs (Qa9 p) st.L).2.1=true then
   putF f (Qcu {st with L:=(Qa6 st.s st.zs (Qa9 p) st.L).2.2} (Qa6 st.s st.zs (Qa9 p) st.L).1 ((p :: l).take (Qca st (Qa6 st.s st.zs (Qa9 p) st.L).1 (p :: l)))) ((p :: l).drop (Qca st (Qa6 st.s st.zs (Qa9 p) st.L).1 (p :: l)))
  else (160,{st with L:=(Qa6 st.s st.zs (Qa9 p) st.L).2.2})
def okP (s:Sh) (l:List Pt):Prop:=∀p∈l,p.x=true\/(p.d.length:Int)=s.b
instance (s:Sh) (l:List Pt):Decidable (okP s l):=by unfold okP;infer_instance
def putM (st:St) (l:List Pt):Int × St:=if okP st.s l then putF l.length st l else (1,st)
theorem Qns (q:Int):Qai (incU q):=by unfold incU Qai;omega
theorem Q1s (f:Nat) (st:St):putF f st []=(0,st):=by cases f <;> rfl
theorem Qzp (st:St) (z:Int) (l:List Pt):wrY st z l 0=(recZ st z l,st.S):=by simp [wrY]
theorem Qqt {st:St} {z:Int} {l:List Pt} {k:Nat} {p:Pt} (h:l[k]?=some p):wrY st z l (k+1)=oneP st.s z (wrY st z l k) p:=by
 unfold wrY;rw [Qao h,List.foldl_append];rfl
theorem Qqj:∀(l:List Pt) (k:Nat) (d:Int),frN l k d<=l.length/\frN l k d<=k
 | [],k,d=>by simp [frN]
 | p :: l,0,d=>by simp [frN]
 | p :: l,k+1,d=>by
  unfold frN;split
  ·have:=Qqj l k d;simp;omega
  ·split
   ·have:=Qqj l k (d - 1);simp;omega
   ·simp
theorem Qt9 {L:List Int} (h:curB L=true):∃i:Nat,curA L=i/\i<L.length/\(curL L).getD i 0=2/\(curL L).length=L.length:=by
 unfold curB at h;unfold curA curL;cases hl:Qfy L 2 with
 | cons z r=>
  have hz:z∈Qfy L 2:=by rw [hl];simp
  obtain ⟨i,hi,h2,rfl⟩:=Qky.1 hz;exact ⟨i,rfl,hi,h2,rfl⟩
 | nil=>
  rw [hl] at h;simp only [Qng,decide_eq_true_eq] at h
  refine ⟨Qba L 1,by simp [Qo8,h],h,?_,Qe9 L⟩
  simp only [Qja,if_pos h]
  rw [Qr7 _ _ _ _ h,if_pos rfl]
theorem Qo7 (L:List Int):(curL L).length=L.length:=by
 unfold curL;split
 ·rfl
 ·exact Qe9 L
theorem Qoe {L:List Int} (h:curB L=true):muZ (Qcm (curL L) (curA L) 2 3)+1=muZ L:=by
 obtain ⟨i,hA,hi,h2,hl⟩:=Qt9 h;have hi':i<(curL L).length:=by omega
 have e:Qcm (curL L) (curA L) 2 3=(curL L).set i 3:=by
  unfold Qcm;rw [hA,Qf3,if_pos h2];simp
 have h1:=Qh8 (L:=curL L) (z:=i) (c:=2) (b:=3) 1 hi' h2;have h2':=Qh8 (L:=curL L) (z:=i) (c:=2) (b:=3) 2 hi' h2;rw [e];unfold muZ;simp at h1 h2'
 rw [h1];unfold curB at h;unfold curL at h2' ⊢;cases hc:Qfy L 2 with
 | cons z r=>rw [hc] at h2';simp only at h2' ⊢;omega
 | nil=>
  rw [hc] at h2' h;simp only at h2' h ⊢
  simp only [Qng,decide_eq_true_eq] at h
  have f1:=Qg1 h;have g1:=Qh8 (L:=L) (z:=Qba L 1) (c:=1) (b:=2) 1 h f1;have g2:=Qh8 (L:=L) (z:=Qba L 1) (c:=1) (b:=2) 2 h f1;simp at g1 g2
  simp only [Qja,if_pos h] at h2' ⊢
  omega
theorem Qkl (s:Sh) (zs:List Zn) (k:Int) (L:List Int):Qa6 s zs k L=if curB L=true/\Qbv s zs (curA L)<k then Qa6 s zs k (Qcm (curL L) (curA L) 2 3) else (curA L,curB L,curL L):=by
 unfold Qa6;cases hm:muZ L with
 | zero=>
  rw [if_neg (λ h=>by have:=Qoe h.1;omega)];rfl
 | succ f=>
  rw [show Q0n s zs k (f+1) L=if curB L=true/\Qbv s zs (curA L)<k then Q0n s zs k f (Qcm (curL L) (curA L) 2 3) else (curA L,curB L,curL L) from rfl];by_cases h:curB L=true/\Qbv s zs (curA L)<k
  ·have:=Qoe h.1
   rw [if_pos h,if_pos h,show muZ (Qcm (curL L) (curA L) 2 3)=f by omega]
  ·rw [if_neg h,if_neg h]
theorem Qkm {s:Sh} {zs:List Zn} {k:Int} {L:List Int} (h:curB L=true) (hr:Qbv s zs (curA L)<k):Qa6 s zs k (Qcm (curL L) (curA L) 2 3)=Qa6 s zs k L:=by
 rw [Qkl s zs k L,if_pos ⟨h,hr⟩]
theorem Qdc {s:Sh} {zs:List Zn} {k:Int} {L:List Int} (h:¬(curB L=true/\Qbv s zs (curA L)<k)):Qa6 s zs k L=(curA L,curB L,curL L):=by
 rw [Qkl s zs k L,if_neg h]
theorem Qqq (s:Sh) (zs:List Zn) (k:Int):∀(m:Nat) (L:List Int),muZ L=m->(Qa6 s zs k L).2.1=true->∃i:Nat,(Qa6 s zs k L).1=i/\i<L.length/\(Qa6 s zs k L).2.2.getD i 0=2/\k<=Qbv s zs i:=by
 intro m;induction m with
 | zero=>
  intro L hm h;have hn:¬(curB L=true/\Qbv s zs (curA L)<k):=λ h=>by have:=Qoe h.1;omega
  rw [Qdc hn] at h ⊢;obtain ⟨i,h1,h2,h3,h4⟩:=Qt9 h;refine ⟨i,h1,h2,h3,?_⟩
  rcases Int.lt_or_le (Qbv s zs i) k with h' | h'
  ·exact (hn ⟨h,by rw [h1];exact h'⟩).elim
  ·exact h'
 | succ m ih=>
  intro L hm h;by_cases hn:curB L=true/\Qbv s zs (curA L)<k
  ·have hc:=Qoe hn.1
   rw [<-Qkm hn.1 hn.2] at h ⊢;obtain ⟨i,h1,h2,h3⟩:=ih _ (by omega) h;exact ⟨i,h1,by rw [Qbz,Qo7] at h2;exact h2,h3⟩
  ·rw [Qdc hn] at h ⊢
   obtain ⟨i,h1,h2,h3,h4⟩:=Qt9 h;refine ⟨i,h1,h2,h3,?_⟩
   rcases Int.lt_or_le (Qbv s zs i) k with h' | h'
   ·exact (hn ⟨h,by rw [h1];exact h'⟩).elim
   ·exact h'
theorem Qws {st:St} {a:Int} {p:Pt} {l:List Pt} (hr:Qat st.s) (h:Qa9 p<=Qbv st.s st.zs a):0<Qca st a (p :: l):=by
 have hb:st.s.b∈PowR:=hr.2.2.2.2.1;have hR:2<=Qbu st.s.b:=by
  unfold Qbu;rw [if_pos hb];have:=Qar hb;omega
 unfold Qca Qa9 at *;obtain ⟨k,hk⟩:∃k,(Qbu st.s.b).toNat=k+1:=⟨(Qbu st.s.b).toNat - 1,by omega⟩
 rw [hk];unfold frN;by_cases hx:p.x=true
 ·rw [if_pos hx];omega
 ·rw [if_neg hx] at h ⊢
  rw [if_pos (by omega)];omega
section
structure Bs where
 ps:Nat
 pd:Nat
 pg:Nat
 gg:Nat
 pm:Nat
 b1:Nat
 b2:Nat
 lb:Nat
def Bs.has (k:Bs) (x:Nat):Prop:=x=k.ps\/x=k.pg\/x=k.gg\/x=k.pm\/x=k.b1\/x=k.b2\/x=k.lb
def stL (k:Bs) (q:Int) (n:Nat) (o:Int):List Value:=[.pointer (some ⟨k.pd,0,none⟩),.pointer (some ⟨k.pg,0,none⟩),.pointer (some ⟨k.pm,0,none⟩),.int .u64 q,.slice (some ⟨k.lb,0,none⟩) n n,.int .i64 o]
structure StV (D:Nat->Prop) (W:World) (k:Bs) (st:St) (c:Nat):Prop where
 hp:Blk W k.ps (stL k st.q st.la.length st.o) 119
 dv:Dv 98 D W k.pd st.s st.zs
 sg:SegP W k.pg k.gg st.s.r st.L
 mp:LmP W k.pm k.b1 k.b2 st.S c
 hl:Blk W k.lb (Qaj .u64 st.la) 45
 wf:Wf st.s st.zs
 fq:Qai st.q
 len:st.L.length=st.zs.length/\st.la.length=st.zs.length
 lt:∀x,D x->x<W.heap.size
 nd:∀x,k.has x->¬D x
 ap:[k.ps,k.pg,k.gg,k.pm,k.b1,k.b2,k.lb].Nodup
def StO (D:Nat->Prop) (k:Bs):Nat->Prop:=λ x=>D x\/k.has x
def Sv (D0:Nat->Prop) (V:World) (k:Bs) (st:St) (c:Nat) (W:World):Prop:=∃D,StV D W k st c/\(∀x,D x->D0 x\/V.heap.size<=x)/\Out (StO D0 k) V W
section
variable {D D0:Nat->Prop} {V W W':World} {k:Bs} {st st':St} {c c':Nat}
theorem StV.kin (h:StV D W k st c):∀x,k.has x->x<W.heap.size:=by
 rintro x (rfl | rfl | rfl | rfl | rfl | rfl | rfl)
 ·exact h.hp.lt
 ·exact h.sg.lt.1
 ·exact h.sg.lt.2
 ·exact h.mp.hp.lt
 ·exact h.mp.m1.lt
 ·exact h.mp.m2.lt
 ·exact h.hl.lt
theorem StV.out {O:Nat->Prop} (h:StV D W k st c) (ho:Out O W W') (hO:∀x,StO D k x->¬O x):StV D W' k st c:=by
 refine ⟨ho.blk h.hp (hO _ (.inr (.inl rfl))),?_,h.sg.out ho (hO _ (.inr (.inr (.inl rfl)))) (hO _ (.inr (.inr (.inr (.inl rfl))))),h.mp.out ho ?_,ho.blk h.hl (hO _ (.inr (.inr (.inr (.inr (.inr (.inr (.inr rfl)))))))),h.wf,h.fq,h.len,λ x hx=>Nat.lt_of_lt_of_le (h.lt x hx) ho.size,h.nd,h.ap⟩
 ·obtain ⟨g,cc,vs,hv⟩:=h.dv
  exact ⟨g,cc,vs,hv.out ho (λ x hx=>hO x (.inl hx))⟩
 ·rintro x (rfl | rfl | rfl)
  ·exact hO _ (.inr (.inr (.inr (.inr (.inl rfl)))))
  ·exact hO _ (.inr (.inr (.inr (.inr (.inr (.inl rfl))))))
  ·exact hO _ (.inr (.inr (.inr (.inr (.inr (.inr (.inl rfl)))))))
theorem StV.under (h:StV D W k st c) (hb:Below W.heap.size W W'):StV D W' k st c:=h.out (Qab Non hb) (λ _ _ e=>e)
theorem Sv.start (h:StV D W k st c):Sv D W k st c W:=⟨D,h,λ _ h=>.inl h,Out.refl _ _⟩
theorem Sv.under (h:Sv D0 V k st c W) (hb:Below W.heap.size W W'):Sv D0 V k st c W':=by
 obtain ⟨D,h1,h2,h3⟩:=h;exact ⟨D,h1.under hb,h2,h3.under hb⟩
theorem Sv.next (hD:∀x,D x->D0 x\/V.heap.size<=x) (ho:Out (StO D0 k) V W) (h:Sv D W k st' c' W'):Sv D0 V k st' c' W':=by
 obtain ⟨D',h1,h2,h3⟩:=h;refine ⟨D',h1,λ x hx=>?_,ho.trans h3 (λ j hj=>?_)⟩
 ·rcases h2 x hx with h | h
  ·exact hD x h
  ·have:=ho.size;exact .inr (by omega)
 ·rcases hj with hj | hj
  ·rcases hD j hj with h | h
   ·exact .inl (.inl h)
   ·exact .inr h
  ·exact .inl (.inr hj)
theorem Sv.from {W1:World} (hb:Below V.heap.size V W1) (h:Sv D0 W1 k st c W):Sv D0 V k st c W:=by
 obtain ⟨D,h1,h2,h3⟩:=h;refine ⟨D,h1,λ x hx=>?_,(Qab _ hb).trans h3 (λ j e=>.inl e)⟩
 rcases h2 x hx with h | h
 ·exact .inl h
 ·have:=hb.size;exact .inr (by omega)
theorem Qm9 {a b c d e f g:Nat} (h:[a,b,c,d,e,f,g].Nodup):(a≠b/\a≠c/\a≠d/\a≠e/\a≠f/\a≠g)/\(b≠c/\b≠d/\b≠e/\b≠f/\b≠g)/\(c≠d/\c≠e/\c≠f/\c≠g)/\(d≠e/\d≠f/\d≠g)/\(e≠f/\e≠g)/\f≠g:=by
 simpa [List.nodup_cons,not_or,and_assoc] using h
theorem StV.dvstep {zs':List Zn} (h:StV D W k st c) (hs:Step 98 D W k.pd st.s zs' W') (hw:Wf st.s zs'):Sv D W k {st with zs:=zs'} c W':=by
 obtain ⟨hd,ho⟩:=hs;have hlen:zs'.length=st.zs.length:=by have:=hw.len;have:=h.wf.len;omega
 have hn:∀x,k.has x->¬D x:=h.nd;refine ⟨Ext D W W',⟨ho.blk h.hp (hn _ (.inl rfl)),hd,h.sg.out ho (hn _ (.inr (.inl rfl))) (hn _ (.inr (.inr (.inl rfl)))),h.mp.out ho ?_,ho.blk h.hl (hn _ (.inr (.inr (.inr (.inr (.inr (.inr rfl))))))),hw,h.fq,by rw [hlen];exact h.len,?_,?_,h.ap⟩,?_,ho.mono (λ j e _=>.inl e)⟩
 ·rintro x (rfl | rfl | rfl)
  ·exact hn _ (.inr (.inr (.inr (.inl rfl))))
  ·exact hn _ (.inr (.inr (.inr (.inr (.inl rfl)))))
  ·exact hn _ (.inr (.inr (.inr (.inr (.inr (.inl rfl))))))
 ·rintro x (hx | hx)
  ·exact Nat.lt_of_lt_of_le (h.lt x hx) ho.size
  ·exact hx.2
 ·rintro x hx (hd | hd)
  ·exact hn x hx hd
  ·have:=h.kin x hx;omega
 ·rintro x (hx | hx)
  ·exact .inl hx
  ·exact .inr hx.1
theorem StV.sgstep {L':List Int} (h:StV D W k st c) (hs:SegP W' k.pg k.gg st.s.r L') (ho:Out (λ j=>j=k.gg) W W') (hl:L'.length=st.L.length):Sv D W k {st with L:=L'} c W':=by
 obtain ⟨a1,a2,a3,a4,a5,a6⟩:=Qm9 h.ap;have hg:=h.nd k.gg (.inr (.inr (.inl rfl)));refine ⟨D,⟨ho.blk h.hp (by omega),?_,hs,h.mp.out ho ?_,ho.blk h.hl (by omega),h.wf,h.fq,by rw [hl];exact h.len,λ x hx=>Nat.lt_of_lt_of_le (h.lt x hx) ho.size,h.nd,h.ap⟩,λ x hx=>.inl hx,ho.mono (λ j e _=>.inr (.inr (.inr (.inl e))))⟩
 ·obtain ⟨g,cc,vs,hv⟩:=h.dv
  exact ⟨g,cc,vs,hv.out ho (λ x hx e=>by subst e;exact hg hx)⟩
 ·rintro x (rfl | rfl | rfl) <;> omega
theorem StV.mpstep {S':List Pl} (h:StV D W k st c) (hs:LmP W' k.pm k.b1 k.b2 S' c') (ho:Out (Two k.b1 k.b2) W W'):Sv D W k {st with S:=S'} c' W':=by
 obtain ⟨a1,a2,a3,a4,a5,a6⟩:=Qm9 h.ap;have h1:=h.nd k.b1 (.inr (.inr (.inr (.inr (.inl rfl)))));have h2:=h.nd k.b2 (.inr (.inr (.inr (.inr (.inr (.inl rfl))))));refine ⟨D,⟨ho.blk h.hp (by unfold Two;omega),?_,h.sg.out ho (by unfold Two;omega) (by unfold Two;omega),hs,ho.blk h.hl (by unfold Two;omega),h.wf,h.fq,h.len,λ x hx=>Nat.lt_of_lt_of_le (h.lt x hx) ho.size,h.nd,h.ap⟩,λ x hx=>.inl hx,ho.mono (λ j e _=>by rcases e with e | e;exact .inr (.inr (.inr (.inr (.inr (.inl e)))));exact .inr (.inr (.inr (.inr (.inr (.inr (.inl e)))))))⟩
 obtain ⟨g,cc,vs,hv⟩:=h.dv;exact ⟨g,cc,vs,hv.out ho (λ x hx e=>by rcases e with e | e <;> subst e;exact h1 hx;exact h2 hx)⟩
theorem StV.setP (h:StV D W k st c) {q o:Int} {i:Nat} {v:Value} (hL:(stL k st.q st.la.length st.o).set i v=stL k q st.la.length o) (hq:Qai q):Sv D W k {st with q:=q,o:=o} c (W.setCell ⟨k.ps,i,none⟩ v):=by
 obtain ⟨a1,a2,a3,a4,a5,a6⟩:=Qm9 h.ap;have n1:¬k.pg=k.ps:=λ e=>a1.1 e.symm
 have n2:¬k.gg=k.ps:=λ e=>a1.2.1 e.symm
 have n3:¬k.lb=k.ps:=λ e=>a1.2.2.2.2.2 e.symm
 have n4:∀x,x=k.pm\/x=k.b1\/x=k.b2->¬x=k.ps:=by
  rintro x (rfl | rfl | rfl) e
  ·exact a1.2.2.1 e.symm
  ·exact a1.2.2.2.1 e.symm
  ·exact a1.2.2.2.2.1 e.symm
 have hg:=h.nd k.ps (.inl rfl);have ho:=Qdg W k.ps i v;have hp:=h.hp.set i v;rw [hL] at hp;clear hL a1 a2 a3 a4 a5 a6;generalize W.setCell ⟨k.ps,i,none⟩ v=W' at ho hp ⊢;have dv:Dv 98 D W' k.pd st.s st.zs:=by
  obtain ⟨g,cc,vs,hv⟩:=h.dv;exact ⟨g,cc,vs,hv.out ho (λ x hx e=>by subst e;exact hg hx)⟩
 have hlt:∀x,D x->x<W'.heap.size:=λ x hx=>Nat.lt_of_lt_of_le (h.lt x hx) ho.size
 exact ⟨D,⟨hp,dv,h.sg.out ho n1 n2,h.mp.out ho n4,ho.blk h.hl n3,h.wf,hq,h.len,hlt,h.nd,h.ap⟩,λ x hx=>.inl hx,ho.mono (λ j e _=>.inr (.inl e))⟩
theorem Qnj (kk:IntKind) (L:List Int) (i:Nat) (b:Int):(Qaj kk L).set i (.int kk b)=Qaj kk (L.set i b):=by simp [Qaj,List.map_set]
theorem StV.setLa (h:StV D W k st c) (i:Nat) (b:Int):Sv D W k {st with la:=st.la.set i b} c (W.setCell ⟨k.lb,i,none⟩ (.int .u64 b)):=by
 obtain ⟨a1,a2,a3,a4,a5,a6⟩:=Qm9 h.ap;have hg:=h.nd k.lb (.inr (.inr (.inr (.inr (.inr (.inr rfl))))));have ho:Out (λ j=>j=k.lb) W (W.setCell ⟨k.lb,i,none⟩ (.int .u64 b)):=Qdg W k.lb i _;have hp:=h.hl.set i (.int .u64 b);rw [Qnj] at hp;generalize W.setCell ⟨k.lb,i,none⟩ (.int .u64 b)=W' at ho hp ⊢;refine ⟨D,⟨?_,?_,h.sg.out ho (by omega) (by omega),h.mp.out ho ?_,hp,h.wf,h.fq,⟨h.len.1,by simpa using h.len.2⟩,λ x hx=>Nat.lt_of_lt_of_le (h.lt x hx) ho.size,h.nd,h.ap⟩,λ x hx=>.inl hx,ho.mono (λ j e _=>.inr (.inr (.inr (.inr (.inr (.inr (.inr e)))))))⟩
 ·have:=ho.blk h.hp (by omega)
  simpa using this
 ·obtain ⟨g,cc,vs,hv⟩:=h.dv
  exact ⟨g,cc,vs,hv.out ho (λ x hx e=>by subst e;exact hg hx)⟩
 ·rintro x (rfl | rfl | rfl) <;> omega
theorem StV.mono (h:StV D W k st c) (hc:c<=c'):StV D W k st c':=⟨h.hp,h.dv,h.sg,h.mp.mono hc,h.hl,h.wf,h.fq,h.len,h.lt,h.nd,h.ap⟩
theorem Sv.mono (h:Sv D0 V k st c W) (hc:c<=c'):Sv D0 V k st c' W:=by
 obtain ⟨D,h1,h2⟩:=h;exact ⟨D,h1.mono hc,h2⟩
theorem StV.cells (h:StV D W k st c):W.cell? ⟨k.ps,0,none⟩=some (.pointer (some ⟨k.pd,0,none⟩))/\W.cell? ⟨k.ps,1,none⟩=some (.pointer (some ⟨k.pg,0,none⟩))/\W.cell? ⟨k.ps,2,none⟩=some (.pointer (some ⟨k.pm,0,none⟩))/\W.cell? ⟨k.ps,3,none⟩=some (.int .u64 st.q)/\W.cell? ⟨k.ps,4,none⟩=some (.slice (some ⟨k.lb,0,none⟩) st.la.length st.la.length)/\W.cell? ⟨k.ps,5,none⟩=some (.int .i64 st.o):=
 ⟨h.hp.cell 0,h.hp.cell 1,h.hp.cell 2,h.hp.cell 3,h.hp.cell 4,h.hp.cell 5⟩
end
theorem BIn.out {O:Nat->Prop} {w w':World} {a:Option Addr} {n:Nat} {zs:List Int} (h:BIn w a n zs) (ho:Out O w w') (hO:n≠0->∀b,a.map (·.block)=some b->¬O b):BIn w' a n zs:=by
 obtain ⟨h1,h2,h3,h4⟩:=h;refine ⟨h1,h2,h3,?_⟩
 by_cases hn:n=0
 ·exact .inl hn
 ·obtain ⟨b,off,ha,hc⟩:=h4.resolve_left hn
  exact .inr ⟨b,off,ha,λ i hi=>ho.cell (hc i hi) (hO hn b (by rw [ha];rfl))⟩
def ptL (p:Pt) (v:Value):List Value:=[.int .u32 p.t,.int .u64 p.b,.bool p.x,v]
def PtAt (X:Nat->Prop) (w:World) (b o:Nat) (p:Pt):Prop:=
 ∃A L C,(∀(j:Nat) (v:Value),(ptL p (.slice A L C))[j]?=some v->w.cell? ⟨b,o+j,none⟩=some v)/\BIn w A L p.d/\(A=none->L=0/\C=0)/\L<=10000/\(L≠0->∀y,A.map (·.block)=some y->X y)/\p.Fits
def PtsIn (X:Nat->Prop) (w:World) (a:Option Addr) (n:Nat) (l:List Pt):Prop:=
 l.length=n/\n<=1000/\(n=0\/∃b off,a=some ⟨b,off,none⟩/\X b/\∀(i:Nat) (p:Pt),l[i]?=some p->PtAt X w b (off+i*4) p)
section
variable {X O:Nat->Prop} {w w':World} {a:Option Addr} {n:Nat} {l:List Pt}
theorem PtAt.out {b o:Nat} {p:Pt} (h:PtAt X w b o p) (ho:Out O w w') (hb:¬O b) (hO:∀x,X x->¬O x):PtAt X w' b o p:=by
 obtain ⟨A,L,C,h1,h2,h3,h4,h5,h6⟩:=h;exact ⟨A,L,C,λ j v hv=>ho.cell (h1 j v hv) hb,h2.out ho (λ hn y hy=>hO y (h5 hn y hy)),h3,h4,h5,h6⟩
theorem PtsIn.out (h:PtsIn X w a n l) (ho:Out O w w') (hO:∀x,X x->¬O x):PtsIn X w' a n l:=by
 obtain ⟨h1,h2,h3⟩:=h;refine ⟨h1,h2,?_⟩
 rcases h3 with h3 | ⟨b,off,ha,hb,hc⟩
 ·exact .inl h3
 ·exact .inr ⟨b,off,ha,hb,λ i p hp=>(hc i p hp).out ho (hO b hb) hO⟩
theorem PtsIn.below (h:PtsIn X w a n l) (hb:Below w.heap.size w w'):PtsIn X w' a n l:=h.out (Qab Non hb) (λ _ _ e=>e)
theorem PtsIn.fits (h:PtsIn X w a n l):∀p∈l,p.Fits:=by
 intro p hp;obtain ⟨i,hi⟩:=List.getElem?_of_mem hp;rcases h.2.2 with h0 | ⟨b,off,_,_,hc⟩
 ·have:=(List.getElem?_eq_some_iff.1 hi).1;have:=h.1;omega
 ·obtain ⟨_,_,_,_,_,_,_,_,h6⟩:=hc i p hi
  exact h6
theorem PtsIn.part {b off:Nat} (h:PtsIn X w (some ⟨b,off,none⟩) n l) (i m:Nat) (hik:i+m<=n):PtsIn X w (some ⟨b,off+i*4,none⟩) m ((l.drop i).take m):=by
 obtain ⟨h1,h2,h4⟩:=h;refine ⟨by rw [List.length_take,List.length_drop];omega,by omega,?_⟩
 by_cases h0:m=0
 ·exact .inl h0
 ·obtain ⟨b',off',e,hb,hc⟩:=h4.resolve_left (by omega)
  cases e
  refine .inr ⟨_,_,rfl,hb,λ k x hx=>?_⟩
  have hk:k<m:=by have:=(List.getElem?_eq_some_iff.1 hx).1;rw [List.length_take] at this;omega
  rw [List.getElem?_take_of_lt hk,List.getElem?_drop] at hx;have:=hc (i+k) x hx;rw [show off+(i+k)*4=off+i*4+k*4 by omega] at this;exact this
theorem PtsIn.front (h:PtsIn X w a n l) (m:Nat) (hm:m<=n):PtsIn X w a m (l.take m):=by
 by_cases h0:m=0
 ·subst h0
  exact ⟨by simp,Nat.zero_le _,.inl rfl⟩
 ·obtain ⟨b,off,rfl,_⟩:=h.2.2.resolve_left (by omega)
  simpa using h.part 0 m (by omega)
theorem PtsIn.back {c:Nat} (h:PtsIn X w a n l) (i:Nat) (hi:i<=n) (hc:n<=c):PtsIn X w (Qfo a c i) (n - i) (l.drop i):=by
 by_cases h0:n - i=0
 ·exact ⟨by rw [List.length_drop,h.1],by have:=h.2.1;omega,.inl h0⟩
 ·obtain ⟨b,off,rfl,_⟩:=h.2.2.resolve_left (by omega)
  unfold Qfo;rw [if_neg (by omega)];have:=h.part i (n - i) (by omega);rw [List.take_of_length_le (by rw [List.length_drop,h.1];exact Nat.le_refl _)] at this;simpa [Addr.add_mid] using this
end
theorem Tryz.four_puts:∀w:World,(sizeOf (prog.elem 59)).run prog w=.ok 4 w:=λ _=>by kernel_rfl
theorem Q06 (a:Option Addr) (n c k:Nat) (hk:k<=c) (w:World) :
  (Instr.slice 59 (.slice a n c) none (some (.int .i64 (k:Int))) none).run prog w=.ok (.slice a k c) w:=by
 rw [run_slice_h (P:=prog) w 59 a n c Tryz.underlying59 .i64 k (by omega) (by omega),Tryz.four_puts w];simp only [Result.andThen,Int.toNat_natCast]
 unfold sliced;cases a with
 | none=>simp
 | some x=>simp [Addr.add]
theorem Qou (a:Option Addr) (n c k:Nat) (hk:k<=n) (w:World) :
  (Instr.slice 59 (.slice a n c) (some (.int .i64 (k:Int))) none none).run prog w=.ok (.slice (Qfo a c k) (n - k) (c - k)) w:=by
 rw [run_slice_l (P:=prog) w 59 a n c Tryz.underlying59 .i64 k (by omega) (by omega),Tryz.four_puts w];simp only [Result.andThen,Int.toNat_natCast]
 rfl
end
end Go.Proofs.YtcdnjeiamihhbaaGreat
