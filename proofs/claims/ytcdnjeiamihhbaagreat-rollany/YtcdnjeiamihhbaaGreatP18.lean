/- P18 -/
import Derived.Maps.OwnSet
import Derived.Maps.RangeWalk
import Derived.Maps.Ext
import Derived.WideKeyEntry
import Derived.DeepKeys4
import Derived.WalkArith
import Derived.Deep.DeepCutAuto
import Derived.Test.YtcdnjeiamihhbaaGreatP9
set_option linter.unusedVariables false
set_option maxRecDepth 4000
open Go.Proofs.Tryz
namespace Go.Proofs.YtcdnjeiamihhbaaGreat
theorem Qmc (x y:Pr):ltP x y=false↔¬(x.1<y.1\/(x.1=y.1/\x.2<y.2)):=by unfold ltP;simp
theorem Qx4 {x y:Pr}:x≠y↔(x.1≠y.1\/x.2≠y.2):=by
 obtain ⟨a,b⟩:=x;obtain ⟨c,d⟩:=y;simp only [ne_eq,Prod.mk.injEq]
 omega
theorem Q4f {x y:Pr}:x=y↔(x.1=y.1/\x.2=y.2):=by
 obtain ⟨a,b⟩:=x;obtain ⟨c,d⟩:=y;simp
theorem Qfj (x:Pr):ltP x x=false:=by rw [Qmc];omega
theorem Qih {x y z:Pr} (h:ltP x y=true) (k:ltP y z=true):ltP x z=true:=by rw [Qov] at *;omega
theorem Qui {x y:Pr} (h:ltP x y=true):ltP y x=false:=by rw [Qov] at h;rw [Qmc];omega
theorem Q37 {x y:Pr} (h:ltP x y=true):x≠y:=by rintro rfl;rw [Qfj] at h;cases h
theorem Qog {x y:Pr} (h:x≠y) (k:ltP x y=false):ltP y x=true:=by rw [Qmc] at k;rw [Qov];rw [Qx4] at h;omega
theorem Q0j {x y:Pr} (h:ltP x y=false) (k:ltP y x=false):x=y:=by
 by_cases e:x=y
 ·exact e
 ·rw [Qog e h] at k;cases k
structure Good (S:List Pl):Prop where
 up:S.Pairwise (λ p q=>ltP p.1 q.1=true)
 apart:S.Pairwise (λ p q=>p.2≠q.2)
 fits:∀p∈S,Qdu p
theorem good_nil:Good []:=⟨.nil,.nil,by simp⟩
theorem eq_of_pairwise {α β:Type} (f:α->β):∀{l:List α},l.Pairwise (λ p q=>f p≠f q)->∀{p q:α},p∈l->q∈l->f p=f q->p=q
 | [],_,_,_,hp,_,_=>by simp at hp
 | a :: r,h,p,q,hp,hq,e=>by
  obtain ⟨h1,h2⟩:=List.pairwise_cons.1 h;rcases List.mem_cons.1 hp with e1 | hp1
  ·rcases List.mem_cons.1 hq with e2 | hq1
   ·rw [e1,e2]
   ·exact absurd (e1 ▸ e) (h1 q hq1)
  ·rcases List.mem_cons.1 hq with e2 | hq1
   ·exact absurd (e2 ▸ e.symm) (h1 p hp1)
   ·exact eq_of_pairwise f h2 hp1 hq1 e
theorem Good.names {S:List Pl} (h:Good S):S.Pairwise (λ p q=>p.1≠q.1):=h.up.imp (λ h=>Q37 h)
theorem Good.one_name {S:List Pl} (h:Good S) {p q:Pl} (hp:p∈S) (hq:q∈S) (e:p.1=q.1):p=q:=eq_of_pairwise (λ p:Pl=>p.1) h.names hp hq e
theorem Good.one_spot {S:List Pl} (h:Good S) {p q:Pl} (hp:p∈S) (hq:q∈S) (e:p.2=q.2):p=q:=eq_of_pairwise (λ p:Pl=>p.2) h.apart hp hq e
def getS (S:List Pl) (n:Pr):Option Pr:=(S.find? (λ p=>p.1 == n)).map (·.2)
def atS (S:List Pl) (s:Pr):Option Pr:=(S.find? (λ p=>p.2 == s)).map (·.1)
theorem Qej {S:List Pl} (h:Good S) {n s:Pr}:getS S n=some s↔(n,s)∈S:=by
 unfold getS;constructor
 ·intro e
  obtain ⟨p,hp,rfl⟩:=Option.map_eq_some_iff.1 e;have h1:=List.find?_some hp;have h2:=List.mem_of_find?_eq_some hp;have:p.1=n:=by simpa using h1
  rw [<-this];exact h2
 ·intro hm
  obtain ⟨p,hp⟩:∃p,S.find? (λ p=>p.1 == n)=some p:=by
   rw [<-Option.isSome_iff_exists,List.find?_isSome];exact ⟨_,hm,by simp⟩
  rw [hp];have h1:=List.find?_some hp;have h2:=List.mem_of_find?_eq_some hp;have h3:p.1=n:=by simpa using h1
  rw [h.one_name h2 hm h3];rfl
theorem Qgp {S:List Pl} {n:Pr}:getS S n=none↔∀s,(n,s)∉S:=by
 unfold getS;rw [Option.map_eq_none_iff,List.find?_eq_none];constructor
 ·intro h s hm;exact h _ hm (by simp)
 ·intro h p hp e
  have:p.1=n:=by simpa using e
  exact h p.2 (by rw [<-this];exact hp)
theorem Qh6 {S:List Pl} (h:Good S) {n s:Pr}:atS S s=some n↔(n,s)∈S:=by
 unfold atS;constructor
 ·intro e
  obtain ⟨p,hp,rfl⟩:=Option.map_eq_some_iff.1 e;have h1:=List.find?_some hp;have h2:=List.mem_of_find?_eq_some hp;have:p.2=s:=by simpa using h1
  rw [<-this];exact h2
 ·intro hm
  obtain ⟨p,hp⟩:∃p,S.find? (λ p=>p.2 == s)=some p:=by
   rw [<-Option.isSome_iff_exists,List.find?_isSome];exact ⟨_,hm,by simp⟩
  rw [hp];have h1:=List.find?_some hp;have h2:=List.mem_of_find?_eq_some hp;have h3:p.2=s:=by simpa using h1
  rw [h.one_spot h2 hm h3];rfl
theorem Qlu {S:List Pl} {s:Pr}:atS S s=none↔∀n,(n,s)∉S:=by
 unfold atS;rw [Option.map_eq_none_iff,List.find?_eq_none];constructor
 ·intro h n hm;exact h _ hm (by simp)
 ·intro h p hp e
  have:p.2=s:=by simpa using e
  exact h p.1 (by rw [<-this];exact hp)
def Qax (S:List Pl) (n:Pr):List Pl:=S.filter (λ p=>p.1 != n)
theorem Qbs {S:List Pl} {n:Pr} {p:Pl}:p∈Qax S n↔p∈S/\p.1≠n:=by unfold Qax;simp [List.mem_filter]
theorem Good.filter {S:List Pl} (h:Good S) (f:Pl->Bool):Good (S.filter f):=⟨h.up.filter _,h.apart.filter _,λ p hp=>h.fits p (List.mem_filter.1 hp).1⟩
theorem Good.drop {S:List Pl} (h:Good S) (n:Pr):Good (Qax S n):=h.filter _
theorem Qnq {S:List Pl} {n:Pr} (h:getS S n=none):Qax S n=S:=by
 unfold Qax;rw [List.filter_eq_self];intro p hp;have:=Qgp.1 h p.2;simp only [bne_iff_ne,ne_eq]
 intro e;exact this (by rw [<-e];exact hp)
theorem Qz3 (S:List Pl) (n:Pr):decide ((Qax S n).length<S.length)=(getS S n).isSome:=by
 cases hg:getS S n with
 | none=>rw [Qnq hg];simp
 | some s=>
  have:∃p∈S,p.1=n:=by
   unfold getS at hg;obtain ⟨p,hp,_⟩:=Option.map_eq_some_iff.1 hg;exact ⟨p,List.mem_of_find?_eq_some hp,by simpa using List.find?_some hp⟩
  obtain ⟨p,hp,e⟩:=this;have:(Qax S n).length<S.length:=by
   unfold Qax;rw [List.length_filter_lt_length_iff_exists];exact ⟨p,hp,by simp [e]⟩
  simp [this]
def Qav (p:Pl) (s:List Pl × Bool) (x:Pl):List Pl × Bool:=
 (s.1 ++ ((if !s.2 && (ltP p.1 x.1 || x.1 == p.1) then [p] else []) ++ (if !(x.1 == p.1) && (x.2 != p.2) then [x] else [])),s.2 || (ltP p.1 x.1 || x.1 == p.1))
def Qbm (p:Pl) (S:List Pl):List Pl × Bool:=S.foldl (Qav p) ([],false)
def putS (S:List Pl) (p:Pl):List Pl:=if (Qbm p S).2 then (Qbm p S).1 else (Qbm p S).1 ++ [p]
def Qe0 (p x:Pl):Bool:=!(x.1 == p.1) && (x.2 != p.2)
def insN (p:Pl):List Pl->List Pl
 | []=>[p]
 | q :: r=>if ltP p.1 q.1 then p :: q :: r else q :: insN p r
theorem Qe7 (p:Pl):∀L:List Pl,(insN p L).Perm (p :: L)
 | []=>.refl _
 | q :: r=>by
  unfold insN;split
  ·exact .refl _
  ·exact ((Qe7 p r).cons q).trans (List.Perm.swap p q r)
theorem Qvl (p:Pl):∀L:List Pl,L.Pairwise (λ p q=>ltP p.1 q.1=true)->(∀q∈L,q.1≠p.1)->(insN p L).Pairwise (λ p q=>ltP p.1 q.1=true)
 | [],_,_=>by simp [insN]
 | q :: r,h,hn=>by
  obtain ⟨h1,h2⟩:=List.pairwise_cons.1 h;unfold insN;split
  ·rename_i hb
   refine List.pairwise_cons.2 ⟨λ x hx=>?_,h⟩
   rcases List.mem_cons.1 hx with rfl | hx
   ·exact hb
   ·exact Qih hb (h1 x hx)
  ·rename_i hb
   have hqp:ltP q.1 p.1=true:=Qog (hn q (by simp)).symm (by simpa using hb);refine List.pairwise_cons.2 ⟨λ x hx=>?_,Qvl p r h2 (λ x hx=>hn x (by simp [hx]))⟩
   rcases List.mem_cons.1 ((Qe7 p r).mem_iff.1 hx) with rfl | hx
   ·exact hqp
   ·exact h1 x hx
theorem Qqk (p:Pl):∀(S:List Pl) (o:List Pl),S.foldl (Qav p) (o,true)=(o ++ S.filter (Qe0 p),true)
 | [],o=>by simp
 | x :: r,o=>by
  rw [List.foldl_cons];have:Qav p (o,true) x=(o ++ (if Qe0 p x then [x] else []),true):=by simp [Qav,Qe0]
  rw [this,Qqk p r];by_cases h:Qe0 p x=true
  ·simp [h]
  ·simp [h]
theorem Q03 (p:Pl):∀(S:List Pl) (o:List Pl),S.Pairwise (λ p q=>ltP p.1 q.1=true)->
  (if (S.foldl (Qav p) (o,false)).2 then (S.foldl (Qav p) (o,false)).1 else (S.foldl (Qav p) (o,false)).1 ++ [p])=o ++ insN p (S.filter (Qe0 p))
 | [],o,_=>by simp [insN]
 | x :: r,o,h=>by
  obtain ⟨h1,h2⟩:=List.pairwise_cons.1 h;rw [List.foldl_cons];by_cases hd:(ltP p.1 x.1 || x.1 == p.1)=true
  ·have:Qav p (o,false) x=(o ++ ([p] ++ (if Qe0 p x then [x] else [])),true):=by simp [Qav,Qe0,hd]
   rw [this,Qqk p r];have hall:∀q∈r,ltP p.1 q.1=true:=by
    intro q hq;have hxq:=h1 q hq;simp only [Bool.or_eq_true,beq_iff_eq] at hd
    rcases hd with hd | hd
    ·exact Qih hd hxq
    ·rw [<-hd];exact hxq
   have hins:∀L:List Pl,(∀q∈L,ltP p.1 q.1=true)->insN p L=p :: L:=by
    intro L hL;cases L with
    | nil=>rfl
    | cons q t=>unfold insN;rw [if_pos (hL q (by simp))]
   by_cases hk:Qe0 p x=true
   ·have hx:ltP p.1 x.1=true:=by
     simp only [Bool.or_eq_true,beq_iff_eq] at hd
     rcases hd with hd | hd
     ·exact hd
     ·simp [Qe0,hd] at hk
    rw [List.filter_cons_of_pos hk,hins _ (by
     intro q hq;rcases List.mem_cons.1 hq with rfl | hq
     ·exact hx
     ·exact hall q (List.mem_filter.1 hq).1)]
    simp [hk]
   ·rw [List.filter_cons_of_neg hk,hins _ (λ q hq=>hall q (List.mem_filter.1 hq).1)]
    simp [hk]
  ·have hd':(ltP p.1 x.1 || x.1 == p.1)=false:=by simpa using hd
   have:Qav p (o,false) x=(o ++ (if Qe0 p x then [x] else []),false):=by simp [Qav,Qe0,hd']
   rw [this,Q03 p r _ h2];have hnl:ltP p.1 x.1=false:=(Bool.or_eq_false_iff.1 hd').1;by_cases hk:Qe0 p x=true
   ·rw [List.filter_cons_of_pos hk]
    simp [hk,insN,hnl]
   ·rw [List.filter_cons_of_neg hk]
    simp [hk]
theorem Qlb {S:List Pl} (h:Good S) (p:Pl):putS S p=insN p (S.filter (Qe0 p)):=by
 have:=Q03 p S [] h.up;unfold putS Qbm;simpa using this
theorem Qmo {S:List Pl} (h:Good S) {p q:Pl}:q∈putS S p↔q=p\/(q∈S/\q.1≠p.1/\q.2≠p.2):=by
 rw [Qlb h,(Qe7 p _).mem_iff,List.mem_cons,List.mem_filter];simp [Qe0]
theorem Good.put {S:List Pl} (h:Good S) {p:Pl} (hp:Qdu p):Good (putS S p):=by
 have hf:=h.filter (Qe0 p);refine ⟨?_,?_,λ q hq=>?_⟩
 ·rw [Qlb h]
  refine Qvl p _ hf.up (λ q hq=>?_)
  have:=(List.mem_filter.1 hq).2;simp [Qe0] at this
  exact this.1
 ·rw [Qlb h]
  refine ((Qe7 p _).pairwise_iff (fun {a b} (hn:a.2≠b.2)=>hn.symm)).2 (List.pairwise_cons.2 ⟨λ q hq=>?_,hf.apart⟩)
  have:=(List.mem_filter.1 hq).2;simp [Qe0] at this
  exact λ e=>this.2 e.symm
 ·rcases (Qmo h).1 hq with rfl | h'
  ·exact hp
  ·exact h.fits q h'.1
theorem Qgx {S:List Pl} (h:Good S) (p:Pl):(putS S p).length<=S.length+1:=by
 rw [Qlb h,(Qe7 p _).length_eq,List.length_cons];exact Nat.succ_le_succ (List.length_filter_le _ _)
theorem Qty (S:List Pl) (n:Pr):(Qax S n).length<=S.length:=List.length_filter_le _ _
theorem Qo9 {α:Type} [DecidableEq α] {l l':List α} (h:l.Nodup) (h':l'.Nodup) (hm:∀x,x∈l↔x∈l'):l.Perm l':=by
 rw [List.perm_iff_count];intro x;rw [h.count,h'.count];by_cases hx:x∈l
 ·rw [if_pos hx,if_pos ((hm x).1 hx)]
 ·rw [if_neg hx,if_neg (λ h=>hx ((hm x).2 h))]
end Go.Proofs.YtcdnjeiamihhbaaGreat
namespace Go.Proofs.YtcdnjeiamihhbaaGreat
open Go.RowKit
theorem Qhg {B:Nat} {a w:World} (h:Below B a w):Below B a w.drew:=⟨h.os,h.tape,h.output,h.size,h.block⟩
theorem Qsa {B:Nat} {a b c:World} (h:Below B a b) (k:Below b.heap.size b c) (hB:B<=b.heap.size):Below B a c:=
 ⟨k.os.trans h.os,k.tape.trans h.tape,k.output.trans h.output,Nat.le_trans h.size k.size,λ i hi=>(k.block i (by omega)).trans (h.block i hi)⟩
theorem Qla {a b c:World} (h:Below a.heap.size a b) (k:Below b.heap.size b c):Below a.heap.size a c:=Qsa h k h.size
section
theorem Tryz.laidO:laidOutB prog=true:=by kernel_rfl
def encP (q0 q1:IntKind) (x:Pr):Value:=.agg #[.int q0 x.1,.int q1 x.2]
def klP (q0 q1:IntKind) (x:Pr):Lit:=.string (keyBytes [.int q0 x.1,.int q1 x.2])
theorem Tryz.tsz:prog.types.size+1=369+2:=by kernel_rfl
theorem Tryz.cellsI:prog.cellsOf 3=1:=by kernel_rfl
theorem Tryz.cells4:prog.cellsOf 70=1:=by kernel_rfl
theorem Tryz.cells8:prog.cellsOf 45=1:=by kernel_rfl
theorem Qh7 {t:TypeId} {q:IntKind} (hu:prog.underlying t=some (.int q)) {d:Nat} {a:Value} {l:List Lit} (h:prog.keyLits (d+1) t [a]=some l):∃x,a=.int q x/\(Lit.int q x).wf=true/\l=[.int q x]:=by
 cases a <;> simp [Program.keyLits,hu] at h
 obtain ⟨⟨rfl,hw⟩,rfl⟩:=h;exact ⟨_,rfl,hw,rfl⟩
theorem Tryz.wideN:(match prog.underlying 158 with | some (.array _ _) | some (.struct _)=>true | _=>false)=true:=by rw [Tryz.underlying158]
theorem Tryz.lawN:WideMaps.KeyLaw prog 158:=deep_law_laid Tryz.laidO (m:=2) (by omega) (of_decide_eq_true (by kernel_rfl)) (by kernel_rfl) Tryz.wideN
theorem Tryz.keyTN:prog.keyType 158=true:=by kernel_rfl
theorem Tryz.cellsN:prog.cellsOf 158=2:=by kernel_rfl
theorem Qyx (d:Nat) (a b:Value):prog.keyLits (d+2) 158 [a,b]=(prog.keyLits (d+1) 70 [a]).bind λ la=>(prog.keyLits (d+1) 45 [b]).bind λ lb=>some (la ++ lb):=by
 conv=>lhs;unfold Program.keyLits
 rw [Tryz.underlying158];cases h1:prog.keyLits (d+1) 70 [a] <;> cases h2:prog.keyLits (d+1) 45 [b] <;> simp [Tryz.cellsN,Tryz.cells4,Tryz.cells8,h1,h2]
theorem Q4o (d:Nat) (a b:Value) (l:List Lit) (h:prog.keyLits (d+2) 158 [a,b]=some l):∃x y,a=.int .u32 x/\b=.int .u64 y/\(Lit.int .u32 x).wf=true/\(Lit.int .u64 y).wf=true/\l=[.int .u32 x,.int .u64 y]:=by
 rw [Qyx] at h;obtain ⟨la,h1,h⟩:=Option.bind_eq_some_iff.1 h;obtain ⟨lb,h2,h⟩:=Option.bind_eq_some_iff.1 h;obtain ⟨x,rfl,hx,rfl⟩:=Qh7 Tryz.underlying70 h1;obtain ⟨y,rfl,hy,rfl⟩:=Qh7 Tryz.underlying45 h2;cases h
 exact ⟨x,y,rfl,rfl,hx,hy,rfl⟩
theorem Q0k (d:Nat) (x y:Int) (h1:(Lit.int .u32 x).wf=true) (h2:(Lit.int .u64 y).wf=true):prog.keyLits (d+2) 158 [.int .u32 x,.int .u64 y]=some [.int .u32 x,.int .u64 y]:=by
 simp [Program.keyLits,Tryz.underlying158,Tryz.underlying70,Tryz.underlying45,Tryz.cellsN,Tryz.cells4,Tryz.cells8,h1,h2]
theorem Q1j {x:Pr} (h1:(Lit.int .u32 x.1).wf=true) (h2:(Lit.int .u64 x.2).wf=true):keyOf prog 158 (encP .u32 .u64 x)=some (klP .u32 .u64 x):=by
 unfold keyOf encP klP;simp [Tryz.underlying158,Tryz.keyTN,Value.formed,Tryz.cellsN,Value.cells,Q0k _ _ _ h1 h2]
theorem Qlh {v:Value} {l:Lit} (h:keyOf prog 158 v=some l):∃x:Pr,v=encP .u32 .u64 x/\((Lit.int .u32 x.1).wf=true/\(Lit.int .u64 x.2).wf=true)/\l=klP .u32 .u64 x:=by
 unfold keyOf at h;simp only [Tryz.underlying158,Tryz.keyTN,Bool.true_and] at h
 split at h
 ·rename_i hf
  cases v <;> simp [Value.formed,Tryz.underlying158,Tryz.cellsN] at hf
  rename_i cs
  obtain ⟨L,rfl⟩:∃L:List Value,cs=L.toArray:=⟨cs.toList,by simp⟩
  match L,hf with
  | [a,b],_=>
   obtain ⟨ls,h1,h2⟩:=Option.map_eq_some_iff.1 h;rw [Tryz.tsz] at h1;obtain ⟨x,y,rfl,rfl,hx,hy,rfl⟩:=Q4o _ a b ls h1;exact ⟨(x,y),rfl,⟨hx,hy⟩,h2.symm⟩
 ·cases h
theorem Tryz.wideS:(match prog.underlying 163 with | some (.array _ _) | some (.struct _)=>true | _=>false)=true:=by rw [Tryz.underlying163]
theorem Tryz.lawS:WideMaps.KeyLaw prog 163:=deep_law_laid Tryz.laidO (m:=2) (by omega) (of_decide_eq_true (by kernel_rfl)) (by kernel_rfl) Tryz.wideS
theorem Tryz.keyTS:prog.keyType 163=true:=by kernel_rfl
theorem Tryz.cellsS:prog.cellsOf 163=2:=by kernel_rfl
theorem Qxy (d:Nat) (a b:Value):prog.keyLits (d+2) 163 [a,b]=(prog.keyLits (d+1) 3 [a]).bind λ la=>(prog.keyLits (d+1) 3 [b]).bind λ lb=>some (la ++ lb):=by
 conv=>lhs;unfold Program.keyLits
 rw [Tryz.underlying163];cases h1:prog.keyLits (d+1) 3 [a] <;> cases h2:prog.keyLits (d+1) 3 [b] <;> simp [Tryz.cellsS,Tryz.cellsI,h1,h2]
theorem Q4m (d:Nat) (a b:Value) (l:List Lit) (h:prog.keyLits (d+2) 163 [a,b]=some l):∃x y,a=.int .i64 x/\b=.int .i64 y/\(Lit.int .i64 x).wf=true/\(Lit.int .i64 y).wf=true/\l=[.int .i64 x,.int .i64 y]:=by
 rw [Qxy] at h;obtain ⟨la,h1,h⟩:=Option.bind_eq_some_iff.1 h;obtain ⟨lb,h2,h⟩:=Option.bind_eq_some_iff.1 h;obtain ⟨x,rfl,hx,rfl⟩:=Qh7 Tryz.underlying3 h1;obtain ⟨y,rfl,hy,rfl⟩:=Qh7 Tryz.underlying3 h2;cases h
 exact ⟨x,y,rfl,rfl,hx,hy,rfl⟩
theorem Qyd (d:Nat) (x y:Int) (h1:(Lit.int .i64 x).wf=true) (h2:(Lit.int .i64 y).wf=true):prog.keyLits (d+2) 163 [.int .i64 x,.int .i64 y]=some [.int .i64 x,.int .i64 y]:=by
 simp [Program.keyLits,Tryz.underlying163,Tryz.underlying3,Tryz.cellsS,Tryz.cellsI,h1,h2]
theorem Q1u {x:Pr} (h1:(Lit.int .i64 x.1).wf=true) (h2:(Lit.int .i64 x.2).wf=true):keyOf prog 163 (encP .i64 .i64 x)=some (klP .i64 .i64 x):=by
 unfold keyOf encP klP;simp [Tryz.underlying163,Tryz.keyTS,Value.formed,Tryz.cellsS,Value.cells,Qyd _ _ _ h1 h2]
theorem Qzs {v:Value} {l:Lit} (h:keyOf prog 163 v=some l):∃x:Pr,v=encP .i64 .i64 x/\((Lit.int .i64 x.1).wf=true/\(Lit.int .i64 x.2).wf=true)/\l=klP .i64 .i64 x:=by
 unfold keyOf at h;simp only [Tryz.underlying163,Tryz.keyTS,Bool.true_and] at h
 split at h
 ·rename_i hf
  cases v <;> simp [Value.formed,Tryz.underlying163,Tryz.cellsS] at hf
  rename_i cs
  obtain ⟨L,rfl⟩:∃L:List Value,cs=L.toArray:=⟨cs.toList,by simp⟩
  match L,hf with
  | [a,b],_=>
   obtain ⟨ls,h1,h2⟩:=Option.map_eq_some_iff.1 h;rw [Tryz.tsz] at h1;obtain ⟨x,y,rfl,rfl,hx,hy,rfl⟩:=Q4m _ a b ls h1;exact ⟨(x,y),rfl,⟨hx,hy⟩,h2.symm⟩
 ·cases h
structure Kd where
 tm:TypeId
 tk:TypeId
 te:TypeId
 q0:IntKind
 q1:IntKind
 r0:IntKind
 r1:IntKind
def Kd.ok (K:Kd) (x:Pr):Prop:=(Lit.int K.q0 x.1).wf=true/\(Lit.int K.q1 x.2).wf=true
def Kd.enc (K:Kd) (x:Pr):Value:=encP K.q0 K.q1 x
def Kd.val (K:Kd) (y:Pr):Value:=encP K.r0 K.r1 y
def Kd.kl (K:Kd) (x:Pr):Lit:=klP K.q0 K.q1 x
structure KdOk (K:Kd):Prop where
 law:WideMaps.KeyLaw prog K.tk
 und:prog.underlying K.tm=some (.map K.tk K.te)
 zero:∀w,(zeroValue K.te).run prog w=.ok (K.val (0,0)) w
 key:∀x,K.ok x->keyOf prog K.tk (K.enc x)=some (K.kl x)
 inv:∀v l,keyOf prog K.tk v=some l->∃x,v=K.enc x/\K.ok x/\l=K.kl x
theorem Qr3 {q0 q1:IntKind} {x y:Pr} (h:encP q0 q1 x=encP q0 q1 y):x=y:=by
 unfold encP at h;simp at h
 exact Q4f.2 h
section
variable {K:Kd}
theorem KdOk.keyed (h:KdOk K):Maps.Keyed prog K.tk:=Maps.Keyed.of_law h.law
theorem KdOk.inj (h:KdOk K) {x y:Pr} (hx:K.ok x) (hy:K.ok y) (e:K.kl x=K.kl y):x=y:=Qr3 (h.law.inj (h.key x hx) (e ▸ h.key y hy))
theorem KdOk.isKey (h:KdOk K) {x:Pr} (hx:K.ok x):WideAt.IsKeyLit (K.kl x):=h.keyed.key (h.key x hx)
def Qzq (v:Value):Option (DataW Value × List MemPlace):=some (.held v,[])
def DIs (K:Kd) (D:DataW Value) (M:Pr->Pr->Prop):Prop:=
 ∀x,K.ok x->(Maps.has D (K.kl x)=true↔∃y,M x y)/\∀y,M x y->∀z,D.atKey (K.kl x) z=.held (K.val y)
def MapIs (K:Kd) (w:World) (b n:Nat) (M:Pr->Pr->Prop):Prop:=∃D:DataW Value,w.ownsMap prog K.tk Qzq b n D/\DIs K D M
variable {w w':World} {b n:Nat} {M M':Pr->Pr->Prop}
theorem DIs.congr {D:DataW Value} (h:DIs K D M) (he:∀x y,K.ok x->(M x y↔M' x y)):DIs K D M':=λ x hx=>by
 obtain ⟨h1,h2⟩:=h x hx;refine ⟨h1.trans ⟨λ ⟨y,hy⟩=>⟨y,(he x y hx).1 hy⟩,λ ⟨y,hy⟩=>⟨y,(he x y hx).2 hy⟩⟩,λ y hy=>h2 y ((he x y hx).2 hy)⟩
theorem MapIs.congr (h:MapIs K w b n M) (he:∀x y,K.ok x->(M x y↔M' x y)):MapIs K w b n M':=by
 obtain ⟨D,h1,h2⟩:=h;exact ⟨D,h1,h2.congr he⟩
theorem Quo {k:TypeId} {R:Value->Option (DataW Value × List MemPlace)} {D:DataW Value} (h:w.ownsMap prog k R b n D) (hs:w'.heap[b]?=w.heap[b]?):w'.ownsMap prog k R b n D:=by
 obtain ⟨es,clock,hb,F,hn,hD⟩:=h;exact ⟨es,clock,hs.trans hb,F,hn,hD⟩
theorem MapIs.same (h:MapIs K w b n M) (hs:w'.heap[b]?=w.heap[b]?):MapIs K w' b n M:=by
 obtain ⟨D,h1,h2⟩:=h;exact ⟨D,Quo h1 hs,h2⟩
theorem MapIs.lt (h:MapIs K w b n M):b<w.heap.size:=by obtain ⟨D,h1,_⟩:=h;exact h1.lt
theorem MapIs.mono {n':Nat} (h:MapIs K w b n M) (hn:n<=n'):MapIs K w b n' M:=by obtain ⟨D,h1,h2⟩:=h;exact ⟨D,h1.mono hn,h2⟩
theorem MapIs.no_blk {g:Nat} {L:List Value} {t:TypeId} (h:MapIs K w b n M) (hb:Blk w g L t):g≠b:=by
 rintro rfl;obtain ⟨D,⟨es,clock,hb',_⟩,_⟩:=h;unfold Blk at hb;rw [hb'] at hb;cases hb
theorem MapIs.made (K:Kd) (w:World):MapIs K (w.alloc (.map #[] 0)) w.heap.size 0 (λ _ _=>False):=
 ⟨.map [],World.ownsMap_made w _ _ _,λ x _=>⟨⟨λ h=>(by cases h),λ ⟨_,h⟩=>h.elim⟩,λ _ h=>h.elim⟩⟩
theorem MapIs.look (O:KdOk K) (h:MapIs K w b n M) {x:Pr} (hx:K.ok x) (o:Option Pr) (ho:∀y,o=some y↔M x y) :
  (Instr.lookup K.tm (.map (some b)) (K.enc x) true).run prog w=.ok (.tuple #[K.val (o.getD (0,0)),.bool o.isSome]) w:=by
 obtain ⟨D,hown,hD⟩:=h;obtain ⟨h1,h2⟩:=hD x hx;obtain ⟨v,ps,hrun,hv⟩:=hown.look_ok O.keyed O.und (O.zero w) (zd:=.held (K.val (0,0))) (zp:=[]) rfl (O.key x hx);rw [hrun];cases o with
 | none=>
  have hh:Maps.has D (K.kl x)=false:=by
   cases he:Maps.has D (K.kl x) with
   | false=>rfl
   | true=>obtain ⟨y,hy⟩:=h1.1 he;exact absurd ((ho y).2 hy) (by simp)
  rw [Maps.atKey_of_not_has hh] at hv;have hv':(DataW.held v,([]:List MemPlace))=(.held (K.val (0,0)),ps):=Option.some.inj hv;have:v=K.val (0,0):=by injection hv' with h1 _;injection h1
  rw [hh,this];rfl
 | some y=>
  have hy:=(ho y).1 rfl;have hh:Maps.has D (K.kl x)=true:=h1.2 ⟨y,hy⟩;rw [h2 y hy] at hv;have hv':(DataW.held v,([]:List MemPlace))=(.held (K.val y),ps):=Option.some.inj hv;have:v=K.val y:=by injection hv' with h1 _;injection h1
  rw [hh,this];rfl
theorem MapIs.look1 (O:KdOk K) (h:MapIs K w b n M) {x:Pr} (hx:K.ok x) (o:Option Pr) (ho:∀y,o=some y↔M x y) :
  (Instr.lookup K.tm (.map (some b)) (K.enc x) false).run prog w=.ok (K.val (o.getD (0,0))) w:=by
 obtain ⟨D,hown,hD⟩:=h;obtain ⟨h1,h2⟩:=hD x hx;obtain ⟨v,ps,hrun,hv⟩:=hown.lookup O.keyed O.und (O.zero w) (zd:=.held (K.val (0,0))) (zp:=[]) rfl (O.key x hx);rw [hrun];cases o with
 | none=>
  have hh:Maps.has D (K.kl x)=false:=by
   cases he:Maps.has D (K.kl x) with
   | false=>rfl
   | true=>obtain ⟨y,hy⟩:=h1.1 he;exact absurd ((ho y).2 hy) (by simp)
  rw [Maps.atKey_of_not_has hh] at hv;have hv':(DataW.held v,([]:List MemPlace))=(.held (K.val (0,0)),ps):=Option.some.inj hv;have:v=K.val (0,0):=by injection hv' with h1 _;injection h1
  rw [this];rfl
 | some y=>
  have hy:=(ho y).1 rfl;rw [h2 y hy] at hv;have hv':(DataW.held v,([]:List MemPlace))=(.held (K.val y),ps):=Option.some.inj hv;have:v=K.val y:=by injection hv' with h1 _;injection h1
  rw [this];rfl
theorem MapIs.drop (O:KdOk K) (h:MapIs K w b n M) {x:Pr} (hx:K.ok x) (ty:TypeId) :
  ∃w',(Builtin.delete_ #[K.tm,K.tk] ty #[.map (some b),K.enc x]).run prog w=.ok (.tuple #[]) w'/\MapIs K w' b n (λ x' y=>M x' y/\x'≠x)/\w.mapTurned w' b:=by
 obtain ⟨D,hown,hD⟩:=h;obtain ⟨w',hrun,h1,h2⟩:=hown.drop O.keyed O.und (O.key x hx) ty;refine ⟨w',hrun,⟨_,h1,λ x' hx'=>?_⟩,h2⟩
 by_cases he:x'=x
 ·subst he
  rw [Maps.has_del_same];exact ⟨⟨λ h=>(by cases h),λ ⟨_,h⟩=>absurd rfl h.2⟩,λ _ h=>absurd rfl h.2⟩
 ·have hne:K.kl x'≠K.kl x:=λ e=>he (O.inj hx' hx e)
  obtain ⟨k1,k2⟩:=hD x' hx';rw [Maps.has_del_other hne];exact ⟨k1.trans ⟨λ ⟨y,hy⟩=>⟨y,hy,he⟩,λ ⟨y,hy⟩=>⟨y,hy.1⟩⟩,λ y hy z=>by rw [Maps.atKey_del_other hne];exact k2 y hy.1 z⟩
theorem DIs.put (O:KdOk K) {D:DataW Value} (hD:DIs K D M) (hm:Maps.IsMap D) {x:Pr} (hx:K.ok x) (y:Pr):DIs K (D.put (K.kl x) (.held (K.val y))) (λ x' y'=>(x'=x/\y'=y)\/(x'≠x/\M x' y')):=λ x' hx'=>by
 by_cases he:x'=x
 ·subst he
  rw [Maps.has_put_same hm (O.isKey hx')];refine ⟨⟨λ _=>⟨y,.inl ⟨rfl,rfl⟩⟩,λ _=>rfl⟩,λ y' hy' z=>?_⟩
  rcases hy' with ⟨_,rfl⟩ | ⟨h,_⟩
  ·exact Maps.atKey_put_same hm (O.isKey hx') _ z
  ·exact absurd rfl h
 ·have hne:K.kl x'≠K.kl x:=λ e=>he (O.inj hx' hx e)
  obtain ⟨k1,k2⟩:=hD x' hx';rw [Maps.has_put_other hne];refine ⟨k1.trans ⟨λ ⟨y,hy⟩=>⟨y,.inr ⟨he,hy⟩⟩,λ ⟨y,hy⟩=>?_⟩,λ y' hy' z=>?_⟩
  ·rcases hy with ⟨h,_⟩ | ⟨_,h⟩
   ·exact absurd h he
   ·exact ⟨y,h⟩
  ·rw [Maps.atKey_put_other hne]
   rcases hy' with ⟨h,_⟩ | ⟨_,h⟩
   ·exact absurd h he
   ·exact k2 y' h z
theorem MapIs.entry (O:KdOk K) (h:MapIs K w b n M) {x:Pr} (hx:K.ok x) (y:Pr) (hn:n<1000000) :
  ∃(v0:Value) (st:Nat) (w1 w2:World),(Instr.mapEntry K.tm (.map (some b)) (K.enc x)).run prog w=.ok (.tuple #[v0,goInt st]) w1/\
   (Instr.entryStore K.tm (.map (some b)) (goInt st) (K.val y)).run prog w1=.ok () w2/\MapIs K w2 b (n+1) (λ x' y'=>(x'=x/\y'=y)\/(x'≠x/\M x' y'))/\w.mapTurned w1 b/\w.mapTurned w2 b:=by
 obtain ⟨D,hown,hD⟩:=h;have hown0:=hown;obtain ⟨es,clock,hb,F,hs,hDe⟩:=hown;obtain ⟨v0,st,es1,clock1,hE,_,hS⟩:=WideElems.entry_then_store (w:=w) O.law O.und O.zero hb F (O.key x hx);obtain ⟨es',clock',h1,h2⟩:=hS (ChangeMaps.setBlock w b (.map es1 clock1)) (K.val y) (ChangeMaps.heap_setBlock_same hb _);obtain ⟨w',hrun,k1,k2⟩:=hown0.store O.keyed O.und (show n<maxLen by unfold maxLen;omega) (O.key x hx) (val:=K.val y) (d:=.held (K.val y)) (ps:=[]) rfl;rw [h2] at hrun;have hw':ChangeMaps.setBlock w b (.map es' clock')=w':=by injection hrun
 have hw2:ChangeMaps.setBlock (ChangeMaps.setBlock w b (.map es1 clock1)) b (.map es' clock')=w':=by rw [<-hw'];simp [ChangeMaps.setBlock]
 refine ⟨v0,st,_,_,hE,h1,?_,⟨es,clock,es1,clock1,hb,rfl⟩,?_⟩
 ·rw [hw2]
  exact ⟨_,k1,hD.put O hown0.isMap hx y⟩
 ·rw [hw2];exact k2
theorem Qda {w w':World} {b:Nat} (h:w.mapTurned w' b):Out (λ k=>k=b) w w':=
 ⟨h.grown.os,h.grown.tape,h.grown.output,h.grown.size,λ k hk hn=>h.grown.block k hk (by simpa using hn)⟩
theorem Qpb {w w':World} {b:Nat} (h:w.mapTurned w' b):w'.heap.size=w.heap.size:=by
 obtain ⟨es,clock,es',clock',hb,rfl⟩:=h;simp [ChangeMaps.setBlock]
def Coll (K:Kd) (D:DataW Value) (left:Lit->Bool) (xs:List Pr):Prop:=xs.Nodup/\∀x,x∈xs↔K.ok x/\Maps.has D (K.kl x)=true/\left (K.kl x)=false
theorem Coll.start (K:Kd) (D:DataW Value):Coll K D (Maps.has D) []:=⟨List.nodup_nil,λ x=>by
 constructor
 ·intro h;cases h
 ·rintro ⟨_,h1,h2⟩;rw [h1] at h2;cases h2⟩
theorem Coll.step (O:KdOk K) {D:DataW Value} {left:Lit->Bool} {xs:List Pr} (h:Coll K D left xs) {x:Pr} (hx:K.ok x) (hl:left (K.kl x)=true) {y:DataW Value} (hat:∀zd,D.atKey (K.kl x) zd=y) :
  Coll K D (λ z=>left z && !z.sameKey (K.kl x)) (xs ++ [x]):=by
 obtain ⟨h1,h2⟩:=h;have hno:x∉xs:=λ hm=>by have:=((h2 x).1 hm).2.2;rw [hl] at this;cases this
 refine ⟨?_,λ x'=>?_⟩
 ·rw [List.nodup_append]
  refine ⟨h1,by simp,λ a ha c hc=>?_⟩
  have:c=x:=by simpa using hc
  subst this;rintro rfl;exact hno ha
 ·rw [List.mem_append,h2,List.mem_singleton]
  by_cases he:x'=x
  ·subst he
   simp only [hx,Maps.has_true_of_atKey hat,WideAt.sameKey_self (O.isKey hx)]
   simp
  ·constructor
   ·rintro (⟨k1,k2,k3⟩ | h)
    ·exact ⟨k1,k2,by simp [k3]⟩
    ·exact absurd h he
   ·rintro ⟨k1,k2,k3⟩
    refine .inl ⟨k1,k2,?_⟩
    have hne:K.kl x'≠K.kl x:=λ e=>he (O.inj k1 hx e)
    simp only [Maps.sameKey_ne hne] at k3
    simpa using k3
theorem Coll.all {D:DataW Value} {left:Lit->Bool} {xs:List Pr} (h:Coll K D left xs) (hD:DIs K D M) (hl:∀kl,left kl=false) (x:Pr):x∈xs↔K.ok x/\∃y,M x y:=by
 rw [h.2];constructor
 ·rintro ⟨h1,h2,_⟩;exact ⟨h1,((hD x h1).1).1 h2⟩
 ·rintro ⟨h1,h2⟩;exact ⟨h1,((hD x h1).1).2 h2,hl _⟩
end
def kN:Kd:=⟨153,158,163,.u32,.u64,.i64,.i64⟩
def kS:Kd:=⟨154,163,158,.i64,.i64,.u32,.u64⟩
theorem okN:KdOk kN:=⟨Tryz.lawN,Tryz.underlying153,Tryz.zeroValue163,λ x hx=>Q1j hx.1 hx.2,λ v l h=>Qlh h⟩
theorem okS:KdOk kS:=⟨Tryz.lawS,Tryz.underlying154,Tryz.zeroValue158,λ x hx=>Q1u hx.1 hx.2,λ v l h=>Qzs h⟩
theorem Qf8 {x:Pr} (h:Qel x):kN.ok x:=by
 obtain ⟨⟨h1,h2⟩,h3,h4⟩:=h;exact ⟨WalkArith.wf_u32 (by omega),WalkArith.wf_u64 (by omega)⟩
theorem Qk8 {x:Pr} (h:Qj8 x):kS.ok x:=by
 obtain ⟨⟨h1,h2⟩,h3,h4⟩:=h;exact ⟨WalkArith.wf_i64 (by omega),WalkArith.wf_i64 (by omega)⟩
end
section
def prL (q0 q1:IntKind) (x:Pr):List Value:=[.int q0 x.1,.int q1 x.2]
structure LmP (w:World) (p b1 b2:Nat) (S:List Pl) (c:Nat):Prop where
 hp:Blk w p [.map (some b1),.map (some b2)] 156
 m1:MapIs kN w b1 c (λ n s=>(n,s)∈S)
 m2:MapIs kS w b2 c (λ s n=>(n,s)∈S)
 ne:b1≠b2
 good:Good S
section
variable {w w':World} {p b1 b2:Nat} {S:List Pl} {c:Nat}
theorem LmP.same (h:LmP w p b1 b2 S c) (hs:∀k,k=p\/k=b1\/k=b2->w'.heap[k]?=w.heap[k]?):LmP w' p b1 b2 S c:=
 ⟨by unfold Blk;rw [hs p (.inl rfl)];exact h.hp,h.m1.same (hs b1 (.inr (.inl rfl))),h.m2.same (hs b2 (.inr (.inr rfl))),h.ne,h.good⟩
theorem LmP.lt (h:LmP w p b1 b2 S c):∀k,k=p\/k=b1\/k=b2->k<w.heap.size:=by
 rintro k (rfl | rfl | rfl)
 ·exact h.hp.lt
 ·exact h.m1.lt
 ·exact h.m2.lt
theorem LmP.below (h:LmP w p b1 b2 S c) (hb:Below w.heap.size w w'):LmP w' p b1 b2 S c:=h.same (λ k hk=>hb.block k (h.lt k hk))
theorem LmP.out {O:Nat->Prop} (h:LmP w p b1 b2 S c) (ho:Out O w w') (hn:∀k,k=p\/k=b1\/k=b2->¬O k):LmP w' p b1 b2 S c:=h.same (λ k hk=>ho.block k (h.lt k hk) (hn k hk))
theorem LmP.alloc (h:LmP w p b1 b2 S c) (o:Obj):LmP (w.alloc o) p b1 b2 S c:=h.below ((Below.refl _ _).alloc (Nat.le_refl _) o)
theorem LmP.drew (h:LmP w p b1 b2 S c):LmP w.drew p b1 b2 S c:=h.same (λ _ _=>rfl)
theorem LmP.mono {c':Nat} (h:LmP w p b1 b2 S c) (hc:c<=c'):LmP w p b1 b2 S c':=⟨h.hp,h.m1.mono hc,h.m2.mono hc,h.ne,h.good⟩
theorem LmP.lookN (h:LmP w p b1 b2 S c) {n:Pr} (hn:Qel n):(Instr.lookup 153 (.map (some b1)) (.agg #[.int .u32 n.1,.int .u64 n.2]) true).run prog w=.ok (.tuple #[.agg #[.int .i64 ((getS S n).getD (0,0)).1,.int .i64 ((getS S n).getD (0,0)).2],.bool (getS S n).isSome]) w:=
 h.m1.look okN (Qf8 hn) (getS S n) (λ y=>Qej h.good)
theorem LmP.lookN1 (h:LmP w p b1 b2 S c) {n:Pr} (hn:Qel n):(Instr.lookup 153 (.map (some b1)) (.agg #[.int .u32 n.1,.int .u64 n.2]) false).run prog w=.ok (.agg #[.int .i64 ((getS S n).getD (0,0)).1,.int .i64 ((getS S n).getD (0,0)).2]) w:=
 h.m1.look1 okN (Qf8 hn) (getS S n) (λ y=>Qej h.good)
theorem LmP.lookS (h:LmP w p b1 b2 S c) {s:Pr} (hs:Qj8 s):(Instr.lookup 154 (.map (some b2)) (.agg #[.int .i64 s.1,.int .i64 s.2]) true).run prog w=.ok (.tuple #[.agg #[.int .u32 ((atS S s).getD (0,0)).1,.int .u64 ((atS S s).getD (0,0)).2],.bool (atS S s).isSome]) w:=
 h.m2.look okS (Qk8 hs) (atS S s) (λ y=>Qh6 h.good)
end
theorem Qpf (w:World):Calls prog 122 #[] w λ e w'=>∃p b1 b2,e=.returned (.pointer (some ⟨p,0,none⟩))/\LmP w' p b1 b2 [] 0/\Below w.heap.size w w'/\w.heap.size<=p/\w.heap.size<=b1/\w.heap.size<=b2:=by
 have hmm:=@run_makeMap prog;go_enter func122,ntmps122
 go_wp2
 go_ret
 have e1:=(MapIs.made kN w).congr (M':=λ n s=>(n,s)∈([]:List Pl)) (λ x y _=>by simp);have e2:=(MapIs.made kS (w.alloc (.map #[] 0))).congr (M':=λ s n=>(n,s)∈([]:List Pl)) (λ x y _=>by simp);have s1:(w.alloc (.map #[] 0)).heap.size=w.heap.size+1:=by simp
 rw [s1] at e2;refine ⟨w.heap.size+2,w.heap.size,w.heap.size+1,rfl,⟨?_,?_,?_,by omega,good_nil⟩,?_,by omega,by omega,by omega⟩
 ·exact Blk.new' (by simp) rfl
 ·exact (e1.same (Below.heap_alloc _ _ _ e1.lt)).same (Below.heap_alloc _ _ _ (Nat.lt_of_lt_of_le e1.lt (by simp)))
 ·exact e2.same (Below.heap_alloc _ _ _ e2.lt)
 ·exact (((Below.refl _ _).alloc (Nat.le_refl _) _).alloc (by simp) _).alloc (by simp;omega) _
theorem Qvv (n s:Pr) (w:World):Calls prog 87 #[.agg #[.int .u32 n.1,.int .u64 n.2],.agg #[.int .i64 s.1,.int .i64 s.2]] w λ e w'=>e=.returned (.agg #[.int .u32 n.1,.int .u64 n.2,.int .i64 s.1,.int .i64 s.2])/\Below w.heap.size w w':=by
 have hB:Blk (((w.alloc (.cells #[.int .u32 n.1,.int .u64 n.2] 158)).alloc (.cells #[.int .i64 s.1,.int .i64 s.2] 163)).alloc (.cells #[.int .u32 n.1,.int .u64 n.2,.int .i64 s.1,.int .i64 s.2] 137)) (w.heap.size+1+1) (plL (n,s)) 137:=Blk.new' (by simp) rfl;have hb:Below w.heap.size w (((w.alloc (.cells #[.int .u32 n.1,.int .u64 n.2] 158)).alloc (.cells #[.int .i64 s.1,.int .i64 s.2] 163)).alloc (.cells #[.int .u32 n.1,.int .u64 n.2,.int .i64 s.1,.int .i64 s.2] 137)):=(((Below.refl _ _).alloc (Nat.le_refl _) _).alloc (by simp) _).alloc (by simp;omega) _;have H:=Jh2 hB hb;clear hB hb;go_enter func87,ntmps87
 go_wp2
 exact bodyPost_ret (Qap (p:=4) (ty:=137) rfl _ _ _ _ _ _ rfl H.out.1 Tryz.underlying137 rfl Tryz.info_place) rfl ⟨rfl,H.out.2⟩
theorem Q1z (p b1 b2:Nat) (S:List Pl) (c:Nat) (n:Pr) (w:World) (h:LmP w p b1 b2 S c) (hn:Qel n) :
  Calls prog 89 #[.pointer (some ⟨p,0,none⟩),.int .u32 n.1,.int .u64 n.2] w λ e w'=>e=.returned (.tuple #[.agg #[.int .i64 ((getS S n).getD (0,0)).1,.int .i64 ((getS S n).getD (0,0)).2],.bool (getS S n).isSome])/\Below w.heap.size w w':=by
 have c0:=(h.alloc (.cells #[.int .i64 0,.int .i64 0] 85)).hp.cell 0;have hl:=(h.alloc (.cells #[.int .i64 0,.int .i64 0] 85)).lookN hn;simp only [List.getElem?_cons_zero] at c0
 clear h hn;generalize (getS S n).isSome=o at hl ⊢;generalize (getS S n).getD (0,0)=s at hl ⊢;have hB:Blk ((w.alloc (.cells #[.int .i64 s.1,.int .i64 s.2] 85)).alloc (.cells #[.int .i64 s.1,.int .i64 s.2] 163)) w.heap.size (prL .i64 .i64 s) 85:=(Blk.new' rfl rfl).alloc _;have hb:Below w.heap.size w ((w.alloc (.cells #[.int .i64 s.1,.int .i64 s.2] 85)).alloc (.cells #[.int .i64 s.1,.int .i64 s.2] 163)):=(((Below.refl _ _).alloc (Nat.le_refl _) _).alloc (by simp) _)
 have H:=Jh2 hB hb;clear hB hb;go_enter func89,ntmps89
 go_wp2
 exact bodyPost_ret (Qad (p:=6) (u:=7) (ty:=85) rfl _ _ _ _ _ _ rfl H.out.1 Tryz.underlying85 rfl Tryz.info_addr _ rfl) rfl ⟨rfl,H.out.2⟩
end
def Two (b1 b2:Nat):Nat->Prop:=λ k=>k=b1\/k=b2
theorem LmP.drop1 {w:World} {p b1 b2:Nat} {S:List Pl} {c:Nat} (h:LmP w p b1 b2 S c) {n s:Pr} (hn:Qel n) (hg:getS S n=some s) (ty:TypeId) :
  ∃w1,(Builtin.delete_ #[153,158] ty #[.map (some b1),.agg #[.int .u32 n.1,.int .u64 n.2]]).run prog w=.ok (.tuple #[]) w1/\Out (Two b1 b2) w w1/\w1.heap.size=w.heap.size/\Blk w1 p [.map (some b1),.map (some b2)] 156/\
   ∀w1':World,(∀k,k=p\/k=b1\/k=b2->w1'.heap[k]?=w1.heap[k]?)->∀ty',∃w2,(Builtin.delete_ #[154,163] ty' #[.map (some b2),.agg #[.int .i64 s.1,.int .i64 s.2]]).run prog w1'=.ok (.tuple #[]) w2/\LmP w2 p b1 b2 (Qax S n) c/\Out (Two b1 b2) w1' w2:=by
 have hm:=(Qej h.good).1 hg;have hs:Qj8 s:=(h.good.fits _ hm).2;obtain ⟨w1,hr,k1,k2⟩:=h.m1.drop okN (Qf8 hn) ty;have o1:=Qda k2;have hp1:=o1.blk h.hp (h.m1.no_blk h.hp);have m2':MapIs kS w1 b2 c (λ s n=>(n,s)∈S):=h.m2.same (o1.block b2 h.m2.lt (λ e=>h.ne e.symm));refine ⟨w1,hr,o1.mono (λ j e _=>.inl e),Qpb k2,hp1,λ w1' hs1 ty'=>?_⟩
 have hp1':Blk w1' p [.map (some b1),.map (some b2)] 156:=by unfold Blk;rw [hs1 p (.inl rfl)];exact hp1
 have m1':=k1.same (hs1 b1 (.inr (.inl rfl)));have m2'':=m2'.same (hs1 b2 (.inr (.inr rfl)));obtain ⟨w2,hr2,j1,j2⟩:=m2''.drop okS (Qk8 hs) ty';have o2:=Qda j2;refine ⟨w2,hr2,⟨o2.blk hp1' (m2''.no_blk hp1'),(m1'.same (o2.block b1 m1'.lt h.ne)).congr (λ x y _=>?_),j1.congr (λ x y _=>?_),h.ne,h.good.drop n⟩,o2.mono (λ j e _=>.inr e)⟩
 ·rw [Qbs]
 ·rw [Qbs]
  constructor
  ·rintro ⟨h1,h2⟩
   refine ⟨h1,λ e=>h2 ?_⟩
   have:=h.good.one_name h1 hm e;exact (congrArg Prod.snd this)
  ·rintro ⟨h1,h2⟩
   refine ⟨h1,λ e=>h2 ?_⟩
   have:=h.good.one_spot h1 hm e;exact (congrArg Prod.fst this)
theorem Qht (p b1 b2:Nat) (S:List Pl) (c:Nat) (n:Pr) (w:World) (h:LmP w p b1 b2 S c) (hn:Qel n) :
  Calls prog 193 #[.pointer (some ⟨p,0,none⟩),.agg #[.int .u32 n.1,.int .u64 n.2]] w λ e w'=>e=.returned (.bool (getS S n).isSome)/\LmP w' p b1 b2 (Qax S n) c/\Out (Two b1 b2) w w':=by
 have hh:=h.alloc (.cells #[.int .u32 n.1,.int .u64 n.2] 158);have c0:=hh.hp.cell 0;have hl:=hh.drew.lookN hn;have hh2:=hh.alloc (.cells #[.int .i64 0,.int .i64 0] 163);have d0:=hh2.hp.cell 0;have hl2:=hh2.drew.lookN hn;simp only [List.getElem?_cons_zero] at c0 d0
 cases ho:getS S n with
 | none=>
  simp only [ho,Option.getD_none,Option.isSome_none] at hl hl2
  have H:Hid (LmP ((w.alloc (.cells #[.int .u32 n.1,.int .u64 n.2] 158)).alloc (.cells #[.int .i64 0,.int .i64 0] 163)).drew p b1 b2 (Qax S n) c/\Out (Two b1 b2) w ((w.alloc (.cells #[.int .u32 n.1,.int .u64 n.2] 158)).alloc (.cells #[.int .i64 0,.int .i64 0] 163)).drew):=
   ⟨by rw [Qnq ho];exact hh2.drew,(((Out.refl _ _).alloc _).alloc _).drew⟩
  clear hh hh2 ho h;go_enter func193,ntmps193
  go_wp2
  go_region
  all_goals go_wp2
  all_goals go_ret
  all_goals exact ⟨rfl,H.out⟩
 | some s=>
  simp only [ho,Option.getD_some,Option.isSome_some] at hl hl2
  have hV:LmP ((w.alloc (.cells #[.int .u32 n.1,.int .u64 n.2] 158)).alloc (.cells #[.int .i64 s.1,.int .i64 s.2] 163)).drew p b1 b2 S c:=(hh.alloc _).drew;have oV:Out (Two b1 b2) w ((w.alloc (.cells #[.int .u32 n.1,.int .u64 n.2] 158)).alloc (.cells #[.int .i64 s.1,.int .i64 s.2] 163)).drew:=(((Out.refl _ _).alloc _).alloc _).drew;have bN:Blk ((w.alloc (.cells #[.int .u32 n.1,.int .u64 n.2] 158)).alloc (.cells #[.int .i64 s.1,.int .i64 s.2] 163)).drew w.heap.size (prL .u32 .u64 n) 158:=((Blk.new' rfl rfl).alloc _).drew;have bS:Blk ((w.alloc (.cells #[.int .u32 n.1,.int .u64 n.2] 158)).alloc (.cells #[.int .i64 s.1,.int .i64 s.2] 163)).drew (w.heap.size+1) (prL .i64 .i64 s) 163:=(Blk.new' (by simp) rfl).drew;have H:=Jh5 hV oV bN bS ho;clear hh hh2 h hV oV bN bS ho;go_enter func193,ntmps193
  go_wp2
  go_region
  all_goals go_wp2_with fail
  all_goals generalize ((w.alloc (.cells #[.int .u32 n.1,.int .u64 n.2] 158)).alloc (.cells #[.int .i64 s.1,.int .i64 s.2] 163)).drew=V at H ⊢
  all_goals clear hl hl2 c0 d0
  all_goals obtain ⟨hV,oV,bN,bS,ho⟩:=H.out
  all_goals clear H
  all_goals obtain ⟨W,hd1,oW,sW,pW,next⟩:=hV.drew.drop1 hn ho 0
  all_goals have c0:=hV.hp.cell 0
  all_goals have n0:=bN.cell 0
  all_goals have n1:=bN.cell 1
  all_goals simp only [prL,List.getElem?_cons_zero,List.getElem?_cons_succ] at c0 n0 n1
  all_goals go_region
  all_goals go_wp2_with fail
  all_goals have bS2:Blk W (w.heap.size+1) (prL .i64 .i64 s) 163:=oW.blk bS.drew (λ e=>by rcases e with e | e;exact hV.m1.no_blk bS e;exact hV.m2.no_blk bS e)
  all_goals obtain ⟨Z,hd2,hZ,oZ⟩:=next W.drew (λ _ _=>rfl) 0
  all_goals have c1:=pW.cell 1
  all_goals have s0:=bS2.cell 0
  all_goals have s1:=bS2.cell 1
  all_goals have HZ:Hid (LmP Z p b1 b2 (Qax S n) c/\Out (Two b1 b2) w Z):=⟨hZ,((oV.drew).trans oW (λ j e=>.inl e)).drew.trans oZ (λ j e=>.inl e)⟩
  all_goals simp only [prL,List.getElem?_cons_zero,List.getElem?_cons_succ] at c1 s0 s1
  all_goals clear hV oV bN bS ho hd1 oW sW pW next c0 n0 n1 bS2 hZ oZ
  all_goals go_region
  all_goals go_wp2
  all_goals go_ret
  all_goals exact ⟨rfl,HZ.out⟩
theorem Qrv (p b1 b2:Nat) (S:List Pl) (c:Nat) (n:Pr) (w:World) (h:LmP w p b1 b2 S c) (hn:Qel n) :
  Calls prog 140 #[.pointer (some ⟨p,0,none⟩),.int .u32 n.1,.int .u64 n.2] w λ e w'=>e=.returned (.bool (getS S n).isSome)/\LmP w' p b1 b2 (Qax S n) c/\Out (Two b1 b2) w w':=by
 have C:=Qht p b1 b2 S c n w h hn;clear h hn;go_enter func140,ntmps140
 go_wp2_with fail
 refine C.mono ?_
 rintro e w' ⟨rfl,hx⟩;have H:=Jh1 hx;clear hx C;go_wp2
 go_ret
 exact ⟨rfl,H.out⟩
theorem LmP.put1 {w:World} {p b1 b2:Nat} {S:List Pl} {c:Nat} (h:LmP w p b1 b2 S c) {x:Pl} (hx:Qdu x) (hc:c<100000) (h1:getS S x.1=none) (h2:atS S x.2=none) (S':List Pl) (gS:Good S') (hS':∀q,q∈S'↔q=x\/q∈S) :
  ∃(v1 v2:Value) (s1 s2:Nat) (w1 w2 w3 w4:World),(Instr.mapEntry 153 (.map (some b1)) (.agg #[.int .u32 x.1.1,.int .u64 x.1.2])).run prog w=.ok (.tuple #[v1,Value.int .i64 (s1:Int)]) w1/\
   (Instr.entryStore 153 (.map (some b1)) (.int .i64 (s1:Int)) (.agg #[.int .i64 x.2.1,.int .i64 x.2.2])).run prog w1=.ok () w2/\
   (Instr.mapEntry 154 (.map (some b2)) (.agg #[.int .i64 x.2.1,.int .i64 x.2.2])).run prog w2=.ok (.tuple #[v2,Value.int .i64 (s2:Int)]) w3/\
   (Instr.entryStore 154 (.map (some b2)) (.int .i64 (s2:Int)) (.agg #[.int .u32 x.1.1,.int .u64 x.1.2])).run prog w3=.ok () w4/\
   LmP w4 p b1 b2 S' (c+1)/\Out (Two b1 b2) w w1/\Out (Two b1 b2) w w2/\Out (Two b1 b2) w w3/\Out (Two b1 b2) w w4:=by
 obtain ⟨v1,s1,w1,w2,e1,e2,k1,t1,t2⟩:=h.m1.entry okN (Qf8 hx.1) x.2 (by omega);have o2:=Qda t2;have hp2:=o2.blk h.hp (h.m1.no_blk h.hp);have m2':MapIs kS w2 b2 c (λ s n=>(n,s)∈S):=h.m2.same (o2.block b2 h.m2.lt (λ e=>h.ne e.symm));obtain ⟨v2,s2,w3,w4,e3,e4,k2,t3,t4⟩:=m2'.entry okS (Qk8 hx.2) x.1 (by omega);have o4:=Qda t4;refine ⟨v1,v2,s1,s2,w1,w2,w3,w4,e1,e2,e3,e4,⟨o4.blk hp2 (m2'.no_blk hp2),(k1.same (o4.block b1 k1.lt h.ne)).congr (λ n s _=>?_),k2.congr (λ s n _=>?_),h.ne,gS⟩,(Qda t1).mono (λ j e _=>.inl e),o2.mono (λ j e _=>.inl e),(o2.mono (λ j e _=>.inl e)).trans ((Qda t3).mono (O':=Two b1 b2) (λ j e _=>.inr e)) (λ j e=>.inl e),(o2.mono (λ j e _=>.inl e)).trans (o4.mono (O':=Two b1 b2) (λ j e _=>.inr e)) (λ j e=>.inl e)⟩
 ·rw [hS']
  constructor
  ·rintro (⟨rfl,rfl⟩ | ⟨_,hm⟩)
   ·exact .inl rfl
   ·exact .inr hm
  ·rintro (e | hm)
   ·exact .inl ⟨congrArg Prod.fst e,congrArg Prod.snd e⟩
   ·refine .inr ⟨λ e=>?_,hm⟩
    exact Qgp.1 h1 s (by rw [<-e];exact hm)
 ·rw [hS']
  constructor
  ·rintro (⟨rfl,rfl⟩ | ⟨_,hm⟩)
   ·exact .inl rfl
   ·exact .inr hm
  ·rintro (e | hm)
   ·exact .inl ⟨congrArg Prod.snd e,congrArg Prod.fst e⟩
   ·refine .inr ⟨λ e=>?_,hm⟩
    exact Qlu.1 h2 n (by rw [<-e];exact hm)
theorem Q1q {S:List Pl} (g:Good S) (x:Pl) {n:Pr} (ha:atS (Qax S x.1) x.2=some n) (q:Pl):q∈putS S x↔q=x\/q∈Qax (Qax S x.1) n:=by
 have hm:=(Qh6 (g.drop x.1)).1 ha;rw [Qmo g,Qbs,Qbs];constructor
 ·rintro (h | ⟨h1,h2,h3⟩)
  ·exact .inl h
  ·refine .inr ⟨⟨h1,h2⟩,λ e=>h3 ?_⟩
   have:=g.one_name h1 (Qbs.1 hm).1 e;rw [this]
 ·rintro (h | ⟨⟨h1,h2⟩,h3⟩)
  ·exact .inl h
  ·refine .inr ⟨h1,h2,λ e=>h3 ?_⟩
   have:=g.one_spot h1 (Qbs.1 hm).1 e;rw [this]
theorem Qyc {S:List Pl} (g:Good S) (x:Pl) (ha:atS (Qax S x.1) x.2=none) (q:Pl):q∈putS S x↔q=x\/q∈Qax S x.1:=by
 rw [Qmo g,Qbs];constructor
 ·rintro (h | ⟨h1,h2,h3⟩)
  ·exact .inl h
  ·exact .inr ⟨h1,h2⟩
 ·rintro (h | ⟨h1,h2⟩)
  ·exact .inl h
  ·exact .inr ⟨h1,h2,λ e=>Qlu.1 ha q.1 (Qbs.2 ⟨by rw [<-e];exact h1,h2⟩)⟩
theorem Qxs (S:List Pl) (n:Pr):getS (Qax S n) n=none:=Qgp.2 (λ s h=>(Qbs.1 h).2 rfl)
theorem Qu7 (S:List Pl) (n m:Pr):getS (Qax (Qax S n) m) n=none:=Qgp.2 (λ s h=>(Qbs.1 (Qbs.1 h).1).2 rfl)
theorem Q0g {S:List Pl} (g:Good S) {x:Pr} {m:Pr} (h:atS S x=some m):atS (Qax S m) x=none:=Qlu.2 (λ n hm=>(Qbs.1 hm).2 (by
 have:=g.one_spot (Qbs.1 hm).1 ((Qh6 g).1 h) rfl;exact congrArg Prod.fst this))
def PutA (w:World) (p b1 b2:Nat) (S:List Pl) (c:Nat) (x:Pl) (g1 g2:Nat) (wr:World):Prop:=
 LmP wr p b1 b2 S c/\Blk wr g1 (prL .u32 .u64 x.1) 158/\Blk wr g2 (prL .i64 .i64 x.2) 163/\w.heap.size<=g1/\w.heap.size<=g2/\Out (Two b1 b2) w wr
set_option maxHeartbeats 4000000 in
theorem Qmg (p b1 b2:Nat) (S:List Pl) (c:Nat) (x:Pl) (w:World) (h:LmP w p b1 b2 S c) (hx:Qdu x) (hc:c<100000) :
  Calls prog 123 #[.pointer (some ⟨p,0,none⟩),.agg #[.int .u32 x.1.1,.int .u64 x.1.2,.int .i64 x.2.1,.int .i64 x.2.2]] w λ e w'=>e=.returned (.tuple #[])/\LmP w' p b1 b2 (putS S x) (c+1)/\Out (Two b1 b2) w w':=by
 have H:=Jh1 h;clear h;go_enter func123,ntmps123
 go_wp2
 go_cut [4,5] (λ s4 s5 wr=>∃g1 g2,s4=.pointer (some ⟨g1,0,none⟩)/\s5=.pointer (some ⟨g2,0,none⟩)/\PutA w p b1 b2 S c x g1 g2 wr)
 case first=>
  go_region
  all_goals go_wp2_with fail
  all_goals go_meet
  all_goals first
   | (refine ⟨w.heap.size+1+1,w.heap.size+1,rfl,rfl,(((H.out.alloc _).alloc _).alloc _).drew,(Blk.new' (by simp) rfl).drew,((Blk.new' (by simp) rfl).alloc _).drew,by omega,by omega,((((Out.refl _ _).alloc _).alloc _).alloc _).drew⟩;done)
   | (refine ⟨w.heap.size+1,w.heap.size+1+1,rfl,rfl,(((H.out.alloc _).alloc _).alloc _).drew,((Blk.new' (by simp) rfl).alloc _).drew,(Blk.new' (by simp) rfl).drew,by omega,by omega,((((Out.refl _ _).alloc _).alloc _).alloc _).drew⟩;done)
 case rest=>
  obtain ⟨g1,g2,rfl,rfl,hA⟩:=hcut;clear H;have C:=Qht p b1 b2 S c x.1 wc hA.1 hx.1;have n0:=hA.2.1.cell 0;have n1:=hA.2.1.cell 1;simp only [prL,List.getElem?_cons_zero,List.getElem?_cons_succ] at n0 n1
  have HA:=Jh1 hA;clear hA;go_wp2_with fail
  refine C.mono ?_
  rintro e V ⟨rfl,hV,oV⟩;have aV:PutA w p b1 b2 (Qax S x.1) c x g1 g2 V:=by
   obtain ⟨h0,h1,h2,h3,h4,h5⟩:=HA.out;refine ⟨hV,oV.blk h1 ?_,oV.blk h2 ?_,h3,h4,h5.trans oV (λ j e=>.inl e)⟩
   ·rintro (e | e)
    ·exact h0.m1.no_blk h1 e
    ·exact h0.m2.no_blk h1 e
   ·rintro (e | e)
    ·exact h0.m1.no_blk h2 e
    ·exact h0.m2.no_blk h2 e
  have HS:=Jh1 HA.out.1.good;clear HA C n0 n1 hV oV;have hl:=aV.1.drew.lookS hx.2;have c1:=aV.1.hp.cell 1;have hl2:=(aV.1.alloc (.cells #[.int .u32 0,.int .u64 0] 158)).drew.lookS hx.2;have d1:=(aV.1.alloc (.cells #[.int .u32 0,.int .u64 0] 158)).hp.cell 1;have s0:=aV.2.2.1.cell 0;have s1:=aV.2.2.1.cell 1;have s0':=(aV.2.2.1.alloc (.cells #[.int .u32 0,.int .u64 0] 158)).cell 0;have s1':=(aV.2.2.1.alloc (.cells #[.int .u32 0,.int .u64 0] 158)).cell 1;simp only [prL,List.getElem?_cons_zero,List.getElem?_cons_succ] at c1 d1 s0 s1 s0' s1'
  have HV:=Jh1 aV;clear aV;go_wp2_with fail
  cases ho:atS (Qax S x.1) x.2 with
  | none=>
   simp only [ho,Option.getD_none,Option.isSome_none] at hl hl2
   go_cut [6,7] (λ s6 s7 wr=>s6=.pointer (some ⟨V.heap.size,0,none⟩)/\s7=.bool false/\wr=(V.alloc (.cells #[.int .u32 0,.int .u64 0] 158)).drew)
   case first=>
    clear ho;go_region
    all_goals go_wp2_with fail
    all_goals go_meet
    all_goals exact ⟨rfl,rfl,rfl⟩
   case rest=>
    obtain ⟨rfl,rfl,rfl⟩:=hcut;obtain ⟨h0,h1,h2,h3,h4,h5⟩:=HV.out;have HY:Hid (PutA w p b1 b2 (Qax S x.1) c x g1 g2 (V.alloc (.cells #[.int .u32 0,.int .u64 0] 158)).drew):=⟨(h0.alloc _).drew,(h1.alloc _).drew,(h2.alloc _).drew,h3,h4,(h5.alloc _).drew⟩
    have hg0:=Qxs S x.1;have ha0:=ho;have hmem:=Qyc HS.out x ho;clear h0 h1 h2 h3 h4 h5 ho hl hl2 c1 d1 s0 s1 s0' s1' HV;generalize (V.alloc (.cells #[.int .u32 0,.int .u64 0] 158)).drew=Y at HY ⊢;go_wp2_with fail
    obtain ⟨h0,h1,h2,h3,h4,h5⟩:=HY.out;obtain ⟨v1,v2,k1,k2,Y1,Y2,Y3,Y4,e1,e2,e3,e4,hQ,o1,o2,o3,o4⟩:=h0.drew.put1 hx hc hg0 ha0 (putS S x) (HS.out.put hx) hmem;have nb:∀g,g=g1\/g=g2\/g=p->¬Two b1 b2 g:=by
     rintro g (rfl | rfl | rfl) (e | e)
     ·exact h0.m1.no_blk h1 e
     ·exact h0.m2.no_blk h1 e
     ·exact h0.m1.no_blk h2 e
     ·exact h0.m2.no_blk h2 e
     ·exact h0.m1.no_blk h0.hp e
     ·exact h0.m2.no_blk h0.hp e
    have HQ:Hid (LmP Y4 p b1 b2 (putS S x) (c+1)/\Out (Two b1 b2) w Y4):=⟨hQ,h5.drew.trans o4 (λ j e=>.inl e)⟩
    have fp0Y:=h0.hp.cell 0;have fp1Y:=h0.hp.cell 1;have fn0Y:=h1.cell 0;have fn1Y:=h1.cell 1;have fs0Y:=h2.cell 0;have fs1Y:=h2.cell 1;have fp0Y1:=(o1.blk h0.hp.drew (nb _ (.inr (.inr rfl)))).cell 0;have fp1Y1:=(o1.blk h0.hp.drew (nb _ (.inr (.inr rfl)))).cell 1;have fn0Y1:=(o1.blk h1.drew (nb _ (.inl rfl))).cell 0;have fn1Y1:=(o1.blk h1.drew (nb _ (.inl rfl))).cell 1;have fs0Y1:=(o1.blk h2.drew (nb _ (.inr (.inl rfl)))).cell 0;have fs1Y1:=(o1.blk h2.drew (nb _ (.inr (.inl rfl)))).cell 1;have fp0Y2:=(o2.blk h0.hp.drew (nb _ (.inr (.inr rfl)))).cell 0;have fp1Y2:=(o2.blk h0.hp.drew (nb _ (.inr (.inr rfl)))).cell 1;have fn0Y2:=(o2.blk h1.drew (nb _ (.inl rfl))).cell 0;have fn1Y2:=(o2.blk h1.drew (nb _ (.inl rfl))).cell 1;have fs0Y2:=(o2.blk h2.drew (nb _ (.inr (.inl rfl)))).cell 0;have fs1Y2:=(o2.blk h2.drew (nb _ (.inr (.inl rfl)))).cell 1;have fp0Y3:=(o3.blk h0.hp.drew (nb _ (.inr (.inr rfl)))).cell 0;have fp1Y3:=(o3.blk h0.hp.drew (nb _ (.inr (.inr rfl)))).cell 1;have fn0Y3:=(o3.blk h1.drew (nb _ (.inl rfl))).cell 0;have fn1Y3:=(o3.blk h1.drew (nb _ (.inl rfl))).cell 1;have fs0Y3:=(o3.blk h2.drew (nb _ (.inr (.inl rfl)))).cell 0;have fs1Y3:=(o3.blk h2.drew (nb _ (.inr (.inl rfl)))).cell 1;simp only [prL,List.getElem?_cons_zero,List.getElem?_cons_succ] at fp0Y fp1Y fn0Y fn1Y fs0Y fs1Y fp0Y1 fp1Y1 fn0Y1 fn1Y1 fs0Y1 fs1Y1 fp0Y2 fp1Y2 fn0Y2 fn1Y2 fs0Y2 fs1Y2 fp0Y3 fp1Y3 fn0Y3 fn1Y3 fs0Y3 fs1Y3
    clear h0 h1 h2 h3 h4 h5 hQ o1 o2 o3 o4 nb HY hmem;go_region
    all_goals go_wp2
    all_goals (first | go_end0 | refine bodyPost_ret (results_none rfl _ _ _) rfl ?_)
    all_goals exact ⟨rfl,HQ.out⟩
  | some m=>
   simp only [ho,Option.getD_some,Option.isSome_some] at hl hl2
   go_cut [6,7] (λ s6 s7 wr=>s6=.pointer (some ⟨V.heap.size,0,none⟩)/\s7=.bool true/\wr=(V.alloc (.cells #[.int .u32 m.1,.int .u64 m.2] 158)).drew)
   case first=>
    clear ho;go_region
    all_goals go_wp2_with fail
    all_goals go_meet
    all_goals exact ⟨rfl,rfl,rfl⟩
   case rest=>
    obtain ⟨rfl,rfl,rfl⟩:=hcut;have hm:Qel m:=(HV.out.1.good.fits _ ((Qh6 HV.out.1.good).1 ho)).1;have C:=Qht p b1 b2 (Qax S x.1) c m ((V.alloc (.cells #[.int .u32 m.1,.int .u64 m.2] 158)).drew) (HV.out.1.alloc _).drew hm;have HO:=Jh1 ho;clear hl hl2 c1 d1 s0 s1 s0' s1' ho;go_wp2_with fail
    refine C.mono ?_
    rintro e Y ⟨rfl,hZ,oZ⟩;obtain ⟨h0,h1,h2,h3,h4,h5⟩:=HV.out;have HY:Hid (PutA w p b1 b2 (Qax (Qax S x.1) m) c x g1 g2 Y):=by
     refine ⟨hZ,oZ.blk (h1.alloc _).drew ?_,oZ.blk (h2.alloc _).drew ?_,h3,h4,(h5.alloc _).drew.trans oZ (λ j e=>.inl e)⟩
     ·rintro (e | e)
      ·exact h0.m1.no_blk h1 e
      ·exact h0.m2.no_blk h1 e
     ·rintro (e | e)
      ·exact h0.m1.no_blk h2 e
      ·exact h0.m2.no_blk h2 e
    have hg0:=Qu7 S x.1 m;have ha0:=Q0g h0.good HO.out;have hmem:=Q1q HS.out x HO.out;clear h0 h1 h2 h3 h4 h5 hZ oZ HV C HO;go_wp2_with fail
    obtain ⟨h0,h1,h2,h3,h4,h5⟩:=HY.out;obtain ⟨v1,v2,k1,k2,Y1,Y2,Y3,Y4,e1,e2,e3,e4,hQ,o1,o2,o3,o4⟩:=h0.drew.put1 hx hc hg0 ha0 (putS S x) (HS.out.put hx) hmem;have nb:∀g,g=g1\/g=g2\/g=p->¬Two b1 b2 g:=by
     rintro g (rfl | rfl | rfl) (e | e)
     ·exact h0.m1.no_blk h1 e
     ·exact h0.m2.no_blk h1 e
     ·exact h0.m1.no_blk h2 e
     ·exact h0.m2.no_blk h2 e
     ·exact h0.m1.no_blk h0.hp e
     ·exact h0.m2.no_blk h0.hp e
    have HQ:Hid (LmP Y4 p b1 b2 (putS S x) (c+1)/\Out (Two b1 b2) w Y4):=⟨hQ,h5.drew.trans o4 (λ j e=>.inl e)⟩
    have fp0Y:=h0.hp.cell 0;have fp1Y:=h0.hp.cell 1;have fn0Y:=h1.cell 0;have fn1Y:=h1.cell 1;have fs0Y:=h2.cell 0;have fs1Y:=h2.cell 1;have fp0Y1:=(o1.blk h0.hp.drew (nb _ (.inr (.inr rfl)))).cell 0;have fp1Y1:=(o1.blk h0.hp.drew (nb _ (.inr (.inr rfl)))).cell 1;have fn0Y1:=(o1.blk h1.drew (nb _ (.inl rfl))).cell 0;have fn1Y1:=(o1.blk h1.drew (nb _ (.inl rfl))).cell 1;have fs0Y1:=(o1.blk h2.drew (nb _ (.inr (.inl rfl)))).cell 0;have fs1Y1:=(o1.blk h2.drew (nb _ (.inr (.inl rfl)))).cell 1;have fp0Y2:=(o2.blk h0.hp.drew (nb _ (.inr (.inr rfl)))).cell 0;have fp1Y2:=(o2.blk h0.hp.drew (nb _ (.inr (.inr rfl)))).cell 1;have fn0Y2:=(o2.blk h1.drew (nb _ (.inl rfl))).cell 0;have fn1Y2:=(o2.blk h1.drew (nb _ (.inl rfl))).cell 1;have fs0Y2:=(o2.blk h2.drew (nb _ (.inr (.inl rfl)))).cell 0;have fs1Y2:=(o2.blk h2.drew (nb _ (.inr (.inl rfl)))).cell 1;have fp0Y3:=(o3.blk h0.hp.drew (nb _ (.inr (.inr rfl)))).cell 0;have fp1Y3:=(o3.blk h0.hp.drew (nb _ (.inr (.inr rfl)))).cell 1;have fn0Y3:=(o3.blk h1.drew (nb _ (.inl rfl))).cell 0;have fn1Y3:=(o3.blk h1.drew (nb _ (.inl rfl))).cell 1;have fs0Y3:=(o3.blk h2.drew (nb _ (.inr (.inl rfl)))).cell 0;have fs1Y3:=(o3.blk h2.drew (nb _ (.inr (.inl rfl)))).cell 1;simp only [prL,List.getElem?_cons_zero,List.getElem?_cons_succ] at fp0Y fp1Y fn0Y fn1Y fs0Y fs1Y fp0Y1 fp1Y1 fn0Y1 fn1Y1 fs0Y1 fs1Y1 fp0Y2 fp1Y2 fn0Y2 fn1Y2 fs0Y2 fs1Y2 fp0Y3 fp1Y3 fn0Y3 fn1Y3 fs0Y3 fs1Y3
    clear h0 h1 h2 h3 h4 h5 hQ o1 o2 o3 o4 nb HY hmem;go_region
    all_goals go_wp2
    all_goals (first | go_end0 | refine bodyPost_ret (results_none rfl _ _ _) rfl ?_)
    all_goals exact ⟨rfl,HQ.out⟩
theorem Qpt {S:List Pl} (g:Good S):(S.map (·.1)).Nodup:=by
 rw [List.Nodup,List.pairwise_map];exact g.names
theorem Qtr {S:List Pl} (g:Good S) {xs:List Pr} (hn:xs.Nodup) (hm:∀x,x∈xs↔kN.ok x/\∃s,(x,s)∈S):xs.Perm (S.map (·.1)):=
 Qo9 hn (Qpt g) (λ x=>by
  rw [hm,List.mem_map];constructor
  ·rintro ⟨_,s,h⟩;exact ⟨_,h,rfl⟩
  ·rintro ⟨p,hp,rfl⟩;exact ⟨Qf8 (g.fits p hp).1,p.2,hp⟩)
theorem Q4k (key:Value) (kl:Lit) (h:keyOf prog 158 key=some kl):∃x,key=(λ x:Pr=>Value.agg #[.int .u32 x.1,.int .u64 x.2]) x:=by
 obtain ⟨x,hx,_⟩:=Qlh h;exact ⟨x,hx⟩
theorem invV (v:Value) (y:DataW Value × List MemPlace) (h:Qzq v=some y):∃c,v=(λ v:Value=>v) c:=⟨v,rfl⟩
theorem Q23 {x:Pr} {kl:Lit} (h:keyOf prog 158 (.agg #[.int .u32 x.1,.int .u64 x.2])=some kl):kN.ok x/\kl=kN.kl x:=by
 obtain ⟨y,hy,h1,h2⟩:=Qlh h;have:x=y:=Qr3 hy;subst this;exact ⟨h1,h2⟩
def cN (t:Int) (xs:List Pr):Nat:=(xs.filter (λ x=>x.1 == t)).length
end Go.Proofs.YtcdnjeiamihhbaaGreat
