/- P1 -/
import Derived.Below
import Derived.ProofKit
import Derived.WalkKit
import Derived.WalkSmall
import Derived.Deep.MidRow
import Derived.Deep.Upon
import Derived.Laws.CopyOwn
import Derived.OpenShut
import Derived.Lib.SlBytesConst
import Derived.Deep.Cut
import Derived.Laws.AppendOwnNone
import Derived.Laws.BytesArg
import Derived.Lib.Bytes
import Derived.Lib.LazyBuf
import Derived.Test.YtcdnjeiamihhbaaGreatProg
import Derived.Laws.BitsAllLaws
import Derived.ArgAppend
import Derived.Laws.OwnMore
import Derived.RangeFuncBox
set_option linter.unusedVariables false
set_option maxRecDepth 4000
open Go.Proofs.Tryz
namespace Go.Proofs.YtcdnjeiamihhbaaGreat
open Go Go.RowKit
theorem Jh1 {a:Prop} (xa:a):Hid (a):=xa
theorem Jh2 {a b:Prop} (xa:a) (xb:b):Hid (a/\b):=⟨xa,xb⟩
theorem Jh3 {a b c:Prop} (xa:a) (xb:b) (xc:c):Hid (a/\b/\c):=⟨xa,xb,xc⟩
theorem Jh4 {a b c d:Prop} (xa:a) (xb:b) (xc:c) (xd:d):Hid (a/\b/\c/\d):=⟨xa,xb,xc,xd⟩
theorem Jh5 {a b c d e:Prop} (xa:a) (xb:b) (xc:c) (xd:d) (xe:e):Hid (a/\b/\c/\d/\e):=⟨xa,xb,xc,xd,xe⟩
theorem Jh6 {a b c d e f:Prop} (xa:a) (xb:b) (xc:c) (xd:d) (xe:e) (xf:f):Hid (a/\b/\c/\d/\e/\f):=⟨xa,xb,xc,xd,xe,xf⟩
theorem Jh7 {a b c d e f g:Prop} (xa:a) (xb:b) (xc:c) (xd:d) (xe:e) (xf:f) (xg:g):Hid (a/\b/\c/\d/\e/\f/\g):=⟨xa,xb,xc,xd,xe,xf,xg⟩
theorem Jh8 {a b c d e f g h:Prop} (xa:a) (xb:b) (xc:c) (xd:d) (xe:e) (xf:f) (xg:g) (xh:h):Hid (a/\b/\c/\d/\e/\f/\g/\h):=⟨xa,xb,xc,xd,xe,xf,xg,xh⟩
theorem Jh9 {a b c d e f g h i:Prop} (xa:a) (xb:b) (xc:c) (xd:d) (xe:e) (xf:f) (xg:g) (xh:h) (xi:i):Hid (a/\b/\c/\d/\e/\f/\g/\h/\i):=⟨xa,xb,xc,xd,xe,xf,xg,xh,xi⟩
theorem Jh10 {a b c d e f g h i j:Prop} (xa:a) (xb:b) (xc:c) (xd:d) (xe:e) (xf:f) (xg:g) (xh:h) (xi:i) (xj:j):Hid (a/\b/\c/\d/\e/\f/\g/\h/\i/\j):=⟨xa,xb,xc,xd,xe,xf,xg,xh,xi,xj⟩
theorem Jh11 {a b c d e f g h i j k:Prop} (xa:a) (xb:b) (xc:c) (xd:d) (xe:e) (xf:f) (xg:g) (xh:h) (xi:i) (xj:j) (xk:k):Hid (a/\b/\c/\d/\e/\f/\g/\h/\i/\j/\k):=⟨xa,xb,xc,xd,xe,xf,xg,xh,xi,xj,xk⟩
theorem Jh12 {a b c d e f g h i j k l:Prop} (xa:a) (xb:b) (xc:c) (xd:d) (xe:e) (xf:f) (xg:g) (xh:h) (xi:i) (xj:j) (xk:k) (xl:l):Hid (a/\b/\c/\d/\e/\f/\g/\h/\i/\j/\k/\l):=⟨xa,xb,xc,xd,xe,xf,xg,xh,xi,xj,xk,xl⟩
theorem Jh13 {a b c d e f g h i j k l m:Prop} (xa:a) (xb:b) (xc:c) (xd:d) (xe:e) (xf:f) (xg:g) (xh:h) (xi:i) (xj:j) (xk:k) (xl:l) (xm:m):Hid (a/\b/\c/\d/\e/\f/\g/\h/\i/\j/\k/\l/\m):=⟨xa,xb,xc,xd,xe,xf,xg,xh,xi,xj,xk,xl,xm⟩
theorem Jh14 {a b c d e f g h i j k l m n:Prop} (xa:a) (xb:b) (xc:c) (xd:d) (xe:e) (xf:f) (xg:g) (xh:h) (xi:i) (xj:j) (xk:k) (xl:l) (xm:m) (xn:n):Hid (a/\b/\c/\d/\e/\f/\g/\h/\i/\j/\k/\l/\m/\n):=⟨xa,xb,xc,xd,xe,xf,xg,xh,xi,xj,xk,xl,xm,xn⟩
theorem Jh15 {a b c d e f g h i j k l m n o:Prop} (xa:a) (xb:b) (xc:c) (xd:d) (xe:e) (xf:f) (xg:g) (xh:h) (xi:i) (xj:j) (xk:k) (xl:l) (xm:m) (xn:n) (xo:o):Hid (a/\b/\c/\d/\e/\f/\g/\h/\i/\j/\k/\l/\m/\n/\o):=⟨xa,xb,xc,xd,xe,xf,xg,xh,xi,xj,xk,xl,xm,xn,xo⟩
theorem Jh16 {a b c d e f g h i j k l m n o p:Prop} (xa:a) (xb:b) (xc:c) (xd:d) (xe:e) (xf:f) (xg:g) (xh:h) (xi:i) (xj:j) (xk:k) (xl:l) (xm:m) (xn:n) (xo:o) (xp:p):Hid (a/\b/\c/\d/\e/\f/\g/\h/\i/\j/\k/\l/\m/\n/\o/\p):=⟨xa,xb,xc,xd,xe,xf,xg,xh,xi,xj,xk,xl,xm,xn,xo,xp⟩
theorem J2 {a b c:Prop} (hh:Hid (a/\b/\c)):b:=hh.2.1
theorem J3 {a b c d:Prop} (hh:Hid (a/\b/\c/\d)):c:=hh.2.2.1
theorem J4 {a b c d e:Prop} (hh:Hid (a/\b/\c/\d/\e)):d:=hh.2.2.2.1
theorem J5 {a b c d e f:Prop} (hh:Hid (a/\b/\c/\d/\e/\f)):e:=hh.2.2.2.2.1
theorem J6 {a b c d e f g:Prop} (hh:Hid (a/\b/\c/\d/\e/\f/\g)):f:=hh.2.2.2.2.2.1
theorem J7 {a b c d e f g h:Prop} (hh:Hid (a/\b/\c/\d/\e/\f/\g/\h)):g:=hh.2.2.2.2.2.2.1
theorem J8 {a b c d e f g h i:Prop} (hh:Hid (a/\b/\c/\d/\e/\f/\g/\h/\i)):h:=hh.2.2.2.2.2.2.2.1
theorem J9 {a b c d e f g h i j:Prop} (hh:Hid (a/\b/\c/\d/\e/\f/\g/\h/\i/\j)):i:=hh.2.2.2.2.2.2.2.2.1
theorem J10 {a b c d e f g h i j k:Prop} (hh:Hid (a/\b/\c/\d/\e/\f/\g/\h/\i/\j/\k)):j:=hh.2.2.2.2.2.2.2.2.2.1
theorem J11 {a b c d e f g h i j k l:Prop} (hh:Hid (a/\b/\c/\d/\e/\f/\g/\h/\i/\j/\k/\l)):k:=hh.2.2.2.2.2.2.2.2.2.2.1
theorem J12 {a b c d e f g h i j k l m:Prop} (hh:Hid (a/\b/\c/\d/\e/\f/\g/\h/\i/\j/\k/\l/\m)):l:=hh.2.2.2.2.2.2.2.2.2.2.2.1
theorem J13 {a b c d e f g h i j k l m n:Prop} (hh:Hid (a/\b/\c/\d/\e/\f/\g/\h/\i/\j/\k/\l/\m/\n)):m:=hh.2.2.2.2.2.2.2.2.2.2.2.2.1
theorem J14 {a b c d e f g h i j k l m n o:Prop} (hh:Hid (a/\b/\c/\d/\e/\f/\g/\h/\i/\j/\k/\l/\m/\n/\o)):n:=hh.2.2.2.2.2.2.2.2.2.2.2.2.2.1
theorem J15 {a b c d e f g h i j k l m n o p:Prop} (hh:Hid (a/\b/\c/\d/\e/\f/\g/\h/\i/\j/\k/\l/\m/\n/\o/\p)):o:=hh.2.2.2.2.2.2.2.2.2.2.2.2.2.2.1
theorem Jz2 {a b c:Prop} (hh:Hid (a/\b/\c)):c:=hh.2.2
theorem Jz3 {a b c d:Prop} (hh:Hid (a/\b/\c/\d)):d:=hh.2.2.2
theorem Jz4 {a b c d e:Prop} (hh:Hid (a/\b/\c/\d/\e)):e:=hh.2.2.2.2
theorem Jz5 {a b c d e f:Prop} (hh:Hid (a/\b/\c/\d/\e/\f)):f:=hh.2.2.2.2.2
theorem Jz6 {a b c d e f g:Prop} (hh:Hid (a/\b/\c/\d/\e/\f/\g)):g:=hh.2.2.2.2.2.2
theorem Jz7 {a b c d e f g h:Prop} (hh:Hid (a/\b/\c/\d/\e/\f/\g/\h)):h:=hh.2.2.2.2.2.2.2
theorem Jz8 {a b c d e f g h i:Prop} (hh:Hid (a/\b/\c/\d/\e/\f/\g/\h/\i)):i:=hh.2.2.2.2.2.2.2.2
theorem Jz9 {a b c d e f g h i j:Prop} (hh:Hid (a/\b/\c/\d/\e/\f/\g/\h/\i/\j)):j:=hh.2.2.2.2.2.2.2.2.2
theorem Jz10 {a b c d e f g h i j k:Prop} (hh:Hid (a/\b/\c/\d/\e/\f/\g/\h/\i/\j/\k)):k:=hh.2.2.2.2.2.2.2.2.2.2
theorem Jz11 {a b c d e f g h i j k l:Prop} (hh:Hid (a/\b/\c/\d/\e/\f/\g/\h/\i/\j/\k/\l)):l:=hh.2.2.2.2.2.2.2.2.2.2.2
theorem Jz12 {a b c d e f g h i j k l m:Prop} (hh:Hid (a/\b/\c/\d/\e/\f/\g/\h/\i/\j/\k/\l/\m)):m:=hh.2.2.2.2.2.2.2.2.2.2.2.2
theorem Jz13 {a b c d e f g h i j k l m n:Prop} (hh:Hid (a/\b/\c/\d/\e/\f/\g/\h/\i/\j/\k/\l/\m/\n)):n:=hh.2.2.2.2.2.2.2.2.2.2.2.2.2
theorem Jz14 {a b c d e f g h i j k l m n o:Prop} (hh:Hid (a/\b/\c/\d/\e/\f/\g/\h/\i/\j/\k/\l/\m/\n/\o)):o:=hh.2.2.2.2.2.2.2.2.2.2.2.2.2.2
theorem Jz15 {a b c d e f g h i j k l m n o p:Prop} (hh:Hid (a/\b/\c/\d/\e/\f/\g/\h/\i/\j/\k/\l/\m/\n/\o/\p)):p:=hh.2.2.2.2.2.2.2.2.2.2.2.2.2.2.2
end Go.Proofs.YtcdnjeiamihhbaaGreat
namespace Go.Proofs.YtcdnjeiamihhbaaGreat
open Go.RowKit
def Qaf (a:Int):Prop:=0<=a/\a<256
def u8s (S:List Int):List Value:=S.map (Value.int .u8)
theorem Qah (L:List Int):(u8s L).length=L.length:=by simp [u8s]
theorem Qhl (L:List Int):∀v∈u8s L,v.oneCell'=true:=by intro v hv;simp [u8s] at hv;obtain ⟨z,_,rfl⟩:=hv;rfl
theorem Qaa {w:World} {a:Addr} {v:Value} (h:w.cell? a=some v):a.block<w.heap.size:=by
 rcases Nat.lt_or_ge a.block w.heap.size with h' | h'
 ·exact h'
 ·simp [World.cell?,Array.getElem?_eq_none h'] at h
theorem Tryz.zero_u8:(prog.info? 5).map (λ i=>(i.zero,i.size,i.bytes))=some (some (.int .u8 0),1,1):=by kernel_rfl
def BIn (w:World) (a:Option Addr) (len:Nat) (zs:List Int):Prop:=
 zs.length=len/\len<=maxLen/\(∀z∈zs,Qaf z)/\
 (len=0\/∃b off,a=some ⟨b,off,none⟩/\∀i,i<len->w.cell? ⟨b,off+i,none⟩=some (.int .u8 (zs.getD i 0)))
theorem BIn.below {w w':World} {a:Option Addr} {len:Nat} {zs:List Int} (h:BIn w a len zs) (hb:Below w.heap.size w w'):BIn w' a len zs:=by
 obtain ⟨h1,h2,h3,h4⟩:=h;refine ⟨h1,h2,h3,?_⟩
 rcases h4 with h4 | ⟨b,off,ha,hc⟩
 ·exact .inl h4
 ·exact .inr ⟨b,off,ha,λ i hi=>by rw [hb.cell (Qaa (hc i hi))];exact hc i hi⟩
theorem Qx5 (w:World):BIn w none 0 []:=⟨rfl,Nat.zero_le _,by simp,.inl rfl⟩
theorem Qf6 {w:World} {k n:Nat} {L:List Int} {C:Array Value} {fr:Nat × Nat} (hk:w.heap.size=k) (hC:C=(u8s L).toArray) (hn:L.length=n) (hf:∀z∈L,Qaf z) (hm:n<=maxLen) :
  BIn (w.alloc (.cells C 5 fr)) (some ⟨k,0,none⟩) n L:=by
 subst hk;subst hC;subst hn;refine ⟨rfl,hm,hf,.inr ⟨_,0,rfl,λ i hi=>?_⟩⟩
 rw [Nat.zero_add,World.cell?_alloc_mark];simp [u8s,List.getD,hi]
theorem BIn.alloc {w:World} {a:Option Addr} {len:Nat} {zs:List Int} (h:BIn w a len zs) (o:Obj):BIn (w.alloc o) a len zs:=h.below ((Below.refl _ _).alloc (Nat.le_refl _) o)
theorem Qij {B:List Int} (h:∀z∈B,Qaf z) (i:Nat):Qaf (B.getD i 0):=by
 by_cases hi:i<B.length
 ·have:B.getD i 0=B[i]:=by simp [List.getD,hi]
  rw [this];exact h _ (List.getElem_mem hi)
 ·have:B.getD i 0=0:=by simp [List.getD,List.getElem?_eq_none (by omega:B.length<=i)]
  rw [this];unfold Qaf;omega
theorem Qcf {w:World} {base:Nat} {a:Option Addr} {n c:Nat} {zs:List Int} (h:w.ownsRow base 5 1 (.slice a n c) n (u8s zs)) (hm:n<=maxLen) (hz:∀z∈zs,Qaf z) :
  BIn w a n zs:=by
 have hl:zs.length=n:=by have:=h.1;simp [u8s] at this;omega
 refine ⟨hl,hm,hz,?_⟩
 rcases h.2 with ⟨hv,hn⟩ | ⟨g,cap,cur,hv,hb,hg,hc,hcm,hsz,htake⟩
 ·exact .inl hn
 ·cases hv
  refine .inr ⟨g,0,rfl,λ i hi=>?_⟩
  have hcl:=h.cells (g:=g) rfl i (.int .u8 (zs.getD i 0)) (by simp [u8s,List.getD,hl,hi]);rw [Addr.add_mid] at hcl;exact hcl
theorem Qhj {w:World} {base:Nat} {a:Option Addr} {n c:Nat} {zs:List Value} (h:w.ownsRow base 5 1 (.slice a n c) n zs):a=none->n=0/\c=0:=by
 rintro rfl;rcases h.2 with ⟨hv,hn⟩ | ⟨g,cap,cur,hv,_⟩
 ·cases hv;exact ⟨rfl,rfl⟩
 ·cases hv
theorem Qak {ops:Array Oper} {rest:List Oper} {o:Oper} {a:Act} {Q:Exit->Act->World->Prop} {w:World} (hgd:o.guard=none) (s x:Operand)
  (ho:o.op=.call {callee:=.builtin .append,args:=#[s,x],argTypes:=#[71,71]}) (base:Nat)
  (a0:Option Addr) (n0 c0:Nat) (xs:List Int) (hs:a.eval s=.slice a0 n0 c0) (hown:w.ownsRow base 5 1 (.slice a0 n0 c0) n0 (u8s xs))
  (a1:Option Addr) (n1 c1:Nat) (zs:List Int) (hx:a.eval x=.slice a1 n1 c1) (hin:BIn w a1 n1 zs) (hnil:a1=none->n1=0/\c1=0)
  (hle:n0+n1<=1000000) (hbase:base<=w.heap.size)
  (h:∀a' c' w',w'.ownsRow base 5 1 (.slice a' (n0+n1) c') (n0+n1) (u8s (xs ++ zs))->Below base w w'->wpList prog ops Q rest (a.put o.dst (.slice a' (n0+n1) c')) w') :
  wpList prog ops Q (o :: rest) a w:=by
 obtain ⟨i0,hi,hz0,hz1,hz2⟩:=info_parts Tryz.zero_u8;obtain ⟨hl,hm,hfit,hcell⟩:=hin;cases a1 with
 | none=>
  obtain ⟨rfl,rfl⟩:=hnil rfl;have:zs=[]:=List.length_eq_zero_iff.1 hl;subst this;refine wpList_append_own_none hgd s x 71 ho base 5 i0 1 Tryz.underlying71 hi _ n0 (u8s xs) hs hown hx ?_
  have:=h a0 c0 w (by simpa using hown) (Below.refl _ _);simpa using this
 | some ad=>
  refine wpList_append_own w hgd s x 71 ho base 5 i0 (.int .u8 0) 1 1 Tryz.underlying71 hi hz0 hz1 hz2 rfl (by decide) _ n0 (u8s xs) hs hown ad n1 c1 (u8s zs) hx (by simp [u8s,hl]) ?_ (Qhl _) (by unfold maxLen;omega) (by omega) hbase ?_
  ·intro j u hj
   have hjl:j<n1:=by
    have:=(List.getElem?_eq_some_iff.1 hj).1;rwa [Qah,hl] at this
   rcases hcell with hc | ⟨b,off,ha,hc⟩
   ·omega
   ·cases ha
    rw [Addr.add_mid,hc j hjl,<-hj];simp [u8s,List.getD,hl,hjl]
  ·intro v' w' hown' hgrow _
   have hb:Below base w w':=(Below.refl base w).grown hgrow hbase (λ k hk=>(hown.lt k hk).1);have hcat:u8s xs ++ u8s zs=u8s (xs ++ zs):=by simp [u8s]
   rw [hcat] at hown';obtain ⟨a',c',rfl⟩:∃a' c',v'=.slice a' (n0+n1) c':=by
    rcases hown'.2 with ⟨hv,hn⟩ | ⟨g,cap,cur,hv,_⟩
    ·exact ⟨none,0,by rw [hv,hn]⟩
    ·exact ⟨_,_,hv⟩
   exact h a' c' w' hown' hb
theorem Qh0 (w:World) (a:Option Addr) (n c:Nat) (zs:List Int) (h:BIn w a n zs):(convert 71 9 (.slice a n c)).run prog w=.ok (.string (strOfNums zs)) w:=by
 obtain ⟨hl,_,_,hc⟩:=h;by_cases h0:n=0
 ·subst h0
  obtain rfl:=List.length_eq_zero_iff.1 hl;cases a with
  | none=>exact run_convert_bytes_nil w 71 5 Tryz.underlying71 Tryz.underlying5 0 c 9 Tryz.underlying9
  | some ad=>
   have hl:(loadCells ad 0).run prog w=.ok (([]:List Int).map (Value.int .u8)).toArray w:=by simp [loadCells,loadCellsFrom]
   rw [run_convert_bytes_string w 71 9 5 _ 0 c Tryz.underlying71 Tryz.underlying5 Tryz.underlying9,run_bytesToString w _ 0 c [] hl,foldl_push_bytes];rfl
 ·obtain ⟨b,off,rfl,hcell⟩:=hc.resolve_left h0
  exact run_convert_bytes_arg w 71 5 Tryz.underlying71 Tryz.underlying5 b off n c zs hl hcell 9 Tryz.underlying9
def bigI (k:Nat) (v:Int):List Int:=(List.range k).map λ j=>v / 2 ^ (8*(k - 1 - j)) % 256
theorem Qac (k:Nat) (v:Int):(bigI k v).length=k:=by simp [bigI]
theorem Qiy (k:Nat) (v:Int):∀z∈bigI k v,Qaf z:=by
 intro z hz;simp only [bigI,List.mem_map] at hz
 obtain ⟨j,_,rfl⟩:=hz;unfold Qaf;omega
def numI (bs:List Int):Int:=bs.foldl (λ n x=>n*256+x) 0
theorem Qgh (bs:List Int) (x:Int):numI (bs ++ [x])=numI bs*256+x:=by simp [numI]
theorem Qvd (k:Nat) (v:Int):bigI (k+1) v=bigI k (v / 256) ++ [v % 256]:=by
 unfold bigI;rw [List.range_succ,List.map_append];congr 1
 ·apply List.map_congr_left
  intro j hj;have hj':=List.mem_range.1 hj;have e:8*(k+1 - 1 - j)=8+8*(k - 1 - j):=by omega
  rw [e,Int.pow_add,Int.ediv_ediv_of_nonneg (by decide)];rfl
 ·simp
theorem Qrd (k:Nat) (v:Int) {j:Nat} (hj:j<k):(bigI k v).take j ++ [v / 2 ^ (8*(k - 1 - j)) % 256]=(bigI k v).take (j+1):=by
 have hl:j<(bigI k v).length:=by rw [Qac];exact hj
 rw [List.take_succ_eq_append_getElem hl];simp [bigI]
theorem Qza (k:Nat):∀v:Int,0<=v->numI (bigI k v)=v % 256 ^ k:=by
 induction k with
 | zero=>intro v h0;rw [Int.pow_zero,Int.emod_one];rfl
 | succ k ih=>
  intro v h0;have e:(256:Int) ^ (k+1)=256*256 ^ k:=by rw [Int.pow_succ,Int.mul_comm]
  have hp:(0:Int)<256 ^ k:=Int.pow_pos (by decide);rw [Qvd,Qgh,ih (v / 256) (by omega),e];generalize (256:Int) ^ k=M at hp;have e1:v=256*(v / 256)+v % 256:=by omega
  have e2:=Int.mul_ediv_add_emod (v / 256) M;have r0:=Int.emod_nonneg (v / 256) (Int.ne_of_gt hp);have r1:=Int.emod_lt_of_pos (v / 256) hp;have e3:v=(v / 256 % M*256+v % 256)+256*M*(v / 256 / M):=by
   have:256*M*(v / 256 / M)=256*(M*(v / 256 / M)):=Int.mul_assoc _ _ _;omega
  conv=>rhs;rw [e3]
  rw [Int.add_mul_emod_self_left];exact (Int.emod_eq_of_lt (by omega) (by omega)).symm
theorem Qhi:∀(n:Nat) (bs:List Int),bs.length=n->(∀z∈bs,Qaf z)->0<=numI bs/\numI bs<256 ^ n:=by
 intro n;induction n with
 | zero=>intro bs h _;obtain rfl:=List.length_eq_zero_iff.1 h;exact ⟨Int.le_refl _,by decide⟩
 | succ n ih=>
  intro bs h hf;obtain ⟨cs,x,rfl⟩:∃cs x,bs=cs ++ [x]:=by
   exact ⟨bs.dropLast,bs.getLast (by intro e;subst e;simp at h),(List.dropLast_concat_getLast _).symm⟩
  have hx:=hf x (by simp);unfold Qaf at hx;obtain ⟨i0,i1⟩:=ih cs (by simpa using h) (λ z hz=>hf z (by simp [hz]));have e:(256:Int) ^ (n+1)=256 ^ n*256:=Int.pow_succ _ _;rw [Qgh];exact ⟨by omega,by rw [e];omega⟩
def wd (x:Int):Nat:=if x=1 then 1 else if x=2 then 2 else if x=4 then 4 else 8
theorem Qw3 (x:Int):wd x<=8:=by unfold wd;split <;> (try split) <;> (try split) <;> omega
theorem Qwc (x:Int):1<=wd x:=by unfold wd;split <;> (try split) <;> (try split) <;> omega
def offL:List Int->Nat
 | []=>0
 | x :: ws=>wd x+offL ws
theorem Qjh (a b:List Int):offL (a ++ b)=offL a+offL b:=by
 induction a with
 | nil=>simp [offL]
 | cons x a ih=>simp [offL,ih];omega
theorem Qe4 (a:List Int) (x:Int):offL (a ++ [x])=offL a+wd x:=by rw [Qjh];simp [offL]
theorem Qom (a:List Int):offL a<=8*a.length:=by
 induction a with
 | nil=>simp [offL]
 | cons x a ih=>have:=Qw3 x;simp [offL];omega
theorem Qnw (ws:List Int) (i:Nat):offL (ws.take i)<=offL ws:=by
 have:offL ws=offL (ws.take i)+offL (ws.drop i):=by rw [<-Qjh,List.take_append_drop]
 omega
theorem Qd5 (ws:List Int) {i:Nat} (h:i<ws.length):ws.take (i+1)=ws.take i ++ [ws.getD i 0]:=by
 rw [List.take_succ_eq_append_getElem h];simp [List.getD,h]
def valL:List Int->List Int->List Int
 | _,[]=>[]
 | xs,x :: ws=>numI (xs.take (wd x)) :: valL (xs.drop (wd x)) ws
theorem Qpr (a b:List Int):∀xs,valL xs (a ++ b)=valL xs a ++ valL (xs.drop (offL a)) b:=by
 induction a with
 | nil=>intro xs;simp [valL,offL]
 | cons x a ih=>intro xs;simp [valL,offL,ih,List.drop_drop]
theorem Qnv (a:List Int) (x:Int) (xs:List Int):valL xs (a ++ [x])=valL xs a ++ [numI ((xs.drop (offL a)).take (wd x))]:=by rw [Qpr];simp [valL]
theorem Qa8 {bs:List Int} {n:Nat} (hl:bs.length<=n) (hf:∀z∈bs,Qaf z):0<=numI bs/\numI bs<256 ^ n:=by
 obtain ⟨h0,h1⟩:=Qhi bs.length bs rfl hf;refine ⟨h0,Int.lt_of_lt_of_le h1 ?_⟩
 exact_mod_cast Nat.pow_le_pow_right (n:=256) (by decide) hl
def Qai (z:Int):Prop:=0<=z/\z<18446744073709551616
theorem Qqz {bs:List Int} (hl:bs.length<=8) (hf:∀z∈bs,Qaf z):Qai (numI bs):=Qa8 hl hf
def Qan:List Int->List Int->List Int
 | x :: ws,v :: vs=>bigI (wd x) v ++ Qan ws vs
 | _,_=>[]
theorem Qi7 (vs:List Int):Qan [] vs=[]:=by cases vs <;> rfl
theorem packL_nil' (ws:List Int):Qan ws []=[]:=by cases ws <;> rfl
theorem Qmu:∀(a c b d:List Int),a.length=c.length->Qan (a ++ b) (c ++ d)=Qan a c ++ Qan b d:=by
 intro a;induction a with
 | nil=>intro c b d h;have:c=[]:=List.length_eq_zero_iff.1 (by simpa using h.symm);subst this;simp [Qan]
 | cons x a ih=>
  intro c b d h;cases c with
  | nil=>simp at h
  | cons v c=>simp only [List.cons_append,Qan];rw [ih c b d (by simpa using h),List.append_assoc]
theorem Qs9 (a c:List Int) (x v:Int) (h:a.length=c.length):Qan (a ++ [x]) (c ++ [v])=Qan a c ++ bigI (wd x) v:=by
 rw [Qmu a c _ _ h];simp [Qan]
theorem Qc9:∀(a c:List Int),∀z∈Qan a c,Qaf z:=by
 intro a;induction a with
 | nil=>intro c z hz;rw [Qi7] at hz;simp at hz
 | cons x a ih=>
  intro c z hz;cases c with
  | nil=>simp [Qan] at hz
  | cons v c=>
   simp only [Qan,List.mem_append] at hz
   rcases hz with hz | hz
   ·exact Qiy _ _ z hz
   ·exact ih c z hz
theorem Qoi:∀(a c:List Int),a.length<=c.length->(Qan a c).length=offL a:=by
 intro a;induction a with
 | nil=>intro c h;rw [Qi7];rfl
 | cons x a ih=>
  intro c h;cases c with
  | nil=>simp at h
  | cons v c=>simp only [Qan,offL,List.length_append,Qac];rw [ih c (by simpa using h)]
theorem Qg8:∀(a c:List Int) (n:Nat),n=min a.length c.length->Qan (a.take n) (c.take n)=Qan a c:=by
 intro a;induction a with
 | nil=>intro c n h;simp [Qi7]
 | cons x a ih=>
  intro c n h;cases c with
  | nil=>simp [packL_nil',Qan]
  | cons v c=>
   obtain ⟨m,rfl⟩:∃m,n=m+1:=⟨n - 1,by simp at h;omega⟩
   simp only [List.take_succ_cons,Qan]
   rw [ih c m (by simp at h;omega)]
end Go.Proofs.YtcdnjeiamihhbaaGreat
namespace Go.Proofs.YtcdnjeiamihhbaaGreat
open Go
def crH (c:Int):Int:=if (bits .and .u32 c 1 == 1)=true then bits .xor .u32 (c / 2) 3988292384 else c / 2
def Qj5:Nat->Int->Int
 | 0,c=>c
 | n+1,c=>crH (Qj5 n c)
def crS (s b:Int):Int:=bits .xor .u32 (bits .xor .u32 IntKind.u32.max s) b
def crN (s b:Int):Int:=bits .xor .u32 IntKind.u32.max (Qj5 8 (crS s b))
def crI (s:Int) (zs:List Int):Int:=zs.foldl crN s
def crHB (c:BitVec 32):BitVec 32:=if c.getLsbD 0=true then (c >>> 1) ^^^ 3988292384#32 else c >>> 1
def Qor:Nat->BitVec 32->BitVec 32
 | 0,c=>c
 | n+1,c=>crHB (Qor n c)
def crNB (s:BitVec 32) (b:BitVec 8):BitVec 32:=4294967295#32 ^^^ Qor 8 ((4294967295#32 ^^^ s) ^^^ b.setWidth 32)
theorem Qgk (a b:BitVec 32):bits .xor .u32 (a.toNat:Int) (b.toNat:Int)=((a ^^^ b).toNat:Int):=by
 rw [u32_xor_nat a.toNat b.toNat a.isLt b.isLt];simp
theorem Qzy (c:BitVec 32):crH (c.toNat:Int)=((crHB c).toNat:Int):=by
 unfold crH crHB;have h1:bits .and .u32 (c.toNat:Int) 1=((c.toNat % 2:Nat):Int):=by
  have:=u32_and_nat c.toNat 1 c.isLt (by omega);rw [nat_mask1] at this;exact this
 have h2:(c.getLsbD 0=true)↔c.toNat % 2=1:=by
  simp [BitVec.getLsbD,Nat.testBit]
 have h3:(c.toNat:Int) / (2:Int)=((c >>> 1).toNat:Int):=by
  rw [BitVec.toNat_ushiftRight,Nat.shiftRight_eq_div_pow];rfl
 have h4:(3988292384:Int)=((3988292384#32).toNat:Int):=by decide
 rw [h1];by_cases h:c.toNat % 2=1
 ·rw [if_pos (h2.2 h),if_pos (by rw [h];rfl),h3,h4,Qgk]
 ·rw [if_neg (λ e=>h (h2.1 e)),if_neg (by have:c.toNat % 2=0:=(by omega);rw [this];decide),h3]
theorem Qjk (n:Nat) (c:BitVec 32):Qj5 n (c.toNat:Int)=((Qor n c).toNat:Int):=by
 induction n with
 | zero=>rfl
 | succ n ih=>show crH (Qj5 n _)=_;rw [ih,Qzy];rfl
theorem Qry (s:BitVec 32) (b:BitVec 8):crS (s.toNat:Int) (b.toNat:Int)=(((4294967295#32 ^^^ s) ^^^ b.setWidth 32).toNat:Int):=by
 unfold crS;have h1:(IntKind.u32.max:Int)=((4294967295#32).toNat:Int):=by decide
 have h2:(b.toNat:Int)=((b.setWidth 32).toNat:Int):=by
  have:=b.isLt;simp
  omega
 rw [h1,Qgk,h2,Qgk]
theorem Q0a (s:BitVec 32) (b:BitVec 8):crN (s.toNat:Int) (b.toNat:Int)=((crNB s b).toNat:Int):=by
 unfold crN crNB;have h1:(IntKind.u32.max:Int)=((4294967295#32).toNat:Int):=by decide
 rw [Qry,Qjk,h1,Qgk]
theorem Qlt {a:Int} (h0:0<=a) (h1:a<4294967296):∃v:BitVec 32,a=(v.toNat:Int):=
 ⟨BitVec.ofNat 32 a.toNat,by simp;omega⟩
theorem Qqb {a:Int} (h0:0<=a) (h1:a<256):∃v:BitVec 8,a=(v.toNat:Int):=
 ⟨BitVec.ofNat 8 a.toNat,by simp;omega⟩
def Qas (a:Int):Prop:=0<=a/\a<4294967296
theorem Qjs (v:BitVec 32):Qas (v.toNat:Int):=⟨by omega,by have:=v.isLt;omega⟩
theorem Qir {c:Int} (n:Nat) (h:Qas c):Qas (Qj5 n c):=by
 obtain ⟨v,rfl⟩:=Qlt h.1 h.2;rw [Qjk];exact Qjs _
theorem Qrp {s b:Int} (h:Qas s) (hb:Qaf b):Qas (crS s b):=by
 obtain ⟨v,rfl⟩:=Qlt h.1 h.2;obtain ⟨u,rfl⟩:=Qqb hb.1 hb.2;rw [Qry];exact Qjs _
theorem Qxf {s b:Int} (h:Qas s) (hb:Qaf b):Qas (crN s b):=by
 obtain ⟨v,rfl⟩:=Qlt h.1 h.2;obtain ⟨u,rfl⟩:=Qqb hb.1 hb.2;rw [Q0a];exact Qjs _
theorem Qds {s:Int} {zs:List Int} (h:Qas s) (hz:∀z∈zs,Qaf z):Qas (crI s zs):=by
 induction zs generalizing s with
 | nil=>exact h
 | cons z zs ih=>exact ih (Qxf h (hz z (by simp))) (λ y hy=>hz y (by simp [hy]))
theorem Qy6 (s:Int) (zs:List Int) (z:Int):crI s (zs ++ [z])=crN (crI s zs) z:=by
 simp [crI]
theorem Qsl (s:Int) (xs ys:List Int):crI s (xs ++ ys)=crI (crI s xs) ys:=by
 simp [crI]
end Go.Proofs.YtcdnjeiamihhbaaGreat
namespace Go.Proofs.YtcdnjeiamihhbaaGreat
open Go.RowKit
structure It where
 t:Int
 b:Int
 k:Int
 s:Int
 e:Int
def Qb4 (a:Int):Prop:=0<=a/\a<65536
def It.Fits (x:It):Prop:=Qas x.t/\Qai x.b/\Qaf x.k/\Qas x.s/\Qb4 x.e
def itW:List Int:=[4,8,1,4,2]
def hdW:List Int:=[4,4,8,2]
def itV (x:It):List Int:=[x.t,x.b,x.k,x.s,x.e]
def hdV (seq n:Int):List Int:=[1129074503,0,seq,n]
def itB (x:It):List Int:=Qan itW (itV x)
def hdB (seq n:Int):List Int:=Qan hdW (hdV seq n)
theorem Q01 (x:It):itB x=bigI 4 x.t ++ (bigI 8 x.b ++ (bigI 1 x.k ++ (bigI 4 x.s ++ bigI 2 x.e))):=by simp [itB,itW,itV,Qan,wd]
theorem Q1a (seq n:Int):hdB seq n=bigI 4 1129074503 ++ (bigI 4 0 ++ (bigI 8 seq ++ bigI 2 n)):=by simp [hdB,hdW,hdV,Qan,wd]
theorem Qdd (x:It):(itB x).length=19:=by simp [Q01,Qac]
theorem Qco (seq n:Int):(hdB seq n).length=18:=by simp [Q1a,Qac]
theorem Qrk (x:It):∀z∈itB x,Qaf z:=Qc9 _ _
theorem Q0l (seq n:Int):∀z∈hdB seq n,Qaf z:=Qc9 _ _
def Qci (x:It):Prop:=(x.k=1/\x.e<=4096)\/(x.k=2/\x.s=0/\x.e=0)
instance (x:It):Decidable (Qci x):=by unfold Qci;infer_instance
def PowR:List Int:=[64,128,256,512,1024,2048,4096]
def Qbu (block:Int):Int:=if block∈PowR then (block - 19) / 19 else 0
def itsB (xs:List It):List Int:=xs.flatMap itB
theorem Qoa (xs:List It) (x:It):itsB (xs ++ [x])=itsB xs ++ itB x:=by simp [itsB]
theorem Qf2 (xs:List It):(itsB xs).length=19*xs.length:=by
 induction xs with
 | nil=>rfl
 | cons x xs ih=>simp only [itsB,List.flatMap_cons,List.length_append,Qdd,List.length_cons];unfold itsB at ih;omega
theorem Qv5 (xs:List It):∀z∈itsB xs,Qaf z:=by
 intro z hz;simp only [itsB,List.mem_flatMap] at hz
 obtain ⟨x,_,h⟩:=hz;exact Qrk x z h
def Qh3 (seq:Int) (xs:List It):List Int:=hdB seq xs.length ++ itsB xs
theorem Qh1 (seq:Int) (xs:List It):(Qh3 seq xs).length=18+19*xs.length:=by rw [Qh3,List.length_append,Qco,Qf2]
def Qbw (seq:Int) (xs:List It) (N:Nat):List Int:=Qh3 seq xs ++ List.replicate (N - 1 - (18+19*xs.length)) 0 ++ [231]
def Qek (p:List Int):List Int:=p.take 4 ++ (bigI 4 (crI 0 p) ++ p.drop 8)
def Qnp (b:List Int):List Int:=b.take 4 ++ ([0,0,0,0] ++ b.drop 8)
def encL (seq:Int) (xs:List It) (N:Nat):List Int:=Qek (Qbw seq xs N)
def GoodR (xs:List It) (block:Int):Prop:=0<xs.length/\(xs.length:Int)<=Qbu block/\∀x∈xs,Qci x
instance (xs:List It) (block:Int):Decidable (GoodR xs block):=by unfold GoodR;infer_instance
def encE (xs:List It) (block:Int):Int:=if GoodR xs block then 0 else 110
def encB (seq:Int) (xs:List It) (block:Int):List Int:=if GoodR xs block then encL seq xs block.toNat else []
theorem Qar {b:Int} (h:b∈PowR):64<=b/\b<=4096:=by
 simp [PowR] at h
 omega
theorem Qd9 {b:Int} (h:0<Qbu b):b∈PowR/\Qbu b=(b - 19) / 19:=by
 unfold Qbu at *;by_cases hb:b∈PowR
 ·rw [if_pos hb];exact ⟨hb,rfl⟩
 ·rw [if_neg hb] at h;omega
theorem Qj6 (b:Int):0<=Qbu b/\Qbu b<=214:=by
 unfold Qbu;split
 ·rename_i h;have:=Qar h;omega
 ·omega
theorem GoodR.bounds {xs:List It} {b:Int} (h:GoodR xs b):64<=b/\b<=4096/\0<xs.length/\xs.length<=214/\19+19*(xs.length:Int)<=b:=by
 obtain ⟨h1,h2,_⟩:=h;obtain ⟨h3,h4⟩:=Qd9 (b:=b) (by omega);have:=Qar h3;have:=Qj6 b;refine ⟨by omega,by omega,h1,by omega,by omega⟩
theorem Qpn (seq:Int) (xs:List It) (N:Nat):Qbw seq xs N=bigI 4 1129074503 ++ (bigI 4 0 ++ (bigI 8 seq ++ (bigI 2 xs.length ++ (itsB xs ++ (List.replicate (N - 1 - (18+19*xs.length)) 0 ++ [231]))))):=by
 simp [Qbw,Qh3,Q1a]
theorem Qiu {seq:Int} {xs:List It} {N:Nat} (h:19+19*xs.length<=N):(Qbw seq xs N).length=N:=by
 simp only [Qbw,List.length_append,Qh1,List.length_replicate,List.length_singleton];omega
theorem Qeu (seq:Int) (xs:List It) (N:Nat):∀z∈Qbw seq xs N,Qaf z:=by
 intro z hz;simp only [Qbw,Qh3,List.mem_append,List.mem_replicate,List.mem_singleton] at hz
 rcases hz with ((h | h) | ⟨_,h⟩) | h
 ·exact Q0l _ _ z h
 ·exact Qv5 _ z h
 ·subst h;unfold Qaf;omega
 ·subst h;unfold Qaf;omega
theorem Qsd:Qas 0:=by unfold Qas;omega
theorem Q4j:bigI 4 0=[0,0,0,0]:=by decide
theorem Qiq {p:List Int} (h:8<=p.length):(Qek p).length=p.length:=by
 simp only [Qek,List.length_append,List.length_take,List.length_drop,Qac];omega
theorem Qgu {p:List Int} (h:8<=p.length):(Qek p).take 4=p.take 4:=List.take_left' (by simp;omega)
theorem Qj7 {p:List Int} (h:8<=p.length):(Qek p).drop 8=p.drop 8:=by
 unfold Qek;rw [<-List.append_assoc,List.drop_left' (by simp [Qac];omega)]
theorem Qnf {p:List Int} (h:∀z∈p,Qaf z):∀z∈Qek p,Qaf z:=by
 intro z hz;simp only [Qek,List.mem_append] at hz
 rcases hz with hz | hz | hz
 ·exact h z (List.mem_of_mem_take hz)
 ·exact Qiy _ _ z hz
 ·exact h z (List.mem_of_mem_drop hz)
theorem Qsh {p:List Int} (h:8<=p.length) (h0:(p.drop 4).take 4=[0,0,0,0]):Qnp (Qek p)=p:=by
 unfold Qnp;rw [Qgu h,Qj7 h,<-h0];have:p.drop 8=(p.drop 4).drop 4:=by rw [List.drop_drop]
 rw [this,List.take_append_drop,List.take_append_drop]
theorem Qd7 {seq:Int} {xs:List It} {N:Nat}:8<=(Qbw seq xs N).length:=by
 simp only [Qbw,List.length_append,Qh1];omega
theorem Qfm {seq:Int} {xs:List It} {N:Nat} (h:19+19*xs.length<=N):(encL seq xs N).length=N:=by
 rw [encL,Qiq Qd7,Qiu h]
theorem Qk9 (seq:Int) (xs:List It) (N:Nat):∀z∈encL seq xs N,Qaf z:=Qnf (Qeu _ _ _)
def rdM (bs:List Int):Int:=numI (bs.take 4)
def Qd6 (bs:List Int):Int:=numI ((bs.drop 8).take 8)
def rdN (bs:List Int):Int:=numI ((bs.drop 16).take 2)
def rdI (ys:List Int):It:=⟨numI (ys.take 4),numI ((ys.drop 4).take 8),numI ((ys.drop 12).take 1),numI ((ys.drop 13).take 4),numI ((ys.drop 17).take 2)⟩
def rdL:Nat->List Int->List It
 | 0,_=>[]
 | n+1,ys=>rdI ys :: rdL n (ys.drop 19)
theorem Qff:∀(n:Nat) (ys:List Int),(rdL n ys).length=n
 | 0,_=>rfl
 | n+1,ys=>by simp [rdL,Qff n]
theorem Qld:∀(n:Nat) (ys:List Int),rdL (n+1) ys=rdL n ys ++ [rdI (ys.drop (19*n))]
 | 0,ys=>by simp [rdL]
 | n+1,ys=>by
  show rdI ys :: rdL (n+1) (ys.drop 19)=_;rw [Qld n,List.drop_drop];have e:19*(n+1)=19+19*n:=by omega
  rw [e];rfl
def Qb8 (bs:List Int):List It:=rdL (rdN bs).toNat (bs.drop 18)
theorem Q0y (bs:List Int):valL bs hdW=[rdM bs,numI ((bs.drop 4).take 4),Qd6 bs,rdN bs]:=by
 simp [valL,hdW,wd,rdM,Qd6,rdN,List.drop_drop]
theorem Q0o (ys:List Int):valL ys itW=itV (rdI ys):=by
 simp [valL,itW,wd,rdI,itV,List.drop_drop]
theorem off_hd:offL hdW=18:=by decide
theorem off_it:offL itW=19:=by decide
theorem Qbr {bs:List Int} (h:∀z∈bs,Qaf z) (i n:Nat):∀z∈(bs.drop i).take n,Qaf z:=λ z hz=>h z (List.mem_of_mem_drop (List.mem_of_mem_take hz))
theorem Qb3 (bs:List Int) (i n:Nat):((bs.drop i).take n).length<=n:=by rw [List.length_take];omega
theorem Qlx {ys:List Int} (h:∀z∈ys,Qaf z):(rdI ys).Fits:=by
 have a:=Qa8 (n:=4) (Qb3 ys 0 4) (Qbr h 0 4);have b:=Qa8 (n:=8) (Qb3 ys 4 8) (Qbr h 4 8);have c:=Qa8 (n:=1) (Qb3 ys 12 1) (Qbr h 12 1);have d:=Qa8 (n:=4) (Qb3 ys 13 4) (Qbr h 13 4);have e:=Qa8 (n:=2) (Qb3 ys 17 2) (Qbr h 17 2);exact ⟨a,b,c,d,e⟩
theorem Qly:∀(n:Nat) {ys:List Int},(∀z∈ys,Qaf z)->∀x∈rdL n ys,x.Fits
 | 0,_,_,x,hx=>by simp [rdL] at hx
 | n+1,ys,h,x,hx=>by
  simp only [rdL,List.mem_cons] at hx
  rcases hx with rfl | hx
  ·exact Qlx h
  ·exact Qly n (λ z hz=>h z (List.mem_of_mem_drop hz)) x hx
theorem Qha {bs:List Int} (h:∀z∈bs,Qaf z):Qai (Qd6 bs):=Qa8 (n:=8) (Qb3 bs 8 8) (Qbr h 8 8)
theorem Qqw {bs:List Int} (h:∀z∈bs,Qaf z):Qb4 (rdN bs):=Qa8 (n:=2) (Qb3 bs 16 2) (Qbr h 16 2)
theorem Qce {k:Nat} {v:Int} (h0:0<=v) (h1:v<256 ^ k):numI (bigI k v)=v:=by rw [Qza k v h0,Int.emod_eq_of_lt h0 h1]
theorem Q3w {x:It} (h:x.Fits) (more:List Int):rdI (itB x ++ more)=x:=by
 obtain ⟨h1,h2,h3,h4,h5⟩:=h;have e:itB x ++ more=bigI 4 x.t ++ (bigI 8 x.b ++ (bigI 1 x.k ++ (bigI 4 x.s ++ (bigI 2 x.e ++ more)))):=by rw [Q01];simp
 have d4:(itB x ++ more).drop 4=bigI 8 x.b ++ (bigI 1 x.k ++ (bigI 4 x.s ++ (bigI 2 x.e ++ more))):=by rw [e,List.drop_left' (Qac _ _)]
 have d12:(itB x ++ more).drop 12=bigI 1 x.k ++ (bigI 4 x.s ++ (bigI 2 x.e ++ more)):=by
  rw [show (12:Nat)=4+8 from rfl,<-List.drop_drop,d4,List.drop_left' (Qac _ _)]
 have d13:(itB x ++ more).drop 13=bigI 4 x.s ++ (bigI 2 x.e ++ more):=by
  rw [show (13:Nat)=12+1 from rfl,<-List.drop_drop,d12,List.drop_left' (Qac _ _)]
 have d17:(itB x ++ more).drop 17=bigI 2 x.e ++ more:=by
  rw [show (17:Nat)=13+4 from rfl,<-List.drop_drop,d13,List.drop_left' (Qac _ _)]
 unfold rdI;rw [d4,d12,d13,d17,e];simp only [List.take_left' (Qac _ _)]
 rw [Qce h1.1 h1.2,Qce h2.1 h2.2,Qce h3.1 h3.2,Qce h4.1 h4.2,Qce h5.1 h5.2]
theorem Qv0:∀(xs:List It) (more:List Int),(∀x∈xs,x.Fits)->rdL xs.length (itsB xs ++ more)=xs
 | [],_,_=>rfl
 | x :: xs,more,h=>by
  have e:itsB (x :: xs) ++ more=itB x ++ (itsB xs ++ more):=by simp [itsB]
  show rdI _ :: rdL xs.length _=_;rw [e,Q3w (h x (by simp)),List.drop_left' (Qdd _),Qv0 xs more (λ y hy=>h y (by simp [hy]))]
theorem Qmj (seq:Int) (xs:List It) (N i:Nat) (hi:8<=i):(encL seq xs N).drop i=(Qbw seq xs N).drop i:=by
 obtain ⟨j,rfl⟩:∃j,i=8+j:=⟨i - 8,by omega⟩
 rw [<-List.drop_drop,<-List.drop_drop,encL,Qj7 Qd7]
theorem Qkk (seq:Int) (xs:List It) (N:Nat):(Qbw seq xs N).drop 8=bigI 8 seq ++ (bigI 2 xs.length ++ (itsB xs ++ (List.replicate (N - 1 - (18+19*xs.length)) 0 ++ [231]))):=by
 rw [Qpn,show (8:Nat)=4+4 from rfl,<-List.drop_drop,List.drop_left' (Qac _ _),List.drop_left' (Qac _ _)]
theorem Qi3 (seq:Int) (xs:List It) (N:Nat):(Qbw seq xs N).drop 16=bigI 2 xs.length ++ (itsB xs ++ (List.replicate (N - 1 - (18+19*xs.length)) 0 ++ [231])):=by
 rw [show (16:Nat)=8+8 from rfl,<-List.drop_drop,Qkk,List.drop_left' (Qac _ _)]
theorem Qo2 (seq:Int) (xs:List It) (N:Nat):(Qbw seq xs N).drop 18=itsB xs ++ (List.replicate (N - 1 - (18+19*xs.length)) 0 ++ [231]):=by
 rw [show (18:Nat)=16+2 from rfl,<-List.drop_drop,Qi3,List.drop_left' (Qac _ _)]
theorem Q4a {seq:Int} {xs:List It} (N:Nat) (hs:Qai seq) (hx:∀x∈xs,x.Fits) (hn:xs.length<=214) :
  rdM (encL seq xs N)=1129074503/\Qd6 (encL seq xs N)=seq/\rdN (encL seq xs N)=xs.length/\Qb8 (encL seq xs N)=xs:=by
 have hN:rdN (encL seq xs N)=xs.length:=by
  unfold rdN;have h2:(256:Int) ^ 2=65536:=by decide
  rw [Qmj _ _ _ _ (by omega),Qi3,List.take_left' (Qac _ _),Qce (by omega) (by omega)]
 refine ⟨?_,?_,hN,?_⟩
 ·unfold rdM
  rw [encL,Qgu Qd7,Qpn,List.take_left' (Qac _ _)];decide
 ·unfold Qd6
  rw [Qmj _ _ _ _ (by omega),Qkk,List.take_left' (Qac _ _),Qce hs.1 hs.2]
 ·unfold Qb8
  rw [hN,Qmj _ _ _ _ (by omega),Qo2,Int.toNat_natCast,Qv0 _ _ hx]
def IsR (bs:List Int):Prop:=GoodR (Qb8 bs) bs.length/\encL (Qd6 bs) (Qb8 bs) bs.length=bs
instance (bs:List Int):Decidable (IsR bs):=by unfold IsR;infer_instance
def decE (bs:List Int):Int:=if IsR bs then 0 else 111
def decS (bs:List Int):Int:=if IsR bs then Qd6 bs else 0
def decX (bs:List Int):List It:=if IsR bs then Qb8 bs else []
theorem Qnn {bs:List Int} (h:∀z∈bs,Qaf z):Qai (decS bs):=by
 unfold decS;split
 ·exact Qha h
 ·unfold Qai;omega
theorem Q2k {seq:Int} {xs:List It} {block:Int} (hs:Qai seq) (hx:∀x∈xs,x.Fits) (hg:GoodR xs block):IsR (encL seq xs block.toNat)/\Qd6 (encL seq xs block.toNat)=seq/\Qb8 (encL seq xs block.toNat)=xs:=by
 have hb:=hg.bounds;obtain ⟨_,h1,_,h2⟩:=Q4a block.toNat hs hx (by omega);have hl:((encL seq xs block.toNat).length:Int)=block:=by rw [Qfm (by omega)];omega
 refine ⟨⟨?_,?_⟩,h1,h2⟩
 ·rw [hl,h2];exact hg
 ·rw [h1,h2];congr 1;omega
theorem IsR.bounds {bs:List Int} (h:IsR bs):64<=bs.length/\bs.length<=4096/\0<(rdN bs).toNat/\(rdN bs).toNat<=214/\19+19*(rdN bs).toNat<=bs.length:=by
 have:=h.1.bounds;have hl:(Qb8 bs).length=(rdN bs).toNat:=Qff _ _;rw [hl] at this;omega
theorem IsR.magic {bs:List Int} (h:IsR bs):rdM bs=1129074503:=by
 have:=h.2;rw [<-this];unfold rdM;rw [encL,Qgu Qd7,Qpn,List.take_left' (Qac _ _)];decide
def Qwl (zs:List Int) (n:Nat):Prop:=n<=zs.length/\(∀i,n<=i->zs.getD i 0=0)/\(n=0\/zs.getD (n - 1) 0≠0)
def Qdl:List Int->Nat
 | []=>0
 | z :: zs=>if Qdl zs=0 then (if z=0 then 0 else 1) else Qdl zs+1
theorem Qhh:∀zs:List Int,Qwl zs (Qdl zs)
 | []=>⟨by simp [Qdl],by simp,.inl rfl⟩
 | z :: zs=>by
  obtain ⟨h1,h2,h3⟩:=Qhh zs;unfold Qdl;split
  ·rename_i h0
   rw [h0] at h2;split
   ·rename_i hz
    refine ⟨by simp,λ i _=>?_,.inl rfl⟩
    cases i with
    | zero=>simp [hz]
    | succ i=>simpa using h2 i (by omega)
   ·rename_i hz
    refine ⟨by simp,λ i hi=>?_,.inr (by simpa using hz)⟩
    cases i with
    | zero=>omega
    | succ i=>simpa using h2 i (by omega)
  ·rename_i h0
   refine ⟨by simp;omega,λ i hi=>?_,.inr ?_⟩
   ·cases i with
    | zero=>omega
    | succ i=>simpa using h2 i (by omega)
   ·rcases h3 with h3 | h3
    ·omega
    ·obtain ⟨m,hm⟩:∃m,Qdl zs=m+1:=⟨Qdl zs - 1,by omega⟩
     rw [hm] at h3 ⊢;simpa using h3
theorem Qwv {zs:List Int} {n m:Nat} (h:Qwl zs n) (k:Qwl zs m):n=m:=by
 obtain ⟨h1,h2,h3⟩:=h;obtain ⟨k1,k2,k3⟩:=k;rcases Nat.lt_trichotomy n m with hl | hl | hl
 ·rcases k3 with k3 | k3
  ·omega
  ·exact (k3 (h2 (m - 1) (by omega))).elim
 ·exact hl
 ·rcases h3 with h3 | h3
  ·omega
  ·exact (h3 (k2 (n - 1) (by omega))).elim
def Qb9 (x:It) (zs:List Int):Bool:=decide (x.k=1/\x.e=Qdl zs/\x.s=crI 0 zs)
def Blk (w:World) (g:Nat) (L:List Value) (t:TypeId):Prop:=w.heap[g]?=some (.cells L.toArray t (0,0))
theorem Blk.lt {w:World} {g:Nat} {L:List Value} {t:TypeId} (h:Blk w g L t):g<w.heap.size:=(Array.getElem?_eq_some_iff.1 h).1
theorem Blk.cell {w:World} {g:Nat} {L:List Value} {t:TypeId} (h:Blk w g L t) (i:Nat):w.cell? ⟨g,i,none⟩=L[i]?:=by
 rw [cell_of_row w g i L.toArray t (0,0) h];simp
theorem Blk.frozen {w:World} {g:Nat} {L:List Value} {t:TypeId} (h:Blk w g L t) (i:Nat):w.frozen? ⟨g,i,none⟩=false:=by
 have h':w.heap[g]?=some (.cells L.toArray t (0,0)):=h;simp [World.frozen?,h']
theorem Blk.drew {w:World} {g:Nat} {L:List Value} {t:TypeId} (h:Blk w g L t):Blk w.drew g L t:=h
theorem Blk.drewN {w:World} {g:Nat} {L:List Value} {t:TypeId} (h:Blk w g L t) (n:Nat):Blk (w.drewN n) g L t:=h
theorem Blk.alloc {w:World} {g:Nat} {L:List Value} {t:TypeId} (h:Blk w g L t) (o:Obj):Blk (w.alloc o) g L t:=by
 unfold Blk;rw [Below.heap_alloc w o g h.lt];exact h
theorem Blk.new (w:World) (L:List Value) (t:TypeId):Blk (w.alloc (.cells L.toArray t)) w.heap.size L t:=by
 show (w.heap.push _)[w.heap.size]?=_;simp
theorem Blk.new' {w:World} {C:Array Value} {L:List Value} {t:TypeId} {k:Nat} (hk:w.heap.size=k) (hC:C=L.toArray):Blk (w.alloc (.cells C t)) k L t:=by
 subst hk;subst hC;exact Blk.new w L t
theorem Blk.set {w:World} {g:Nat} {L:List Value} {t:TypeId} (h:Blk w g L t) (i:Nat) (v:Value):Blk (w.setCell ⟨g,i,none⟩ v) g (L.set i v) t:=by
 have h':w.heap[g]?=some (.cells L.toArray t (0,0)):=h;unfold Blk;simp [World.setCell,Array.getElem?_modify,h']
theorem Blk.set_other {w:World} {g:Nat} {L:List Value} {t:TypeId} (h:Blk w g L t) {a:Addr} (hne:g≠a.block) (v:Value):Blk (w.setCell a v) g L t:=by
 unfold Blk;rw [Below.heap_setCell w a v g hne];exact h
theorem Blk.below {w w':World} {g B:Nat} {L:List Value} {t:TypeId} (h:Blk w g L t) (hb:Below B w w') (hg:g<B):Blk w' g L t:=by
 unfold Blk;rw [hb.block g hg];exact h
theorem Blk.setCells {g:Nat} {t:TypeId}:∀(vs:List Value) (o:Nat) (w:World) (L:List Value),Blk w g L t->o+vs.length<=L.length->Blk (w.setCells g o vs) g (splice L o vs) t
 | [],o,w,L,h,_=>by
  have:splice L o ([]:List Value)=L:=by simp [splice]
  rw [this];exact h
 | v :: r,o,w,L,h,hl=>by
  have hl':o+(r.length+1)<=L.length:=by simpa using hl
  have:=Blk.setCells r (o+1) _ _ (h.set o v) (by simp;omega);have e:splice (L.set o v) (o+1) r=splice L o (v :: r):=by
   unfold splice;have ho:o<(L.set o v).length:=by simp;omega
   have e1:(L.set o v).take (o+1)=L.take o ++ [v]:=by
    rw [List.take_succ_eq_append_getElem ho];simp [List.take_set_of_le]
   have e2:(L.set o v).drop (o+1+r.length)=L.drop (o+(r.length+1)):=by
    rw [List.drop_set_of_lt (by omega)];congr 1;omega
   rw [e1,e2];simp
  rw [<-e];exact this
theorem Qsy {α:Type} (L vs:List α) (h:L.length=vs.length):splice L 0 vs=vs:=by
 unfold splice;simp [h]
theorem Blk.setAll {w:World} {g:Nat} {L vs:List Value} {t:TypeId} (h:Blk w g L t) (hl:L.length=vs.length):Blk (w.setCells g 0 vs) g vs t:=by
 have:=Blk.setCells vs 0 w L h (by omega);rwa [Qsy L vs hl] at this
theorem Qa1 {w:World} {a c:Addr} {v u:Value} (h:w.cell? c=some u) (hne:c.block≠a.block):(w.setCell a v).cell? c=some u:=by
 rw [World.cell?_setCell_other _ _ _ _ (by intro e;subst e;exact hne rfl)];exact h
theorem Qap {P:Program} {fn:Func} {p:Tmp} {ty:TypeId} (h:fn.results=#[.cell p ty]) (tmps:Array Value) (w:World) (g:Nat) (L:List Value) (t:TypeId) (d:TypeDesc) (hp:tmps.getD p undef=.pointer (some ⟨g,0,none⟩))
  (hb:Blk w g L t) (hu:P.underlying ty=some d) (hd:d.isRow=true) (hi:(P.info? ty).map (·.size)=some L.length):(results fn tmps).run P w=.ok (.agg L.toArray) w:=by
 exact results_cell_row h tmps w g t L.toArray (0,0) d hp hb hu (by cases d <;> first | rfl | cases hd) (by simpa using hi)
structure Out (O:Nat->Prop) (w w':World):Prop where
 os:w'.os=w.os
 tape:w'.tape=w.tape
 output:w'.output=w.output
 size:w.heap.size<=w'.heap.size
 block:∀k,k<w.heap.size->¬O k->w'.heap[k]?=w.heap[k]?
def Non:Nat->Prop:=λ _=>False
def Ext (O:Nat->Prop) (w w':World):Nat->Prop:=λ k=>O k\/(w.heap.size<=k/\k<w'.heap.size)
theorem Out.refl (O:Nat->Prop) (w:World):Out O w w:=⟨rfl,rfl,rfl,Nat.le_refl _,λ _ _ _=>rfl⟩
theorem Out.trans {O O':Nat->Prop} {a b c:World} (h:Out O a b) (k:Out O' b c) (hO:∀j,O' j->O j\/a.heap.size<=j):Out O a c:=
 ⟨k.os.trans h.os,k.tape.trans h.tape,k.output.trans h.output,Nat.le_trans h.size k.size,λ i hi hn=>by
  rw [k.block i (Nat.lt_of_lt_of_le hi h.size) (λ e=>by rcases hO i e with e | e;exact hn e;omega)];exact h.block i hi hn⟩
theorem Out.mono {O O':Nat->Prop} {a b:World} (h:Out O a b) (hO:∀j,O j->j<a.heap.size->O' j):Out O' a b:=
 ⟨h.os,h.tape,h.output,h.size,λ i hi hn=>h.block i hi (λ e=>hn (hO i e hi))⟩
theorem Out.below {O:Nat->Prop} {w w':World} {n:Nat} (h:Out O w w') (hn:n<=w.heap.size) (hO:∀j,O j->n<=j):Below n w w':=
 ⟨h.os,h.tape,h.output,h.size,λ k hk=>h.block k (by omega) (λ e=>by have:=hO k e;omega)⟩
theorem Qab {w w':World} (O:Nat->Prop) (h:Below w.heap.size w w'):Out O w w':=⟨h.os,h.tape,h.output,h.size,λ k hk _=>h.block k hk⟩
theorem below_out' {w w':World} {n:Nat} {O:Nat->Prop} (h:Below n w w') (hO:∀j,n<=j->j<w.heap.size->O j):Out O w w':=
 ⟨h.os,h.tape,h.output,h.size,λ k hk hn=>h.block k (by rcases Nat.lt_or_ge k n with h | h;exact h;exact (hn (hO k h hk)).elim)⟩
theorem Out.alloc {O:Nat->Prop} {a w:World} (h:Out O a w) (o:Obj):Out O a (w.alloc o):=
 h.trans (O':=Non) ⟨rfl,rfl,rfl,by simp,λ k hk _=>Below.heap_alloc _ _ _ hk⟩ (λ _ e=>e.elim)
theorem Out.setCell {O:Nat->Prop} {a w:World} (h:Out O a w) {p:Addr} (hp:O p.block\/a.heap.size<=p.block) (u:Value):Out O a (w.setCell p u):=
 h.trans (O':=λ k=>k=p.block) ⟨rfl,rfl,rfl,by simp [World.setCell],λ k _ hn=>Below.heap_setCell _ _ _ _ hn⟩ (λ j e=>by subst e;exact hp)
theorem Out.drew {O:Nat->Prop} {a w:World} (h:Out O a w):Out O a w.drew:=⟨h.os,h.tape,h.output,h.size,h.block⟩
theorem Out.grown {O:Nat->Prop} {a w w':World} {row:Option Nat} (h:Out O a w) (hg:w.grownBy w' row) (hr:∀k,row=some k->O k\/a.heap.size<=k):Out O a w':=
 h.trans (O':=λ k=>row=some k) ⟨hg.os,hg.tape,hg.output,hg.size,λ k hk hn=>hg.block k hk (λ e=>hn e.symm)⟩ hr
theorem Out.under {O:Nat->Prop} {a w w':World} (h:Out O a w) (hb:Below w.heap.size w w'):Out O a w':=
 h.trans (Qab Non hb) (λ _ e=>e.elim)
theorem Out.blk {O:Nat->Prop} {w w':World} {g:Nat} {L:List Value} {t:TypeId} (h:Out O w w') (hb:Blk w g L t) (hg:¬O g):Blk w' g L t:=by
 unfold Blk;rw [h.block g hb.lt hg];exact hb
theorem Out.own {O:Nat->Prop} {w w':World} {B:Nat} {e:TypeId} {s n:Nat} {v:Value} {xs:List Value} (h:Out O w w') (hr:w.ownsRow B e s v n xs) (hg:∀g,v.ownBlock=some g->¬O g):w'.ownsRow B e s v n xs:=by
 refine ⟨hr.1,?_⟩
 rcases hr.2 with h2 | ⟨g,cap,cur,hv,hB,hh,r⟩
 ·exact .inl h2
 ·exact .inr ⟨g,cap,cur,hv,hB,by rw [h.block g (Array.getElem?_eq_some_iff.1 hh).1 (hg g (by rw [hv];rfl))];exact hh,r⟩
theorem Out.cell {O:Nat->Prop} {w w':World} (h:Out O w w') {p:Addr} {v:Value} (hc:w.cell? p=some v) (hg:¬O p.block):w'.cell? p=some v:=by
 rw [World.cell?_of_block (w:=w) (h.block p.block (Qaa hc) hg)];exact hc
theorem Qdr {w:World} {B B':Nat} {e:TypeId} {s n:Nat} {v:Value} {xs:List Value} (h:w.ownsRow B e s v n xs) (hb:∀g,v.ownBlock=some g->B'<=g):w.ownsRow B' e s v n xs:=by
 refine ⟨h.1,?_⟩
 rcases h.2 with h2 | ⟨g,cap,cur,hv,hB,r⟩
 ·exact .inl h2
 ·exact .inr ⟨g,cap,cur,hv,hb g (by rw [hv];rfl),r⟩
theorem Qbh {w:World} {B:Nat} {e:TypeId} {s n:Nat} {v:Value} {xs:List Value} (h:w.ownsRow B e s v n xs):w.ownsRow 0 e s v n xs:=Qdr h (λ _ _=>Nat.zero_le _)
theorem Qaz {w:World} {B:Nat} {e:TypeId} {s n:Nat} {v:Value} {xs:List Value} (h:w.ownsRow B e s v n xs) {g:Nat} (hg:v.ownBlock=some g):∃cur,w.heap[g]?=some (.cells cur e (0,0)):=by
 rcases h.2 with ⟨hv,_⟩ | ⟨g',cap,cur,hv,_,hh,_⟩
 ·rw [hv] at hg;cases hg
 ·rw [hv] at hg;cases hg;exact ⟨cur,hh⟩
theorem Qam {w:World} {B:Nat} {e:TypeId} {s n:Nat} {v:Value} {xs:List Value} (h:w.ownsRow B e s v n xs):∃a c,v=.slice a n c:=by
 rcases h.2 with ⟨hv,hn⟩ | ⟨g,cap,cur,hv,_⟩
 ·exact ⟨none,0,by rw [hv,hn]⟩
 ·exact ⟨_,_,hv⟩
theorem Qde {e t ty:TypeId} {size bytes:Nat} {z:Value} (ht:prog.underlying t=some (.slice e)) (hinfo:(prog.info? e).map (λ i=>(i.zero,i.size,i.bytes))=some (some z,size,bytes)) (hz:z.cells.size=size) (hs0:0<size) (hsz:bytes<=72)
  {w:World} {v:Value} {n:Nat} {xs:List Value} (hown:w.ownsRow 0 e size v n xs)
  (a:Addr) (m c:Nat) (news:List Value) (hl:news.length=m*size) (hnews:∀j u,news[j]?=some u->w.cell? (a.add j)=some u) (h1:∀u∈news,u.oneCell'=true) (hle:n+m<=1000000) :
  ∃v' w',(Builtin.append_ #[t,t] ty #[v,.slice (some a) m c]).run prog w=.ok v' w'/\w'.ownsRow 0 e size v' (n+m) (xs ++ news)/\w.grownBy w' v.ownBlock/\(v'.ownBlock=v.ownBlock\/∀g,v'.ownBlock=some g->w.heap.size<=g):=by
 obtain ⟨i0,hi,hz0,hz1,hz2⟩:=info_parts hinfo;have hle':=Nat.mul_le_mul hle hsz;have hA:=run_append_own (P:=prog) w 0 t ty e i0 z size bytes ht hi hz0 hz1 hz2 hz hs0 v n xs hown a m c news hl hnews h1 (by unfold maxLen;omega) (by omega) (Nat.zero_le _);rcases hown.2 with ⟨hv,hn⟩ | ⟨g,cap,cur,hv,hB,hh,hnc,hcm,hcs,htk⟩
 ·have hnew:=run_append_own (P:=prog) w w.heap.size t ty e i0 z size bytes ht hi hz0 hz1 hz2 hz hs0 v n xs ⟨hown.1,.inl ⟨hv,hn⟩⟩ a m c news hl hnews h1 (by unfold maxLen;omega) (by omega) (Nat.le_refl _)
  obtain ⟨v',w',h2,h3,h4,_⟩:=hnew;exact ⟨v',w',h2,Qbh h3,h4,.inr λ g hg=>(h3.lt g hg).1⟩
 ·by_cases hroom:n+m<=cap
  ·obtain ⟨v',w',h2,h3,h4,_⟩:=hA
   refine ⟨v',w',h2,h3,h4,.inl ?_⟩
   have hsp:∀j,j<news.length->(0+n*i0.size+j)<cur.size:=by
    intro j hj;rw [hcs,hz1];have:(n+m)*size<=cap*size:=Nat.mul_le_mul_right _ hroom;rw [Nat.add_mul] at this;rw [hl] at hj;omega
   have hr:=run_append_room_cells (P:=prog) w t ty e i0 ht hi g 0 n cap a m c news (by rw [hz1];exact hl) hnews h1 hroom (λ j hj=>by
    rw [cell_of_row w g _ cur e (0,0) hh];simp;have:=hsp j hj;omega) (λ j hj=>frozen_of_row w g _ cur e hh)
   rw [hv] at h2;rw [hr] at h2;cases h2
   rw [hv];rfl
  ·have hg:=run_append_arg_grows (P:=prog) w t ty e i0 z size bytes ht hi hz0 hz1 hz2 hz hs0 ⟨g,0,none⟩ n cap xs hown.1 (hown.cells (by rw [hv];rfl)) a m c news hl hnews (by omega) (by unfold maxLen;omega) (by omega)
   obtain ⟨v',w',h2,h3,h4⟩:=hg;refine ⟨v',w',by rw [hv];exact h2,Qbh h3,⟨h4.os,h4.tape,h4.output,h4.size,λ k hk _=>h4.block k hk (by simp)⟩,.inr λ g hg=>(h3.lt g hg).1⟩
abbrev Zn:=List (List Int) × Int
theorem Tryz.zero_bytes:(prog.info? 71).map (λ i=>(i.zero,i.size,i.bytes))=some (some (.slice none 0 0),1,24):=by kernel_rfl
theorem Tryz.zero_zone:(prog.info? 91).map (λ i=>(i.zero,i.size,i.bytes))=some (some (.agg #[.slice none 0 0,.int .i64 0]),2,32):=by kernel_rfl
def BkAt (O:Nat->Prop) (W:World) (h:Value) (D:List Int):Prop:=
 W.ownsRow 0 5 1 h D.length (u8s D)/\(∀c,h.ownBlock=some c->O c)/\(∀z∈D,Qaf z)/\D.length<=1000000
def BsAt (O:Nat->Prop) (W:World) (vs:List Value) (bs:List (List Int)):Prop:=
 vs.length=bs.length/\∀(i:Nat) (h:Value) (D:List Int),vs[i]?=some h->bs[i]?=some D->BkAt O W h D
def RowAt (O:Nat->Prop) (W:World) (v:Value) (bs:List (List Int)):Prop:=
 ∃vs,W.ownsRow 0 71 1 v bs.length vs/\(∀r,v.ownBlock=some r->O r)/\BsAt O W vs bs/\bs.length<=100000
def Qbk:List Value->List Zn->List Value
 | v :: vs,z :: zs=>v :: .int .i64 z.2 :: Qbk vs zs
 | _,_=>[]
def Q3h (vs:List Value):Prop:=∀(i j:Nat) (u v:Value) (r:Nat),vs[i]?=some u->vs[j]?=some v->u.ownBlock=some r->v.ownBlock=some r->i=j
def ZsAt (O:Nat->Prop) (W:World) (v:Value) (zs:List Zn):Prop:=
 ∃vs,W.ownsRow 0 91 2 v zs.length (Qbk vs zs)/\(∀r,v.ownBlock=some r->O r)/\vs.length=zs.length/\(∀(i:Nat) (u:Value) (z:Zn),vs[i]?=some u->zs[i]?=some z->RowAt O W u z.1)/\Q3h vs/\zs.length<=1000
theorem BkAt.out {O S:Nat->Prop} {W W':World} {h:Value} {D:List Int} (hb:BkAt O W h D) (ho:Out S W W') (hS:∀c cur,O c->W.heap[c]?=some (.cells cur 5 (0,0))->¬S c):BkAt O W' h D:=
 ⟨ho.own hb.1 (λ g hg=>by obtain ⟨cur,hc⟩:=Qaz hb.1 hg;exact hS g cur (hb.2.1 g hg) hc),hb.2⟩
theorem BsAt.out {O S:Nat->Prop} {W W':World} {vs:List Value} {bs:List (List Int)} (hb:BsAt O W vs bs) (ho:Out S W W') (hS:∀c cur,O c->W.heap[c]?=some (.cells cur 5 (0,0))->¬S c):BsAt O W' vs bs:=
 ⟨hb.1,λ i h D h1 h2=>(hb.2 i h D h1 h2).out ho hS⟩
theorem RowAt.out {O S:Nat->Prop} {W W':World} {v:Value} {bs:List (List Int)} (hb:RowAt O W v bs) (ho:Out S W W') (h1:∀r,v.ownBlock=some r->¬S r) (hS:∀c cur,O c->W.heap[c]?=some (.cells cur 5 (0,0))->¬S c):RowAt O W' v bs:=by
 obtain ⟨vs,a,b,c,d⟩:=hb;exact ⟨vs,ho.own a h1,b,c.out ho hS,d⟩
theorem BkAt.mono {O O':Nat->Prop} {W:World} {h:Value} {D:List Int} (hb:BkAt O W h D) (hO:∀c,O c->c<W.heap.size->O' c):BkAt O' W h D:=
 ⟨hb.1,λ c hc=>hO c (hb.2.1 c hc) (hb.1.lt c hc).2,hb.2.2⟩
theorem BsAt.mono {O O':Nat->Prop} {W:World} {vs:List Value} {bs:List (List Int)} (hb:BsAt O W vs bs) (hO:∀c,O c->c<W.heap.size->O' c):BsAt O' W vs bs:=⟨hb.1,λ i h D h1 h2=>(hb.2 i h D h1 h2).mono hO⟩
theorem RowAt.mono {O O':Nat->Prop} {W:World} {v:Value} {bs:List (List Int)} (hb:RowAt O W v bs) (hO:∀c,O c->c<W.heap.size->O' c):RowAt O' W v bs:=by
 obtain ⟨vs,a,b,c,d⟩:=hb;exact ⟨vs,a,λ r hr=>hO r (b r hr) (a.lt r hr).2,c.mono hO,d⟩
theorem ZsAt.mono {O O':Nat->Prop} {W:World} {v:Value} {zs:List Zn} (hb:ZsAt O W v zs) (hO:∀c,O c->c<W.heap.size->O' c):ZsAt O' W v zs:=by
 obtain ⟨vs,a,b,c,d,e,f⟩:=hb;exact ⟨vs,a,λ r hr=>hO r (b r hr) (a.lt r hr).2,c,λ i u z h1 h2=>(d i u z h1 h2).mono hO,e,f⟩
theorem ZsAt.out {O S:Nat->Prop} {W W':World} {v:Value} {zs:List Zn} (hb:ZsAt O W v zs) (ho:Out S W W') (hS:∀c,O c->¬S c):ZsAt O W' v zs:=by
 obtain ⟨vs,a,b,c,d,e,f⟩:=hb;refine ⟨vs,ho.own a (λ g hg=>hS g (b g hg)),b,c,λ i u z h1 h2=>?_,e,f⟩
 have:=d i u z h1 h2;exact this.out ho (λ r hr=>by obtain ⟨_,_,hb,_⟩:=this;exact hS r (hb r hr)) (λ c _ hc _=>hS c hc)
theorem BsAt.nil (O:Nat->Prop) (W:World):BsAt O W [] []:=⟨rfl,λ i h D h1 _=>by simp at h1⟩
theorem BsAt.snoc {O:Nat->Prop} {W:World} {vs:List Value} {bs:List (List Int)} (h:BsAt O W vs bs) {u:Value} {D:List Int} (hd:BkAt O W u D):BsAt O W (vs ++ [u]) (bs ++ [D]):=by
 refine ⟨by simp [h.1],λ i x E h1 h2=>?_⟩
 by_cases hlt:i<bs.length
 ·rw [List.getElem?_append_left (by rw [h.1];exact hlt)] at h1
  rw [List.getElem?_append_left hlt] at h2;exact h.2 i x E h1 h2
 ·have hi:i=bs.length:=by
   have:=(List.getElem?_eq_some_iff.1 h2).1;simp at this
   omega
  subst hi;simp at h2
  rw [<-h.1] at h1;simp at h1
  subst h1;subst h2;exact hd
theorem RowAt.nil (O:Nat->Prop) (W:World):RowAt O W (.slice none 0 0) []:=⟨[],World.ownsRow_nil W 0 71 1,(λ r h=>by cases h),BsAt.nil O W,by simp⟩
theorem RowAt.slice {O:Nat->Prop} {W:World} {v:Value} {bs:List (List Int)} (h:RowAt O W v bs):∃a c,v=.slice a bs.length c:=by
 obtain ⟨vs,a,_⟩:=h;exact Qam a
theorem Qcl:∀(vs:List Value) (zs:List Zn),vs.length=zs.length->(Qbk vs zs).length=zs.length*2
 | [],[],_=>rfl
 | [],_ :: _,h=>by simp at h
 | _ :: _,[],h=>by simp at h
 | v :: vs,z :: zs,h=>by
  have:=Qcl vs zs (by simpa using h);simp [Qbk,this];omega
theorem Qd1:∀(vs:List Value) (zs:List Zn) (i:Nat) (v:Value) (z:Zn),vs[i]?=some v->zs[i]?=some z->(Qbk vs zs)[2*i]?=some v/\(Qbk vs zs)[2*i+1]?=some (.int .i64 z.2)
 | [],_,i,v,z,h,_=>by simp at h
 | _ :: _,[],i,v,z,_,h=>by simp at h
 | u :: vs,y :: zs,0,v,z,h1,h2=>by simp at h1 h2;subst h1;subst h2;exact ⟨rfl,rfl⟩
 | u :: vs,y :: zs,i+1,v,z,h1,h2=>by
  have:=Qd1 vs zs i v z (by simpa using h1) (by simpa using h2);have e:2*(i+1)=2*i+1+1:=by omega
  rw [e];simpa [Qbk] using this
theorem Qin:∀(vs:List Value) (zs:List Zn) (i:Nat) (v:Value),vs.length=zs.length->(Qbk vs zs).set (2*i) v=Qbk (vs.set i v) zs
 | [],[],i,v,_=>by simp [Qbk]
 | [],_ :: _,_,_,h=>by simp at h
 | _ :: _,[],_,_,h=>by simp at h
 | u :: vs,y :: zs,0,v,h=>by simp [Qbk]
 | u :: vs,y :: zs,i+1,v,h=>by
  have:=Qin vs zs i v (by simpa using h);have e:2*(i+1)=2*i+1+1:=by omega
  rw [e];simp [Qbk,this]
theorem Qje:∀(vs:List Value) (zs:List Zn) (i:Nat) (z:Zn),vs.length=zs.length->(Qbk vs zs).set (2*i+1) (.int .i64 z.2)=Qbk vs (zs.set i z)
 | [],[],i,z,_=>by simp [Qbk]
 | [],_ :: _,_,_,h=>by simp at h
 | _ :: _,[],_,_,h=>by simp at h
 | u :: vs,y :: zs,0,z,h=>by simp [Qbk]
 | u :: vs,y :: zs,i+1,z,h=>by
  have:=Qje vs zs i z (by simpa using h);have e:2*(i+1)+1=2*i+1+1+1:=by omega
  rw [e];simp [Qbk,this]
theorem Qim:∀(vs:List Value) (zs:List Zn) (v:Value) (z:Zn),vs.length=zs.length->Qbk vs zs ++ [v,.int .i64 z.2]=Qbk (vs ++ [v]) (zs ++ [z])
 | [],[],v,z,_=>rfl
 | [],_ :: _,_,_,h=>by simp at h
 | _ :: _,[],_,_,h=>by simp at h
 | u :: vs,y :: zs,v,z,h=>by
  have:=Qim vs zs v z (by simpa using h);simp [Qbk,<-this]
theorem Qoz (vs:List Value) (zs zs':List Zn) (h:zs.map (·.2)=zs'.map (·.2)):Qbk vs zs=Qbk vs zs':=by
 induction vs generalizing zs zs' with
 | nil=>cases zs <;> cases zs' <;> rfl
 | cons v vs ih=>
  cases zs with
  | nil=>cases zs' with
   | nil=>rfl
   | cons=>simp at h
  | cons y zs=>cases zs' with
   | nil=>simp at h
   | cons y' zs'=>
    simp at h
    simp [Qbk,h.1,ih zs zs' h.2]
theorem BkAt.bin {O:Nat->Prop} {W:World} {a:Option Addr} {n c:Nat} {D:List Int} (h:BkAt O W (.slice a n c) D):BIn W a n D/\(a=none->n=0/\c=0)/\n=D.length:=by
 have hn:n=D.length:=by obtain ⟨_,_,e⟩:=Qam h.1;cases e;rfl
 have h1:=h.1;rw [<-hn] at h1;exact ⟨Qcf h1 (by have:=h.2.2.2;unfold maxLen;omega) h.2.2.1,Qhj h1,hn⟩
end Go.Proofs.YtcdnjeiamihhbaaGreat
