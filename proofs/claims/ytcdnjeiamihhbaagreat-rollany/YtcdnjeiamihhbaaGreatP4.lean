/- P4 -/
import Derived.OwnWalk
import Derived.Lib.EndianBits
import Derived.StillTailTactics
import Derived.WalkLawsBesides
import Derived.Defers
import Derived.Recover
import Derived.Deep.RegionLaw
import Derived.Deep.RegionHeld
import Derived.Deep.RegionHeld3
import Derived.BigQuiet
import Derived.Test.YtcdnjeiamihhbaaGreatP1
set_option linter.unusedVariables false
set_option maxRecDepth 4000
open Go.Proofs.Tryz
namespace Go.Proofs.YtcdnjeiamihhbaaGreat
open Go.RowKit
def Qaj (k:IntKind) (S:List Int):List Value:=S.map (Value.int k)
theorem Qeo (k:IntKind) (L:List Int):(Qaj k L).length=L.length:=by simp [Qaj]
theorem Qjn (k:IntKind) (L:List Int):∀v∈Qaj k L,v.oneCell'=true:=by intro v hv;simp [Qaj] at hv;obtain ⟨z,_,rfl⟩:=hv;rfl
def NIn (k:IntKind) (w:World) (a:Option Addr) (len:Nat) (zs:List Int):Prop:=
 zs.length=len/\len<=maxLen/\(∀z∈zs,(Lit.int k z).wf=true)/\
 (len=0\/∃b off,a=some ⟨b,off,none⟩/\∀i,i<len->w.cell? ⟨b,off+i,none⟩=some (.int k (zs.getD i 0)))
theorem NIn.below {k:IntKind} {w w':World} {a:Option Addr} {len:Nat} {zs:List Int} (h:NIn k w a len zs) (hb:Below w.heap.size w w'):NIn k w' a len zs:=by
 obtain ⟨h1,h2,h3,h4⟩:=h;refine ⟨h1,h2,h3,?_⟩
 rcases h4 with h4 | ⟨b,off,ha,hc⟩
 ·exact .inl h4
 ·exact .inr ⟨b,off,ha,λ i hi=>by rw [hb.cell (Qaa (hc i hi))];exact hc i hi⟩
theorem Qfz {k:IntKind} {t:TypeId} {w:World} {g n:Nat} {L:List Int} {C:Array Value} {fr:Nat × Nat} (hk:w.heap.size=g) (hC:C=(Qaj k L).toArray) (hn:L.length=n) (hf:∀z∈L,(Lit.int k z).wf=true) (hm:n<=maxLen) :
  NIn k (w.alloc (.cells C t fr)) (some ⟨g,0,none⟩) n L:=by
 subst hk;subst hC;subst hn;refine ⟨rfl,hm,hf,.inr ⟨_,0,rfl,λ i hi=>?_⟩⟩
 rw [Nat.zero_add,World.cell?_alloc_mark];simp [Qaj,List.getD,hi]
theorem NIn.alloc {k:IntKind} {w:World} {a:Option Addr} {len:Nat} {zs:List Int} (h:NIn k w a len zs) (o:Obj):NIn k (w.alloc o) a len zs:=h.below ((Below.refl _ _).alloc (Nat.le_refl _) o)
theorem NIn.part {k:IntKind} {w:World} {b off len:Nat} {zs:List Int} (h:NIn k w (some ⟨b,off,none⟩) len zs) (i m:Nat) (hik:i+m<=len):NIn k w (some ⟨b,off+i,none⟩) m ((zs.drop i).take m):=by
 obtain ⟨h1,h2,h3,h4⟩:=h;refine ⟨by rw [List.length_take,List.length_drop,h1];omega,by omega,λ z hz=>h3 z (List.mem_of_mem_drop (List.mem_of_mem_take hz)),?_⟩
 by_cases h0:m=0
 ·exact .inl h0
 ·obtain ⟨b',off',he,hc⟩:=h4.resolve_left (by omega)
  cases he
  refine .inr ⟨_,_,rfl,λ j hj=>?_⟩
  have:=hc (i+j) (by omega);rw [Nat.add_assoc,this];simp [List.getD,hj]
theorem NIn.front {k:IntKind} {w:World} {a:Option Addr} {len:Nat} {zs:List Int} (h:NIn k w a len zs) (m:Nat) (hm:m<=len):NIn k w a m (zs.take m):=by
 obtain ⟨h1,h2,h3,h4⟩:=h;refine ⟨by rw [List.length_take,h1];omega,by omega,λ z hz=>h3 z (List.mem_of_mem_take hz),?_⟩
 by_cases h0:m=0
 ·exact .inl h0
 ·obtain ⟨b',off',he,hc⟩:=h4.resolve_left (by omega)
  refine .inr ⟨_,_,he,λ j hj=>?_⟩
  rw [hc j (by omega)];simp [List.getD,hj]
theorem NIn.back {k:IntKind} {w:World} {a:Option Addr} {len c:Nat} {zs:List Int} (h:NIn k w a len zs) (i:Nat) (hi:i<=len) (hc:len<=c):NIn k w (if c=i then a else a.map (·.add i)) (len - i) (zs.drop i):=by
 by_cases h0:len - i=0
 ·have h1:=h.1
  exact ⟨by rw [List.length_drop,h1],by omega,λ z hz=>h.2.2.1 z (List.mem_of_mem_drop hz),.inl h0⟩
 ·obtain ⟨b,off,rfl,hcell⟩:=h.2.2.2.resolve_left (by omega)
  rw [if_neg (by omega)];have:=NIn.part h i (len - i) (by omega);rw [List.take_of_length_le (by rw [List.length_drop,h.1];exact Nat.le_refl _)] at this;simpa [Addr.add_mid] using this
theorem Qlo {k:IntKind} {B:List Int} (h:∀z∈B,(Lit.int k z).wf=true) (i:Nat) (hi:i<B.length):(Lit.int k (B.getD i 0)).wf=true:=by
 have:B.getD i 0=B[i]:=by simp [List.getD,hi]
 rw [this];exact h _ (List.getElem_mem hi)
theorem wf8 {z:Int} (h:Qaf z):(Lit.int .u8 z).wf=true:=by
 unfold Qaf at h;simp [Lit.wf,IntKind.min,IntKind.max,IntKind.signed,IntKind.bits]
 omega
theorem wfU {z:Int} (h:Qai z):(Lit.int .u64 z).wf=true:=by
 unfold Qai at h;simp [Lit.wf,IntKind.min,IntKind.max,IntKind.signed,IntKind.bits]
 omega
theorem Q30 {z:Int} (h:(Lit.int .u64 z).wf=true):Qai z:=by have:=bounds_u64 h;unfold Qai;omega
theorem Q4n {z:Int} (h:(Lit.int .u8 z).wf=true):Qaf z:=by have:=bounds_u8 h;unfold Qaf;omega
theorem BIn.n {w:World} {a:Option Addr} {len:Nat} {zs:List Int} (h:BIn w a len zs):NIn .u8 w a len zs:=⟨h.1,h.2.1,λ z hz=>wf8 (h.2.2.1 z hz),h.2.2.2⟩
theorem NIn.b {w:World} {a:Option Addr} {len:Nat} {zs:List Int} (h:NIn .u8 w a len zs):BIn w a len zs:=⟨h.1,h.2.1,λ z hz=>Q4n (h.2.2.1 z hz),h.2.2.2⟩
theorem Ql2 {k:IntKind} {t:TypeId} {w:World} {base:Nat} {a:Option Addr} {n c:Nat} {zs:List Int} (h:w.ownsRow base t 1 (.slice a n c) n (Qaj k zs)) (hm:n<=maxLen) (hz:∀z∈zs,(Lit.int k z).wf=true) :
  NIn k w a n zs:=by
 have hl:zs.length=n:=by have:=h.1;simp [Qaj] at this;omega
 refine ⟨hl,hm,hz,?_⟩
 rcases h.2 with ⟨hv,hn⟩ | ⟨g,cap,cur,hv,hb,hg,hc,hcm,hsz,htake⟩
 ·exact .inl hn
 ·cases hv
  refine .inr ⟨g,0,rfl,λ i hi=>?_⟩
  have hcl:=h.cells (g:=g) rfl i (.int k (zs.getD i 0)) (by simp [Qaj,List.getD,hl,hi]);rw [Addr.add_mid] at hcl;exact hcl
theorem Qlg {t:TypeId} {w:World} {base:Nat} {a:Option Addr} {n c:Nat} {zs:List Value} (h:w.ownsRow base t 1 (.slice a n c) n zs):n<=c:=by
 rcases h.2 with ⟨hv,hn⟩ | ⟨g,cap,cur,hv,hb,hg,hc,hcm,hsz,htake⟩
 ·omega
 ·cases hv;omega
theorem Qa3 {t:TypeId} {w:World} {base base':Nat} {v:Value} {n:Nat} {zs:List Value} (h:w.ownsRow base t 1 v n zs) (hb:base'<=base):w.ownsRow base' t 1 v n zs:=by
 refine ⟨h.1,?_⟩
 rcases h.2 with h2 | ⟨g,cap,cur,hv,hbg,hr⟩
 ·exact .inl h2
 ·exact .inr ⟨g,cap,cur,hv,Nat.le_trans hb hbg,hr⟩
theorem Qd8 {k:IntKind} {e t:TypeId} {size:Nat} (ht:prog.underlying t=some (.slice e)) (hinfo:(prog.info? e).map (λ i=>(i.zero,i.size,i.bytes))=some (some (.int k 0),1,size)) (hsz:size<=8)
  {ops:Array Oper} {rest:List Oper} {o:Oper} {a:Act} {Q:Exit->Act->World->Prop} {w:World} (hgd:o.guard=none) (s x:Operand)
  (ho:o.op=.call {callee:=.builtin .append,args:=#[s,x],argTypes:=#[t,t]}) (base:Nat)
  (a0:Option Addr) (n0 c0:Nat) (xs:List Int) (hs:a.eval s=.slice a0 n0 c0) (hown:w.ownsRow base e 1 (.slice a0 n0 c0) n0 (Qaj k xs))
  (a1:Option Addr) (n1 c1:Nat) (zs:List Int) (hx:a.eval x=.slice a1 n1 c1) (hin:NIn k w a1 n1 zs) (hnil:a1=none->n1=0/\c1=0)
  (hle:n0+n1<=1000000) (hbase:base<=w.heap.size)
  (h:∀a' c' w',w'.ownsRow base e 1 (.slice a' (n0+n1) c') (n0+n1) (Qaj k (xs ++ zs))->Below base w w'->wpList prog ops Q rest (a.put o.dst (.slice a' (n0+n1) c')) w') :
  wpList prog ops Q (o :: rest) a w:=by
 obtain ⟨i0,hi,hz0,hz1,hz2⟩:=info_parts hinfo;obtain ⟨hl,hm,hfit,hcell⟩:=hin;cases a1 with
 | none=>
  obtain ⟨rfl,rfl⟩:=hnil rfl;have:zs=[]:=List.length_eq_zero_iff.1 hl;subst this;refine wpList_append_own_none hgd s x t ho base e i0 1 ht hi _ n0 (Qaj k xs) hs hown hx ?_
  have:=h a0 c0 w (by simpa using hown) (Below.refl _ _);simpa using this
 | some ad=>
  refine wpList_append_own w hgd s x t ho base e i0 (.int k 0) 1 size ht hi hz0 hz1 hz2 rfl (by decide) _ n0 (Qaj k xs) hs hown ad n1 c1 (Qaj k zs) hx (by simp [Qaj,hl]) ?_ (Qjn _ _) (by unfold maxLen;omega) ?_ hbase ?_
  ·intro j u hj
   have hjl:j<n1:=by
    have:=(List.getElem?_eq_some_iff.1 hj).1;rwa [Qeo,hl] at this
   rcases hcell with hc | ⟨b,off,ha,hc⟩
   ·omega
   ·cases ha
    rw [Addr.add_mid,hc j hjl,<-hj];simp [Qaj,List.getD,hl,hjl]
  ·have:=Nat.mul_le_mul hle hsz
   omega
  ·intro v' w' hown' hgrow _
   have hb:Below base w w':=(Below.refl base w).grown hgrow hbase (λ k hk=>(hown.lt k hk).1);have hcat:Qaj k xs ++ Qaj k zs=Qaj k (xs ++ zs):=by simp [Qaj]
   rw [hcat] at hown';obtain ⟨a',c',rfl⟩:∃a' c',v'=.slice a' (n0+n1) c':=by
    rcases hown'.2 with ⟨hv,hn⟩ | ⟨g,cap,cur,hv,_⟩
    ·exact ⟨none,0,by rw [hv,hn]⟩
    ·exact ⟨_,_,hv⟩
   exact h a' c' w' hown' hb
theorem Tryz.zero_u64:(prog.info? 45).map (λ i=>(i.zero,i.size,i.bytes))=some (some (.int .u64 0),1,8):=by kernel_rfl
theorem Qwo (L:List Int):u8s L=Qaj .u8 L:=rfl
theorem Qq5 (x:Int):∀z∈[x % 256],Qaf z:=by
 intro z hz;simp only [List.mem_cons,List.not_mem_nil,or_false] at hz
 subst hz;unfold Qaf;omega
theorem Qw5 (x:Int) (w:World):Calls prog 212 #[.int .i64 x] w λ e w'=>e=.returned (.int .i64 (wd x:Nat))/\w'=w:=by
 by_cases h1:x=1
 ·subst h1
  go_enter func212,ntmps212
  go_wp2
  go_ret
  exact ⟨rfl,rfl⟩
 by_cases h2:x=2
 ·subst h2
  go_enter func212,ntmps212
  go_wp2
  go_ret
  exact ⟨rfl,rfl⟩
 by_cases h4:x=4
 ·subst h4
  go_enter func212,ntmps212
  go_wp2
  go_ret
  exact ⟨rfl,rfl⟩
 have hw:wd x=8:=by unfold wd;rw [if_neg h1,if_neg h2,if_neg h4]
 rw [hw];go_enter func212,ntmps212
 go_wp2
 go_ret
 exact ⟨rfl,rfl⟩
set_option maxHeartbeats 1000000 in
theorem Qj2 (a:Option Addr) (n c:Nat) (xs:List Int) (v:Int) (k:Nat) (base:Nat) (w:World) (ho:w.ownsRow base 5 1 (.slice a n c) n (u8s xs)) (hb:base<=w.heap.size) (v0:0<=v) (v1:v<18446744073709551616) (hk:k<=8) (hn:n<=900000) :
  Calls prog 211 #[.slice a n c,.int .u64 v,.int .i64 k] w λ e w'=>∃a' c',e=.returned (.slice a' (n+k) c')/\w'.ownsRow base 5 1 (.slice a' (n+k) c') (n+k) (u8s (xs ++ bigI k v))/\Below base w w':=by
 have H:=Jh2 ho hb;clear ho hb;go_enter func211,ntmps211
 go_wp2
 go_loopw [0,9] (λ s i wr=>∃(j:Nat) (a':Option Addr) (c':Nat),j<=k/\i=.int .i64 j/\s=.slice a' (n+j:Nat) c'/\wr.ownsRow base 5 1 (.slice a' (n+j) c') (n+j) (u8s (xs ++ (bigI k v).take j))/\Below base w wr/\base<=wr.heap.size)
  (λ _ i _=>k - (intOf i).toNat)
 case atStart=>exact ⟨0,a,c,by omega,rfl,rfl,by simpa using H.out.1,Below.refl _ _,H.out.2⟩
 case round=>
  obtain ⟨j,a',c',hj,rfl,rfl,ow,bl,hs⟩:=hrel;have HK:=Jh3 ow bl hs;clear ow bl hs;by_cases hlt:j<k
  ·have hlt':(j:Int)<k:=by omega
   go_wp2_with (at_builtin;refine Qak rfl (.tmp 12) (.tmp 21) rfl base a' (n+j) c' _ rfl (HK.out.1.alloc _) (some ⟨wr.heap.size,0,none⟩) 1 1 [v / 2 ^ (8*(k - 1 - j)) % 256] rfl (Qf6 rfl rfl rfl (Qq5 _) (by unfold maxLen;omega)) (λ h=>by cases h) (by omega) (by have:=(Jz2 HK);simp;omega) ?_;intro a2 c2 w2 ow2 bl2)
   go_roundw
   case rel=>
    have hbl:Below base w w2:=((J2 HK).alloc (Jz2 HK) _).trans bl2;refine ⟨j+1,a2,c2,by omega,by go_num,by rfl,?_,hbl,by have:=bl2.size;have:=(Jz2 HK);simp at *;omega⟩
    rw [List.append_assoc,Qrd k v hlt] at ow2;exact ow2
   case measure=>simp [intOf];omega
  ·have hge:(k:Int)<=j:=by omega
   have hjk:j=k:=by omega
   subst hjk;go_wp2
   go_ret
   refine ⟨a',c',rfl,?_,(J2 HK)⟩
   have:=HK.out.1;rwa [List.take_of_length_le (by rw [Qac];exact Nat.le_refl _)] at this
theorem Qo3 {P:Program} {id:Nat} {Q:Exit->Act->World->Prop} {a:Act} {w:World} {l:List Oper} (n:Nat) (hm:P.follows .mixedOrders=true) (hB:Region.lexTailB .any l.toArray n=true)
  (h:wpStill P l.toArray w.drew (λ a'=>wpList P l.toArray Q (l.drop n) a' w.drew) (l.take n) a):(Code.region id l.toArray true).wp P Q a w:=wp_region_still_tail n hm hB h
theorem p256:∀j:Nat,j<8->(256:Int) ^ j<=72057594037927936:=by decide
theorem shl8 {n x:Int} (hn:0<=n) (h1:n<72057594037927936) (hx:Qaf x):bits .or .u64 (n*256) x=n*256+x:=by
 have hc:bits .or .u64 (n*256) x=bits .or .u64 x (n*256):=by
  show IntKind.u64.wrap ((BitVec.ofInt 64 (n*256) ||| BitVec.ofInt 64 x).toNat:Int)=IntKind.u64.wrap ((BitVec.ofInt 64 x ||| BitVec.ofInt 64 (n*256)).toNat:Int);rw [BitVec.or_comm]
 rw [hc,u64_or8 _ _ hx.1 hx.2 (by omega) (by omega) (by omega),Int.add_comm]
def Q08:ByteArray:=⟨#[119,105,114,101,58,32,116,111,111,32,102,101,119,32,98,121,116,101,115]⟩
theorem Qs4 (g:Nat) (a:Option Addr) (n c k:Nat) (w:World) (hc:w.cell? ⟨g,0,none⟩=some (.slice a n c)) (hk:n<k) :
  Calls prog 285 #[.pointer (some ⟨g,0,none⟩),.int .i64 k] w λ e w'=>e=.panicked [{v:=.iface 9 (.string Q08),recovered:=false}]/\w'=w:=by
 have hlt:(n:Int)<k:=by omega
 go_enter func285,ntmps285
 go_wp2
 exact ⟨rfl,rfl,rfl⟩
set_option maxHeartbeats 1000000 in
theorem Qpe (g b off n c k:Nat) (xs:List Int) (w:World) (hc:w.cell? ⟨g,0,none⟩=some (.slice (some ⟨b,off,none⟩) n c)) (hz:w.frozen? ⟨g,0,none⟩=false)
  (h:∀i,i<n->w.cell? ⟨b,off+i,none⟩=some (.int .u8 (xs.getD i 0))) (hf:∀z∈xs,Qaf z) (hl:xs.length=n) (hk:k<=n) (hk8:k<=8) (hnc:n<=c) :
  Calls prog 285 #[.pointer (some ⟨g,0,none⟩),.int .i64 k] w λ e w'=>e=.returned (.int .u64 (numI (xs.take k)))/\w'=w.setCell ⟨g,0,none⟩ (sliced (some ⟨b,off,none⟩) k n c 1):=by
 have hge:(k:Int)<=n:=by omega
 have hge':(k:Int)<=c:=by omega
 have H:=Jh3 h hf hl;clear h hf hl;go_enter func285,ntmps285
 go_wp2
 go_loopw [5,23] (λ v i wr=>∃j:Nat,j<=k/\i=.int .i64 j/\v=.int .u64 (numI (xs.take j))/\wr=w)
  (λ _ i _=>k - (intOf i).toNat)
 case atStart=>exact ⟨0,by omega,rfl,rfl,rfl⟩
 case round=>
  obtain ⟨j,hj,rfl,rfl,rfl⟩:=hrel;by_cases hlt:j<k
  ·have hlt':(j:Int)<k:=by omega
   have hcj:=H.out.1 j (by omega);have hx:Qaf (xs.getD j 0):=Qij (J2 H) j;obtain ⟨x,ex⟩:∃x,x=xs.getD j 0:=⟨_,rfl⟩
   rw [<-ex] at hcj hx;obtain ⟨r0,r1⟩:=Qhi j (xs.take j) (by rw [List.length_take,(Jz2 H)];omega) (λ z hz=>(J2 H) z (List.mem_of_mem_take hz));have r2:numI (xs.take j)<72057594037927936:=by
    have:=p256 j (by omega);omega
   have hnx:numI (xs.take j)*256+x=numI (xs.take (j+1)):=by
    rw [Qd5 xs (by rw [(Jz2 H)];omega),Qgh,ex]
   obtain ⟨N,eN⟩:∃N,N=numI (xs.take j):=⟨_,rfl⟩
   rw [<-eN] at r0 r2 hnx ⊢;have hor:=shl8 r0 r2 hx;have HE:=Jh1 hnx;clear hnx eN ex r1;obtain ⟨hx0,hx1⟩:=hx;go_wp2
   go_roundw
   case rel=>exact ⟨j+1,by omega,by go_num,by rw [<-HE.out],trivial⟩
   case measure=>simp [intOf];omega
  ·have hge:(k:Int)<=j:=by omega
   have e:j=k:=by omega
   rw [e];clear e hlt hj;by_cases hck:c=k
   ·have hck':(c == k)=true:=by simp [hck]
    go_wp2
    go_ret
    exact ⟨rfl,by simp [sliced,hck]⟩
   ·go_wp2
    go_ret
    exact ⟨rfl,by simp [sliced,hck,Addr.add_mid]⟩
theorem Qu9 (g:Nat) (a:Option Addr) (n c k:Nat) (xs:List Int) (w:World) (hc:w.cell? ⟨g,0,none⟩=some (.slice a n c)) (hz:w.frozen? ⟨g,0,none⟩=false)
  (h:BIn w a n xs) (h1:1<=k) (hk:k<=n) (hk8:k<=8) (hnc:n<=c) :
  Calls prog 285 #[.pointer (some ⟨g,0,none⟩),.int .i64 k] w λ e w'=>e=.returned (.int .u64 (numI (xs.take k)))/\w'=w.setCell ⟨g,0,none⟩ (sliced a k n c 1):=by
 obtain ⟨b,off,rfl,hcell⟩:=h.2.2.2.resolve_left (by omega);exact Qpe g b off n c k xs w hc hz hcell h.2.2.1 h.1 hk hk8 hnc
theorem Qkd {W:World} {a:Option Addr} {k n c:Nat} {xs:List Int} (h:BIn W a n xs) (hk:k<=n) (hc:n<=c):∃a',sliced a k n c 1=.slice a' (n - k) (c - k)/\BIn W a' (n - k) (xs.drop k)/\(a≠none->a'≠none):=by
 have:=NIn.back h.n k hk hc;refine ⟨_,by unfold sliced;rw [Nat.mul_one],this.b,λ ha=>?_⟩
 split
 ·exact ha
 ·cases a with
  | none=>exact absurd rfl ha
  | some x=>simp
theorem Qsu (p q r:Addr) (w:World) :
  CallsD prog 284 #[.pointer (some p),.pointer (some q),.pointer (some r)] .returning w λ e u' w'=>e=.returned (.tuple #[])/\u'=.returning/\w'=w:=by
 refine callsD_of_wpS func284 rfl λ c₀ cs hu=>?_
 apply wpS_seq
 apply wpS_region
 simp [wpOpsS,go_sem,recoverD,hu,ntmps284,Exit.thenS]
 refine wpS_cond (t:=false) (by simp [Act.eval,Array.replicate]) ?_
 simp only [Bool.false_eq_true,if_false]
 refine wpS_of_wp (wp_skip ?_)
 cases c₀
 simp_all [bodyPostS,results,Tryz.results284]
theorem Qjg (g:Nat) (u:TypeId) (pv:Value) (older:List PanicEntry) (w:World) (v0 v1 v2:Value)
  (hp:w.cell? ⟨g,0,none⟩=some v0) (hq:w.cell? ⟨g+1,0,none⟩=some v1) (hr:w.cell? ⟨g+2,0,none⟩=some v2) (zp:w.frozen? ⟨g,0,none⟩=false) (zq:w.frozen? ⟨g+1,0,none⟩=false) (zr:w.frozen? ⟨g+2,0,none⟩=false) :
  CallsD prog 284 #[.pointer (some ⟨g,0,none⟩),.pointer (some ⟨g+1,0,none⟩),.pointer (some ⟨g+2,0,none⟩)] (.panicking ({v:=.iface u pv,recovered:=false} :: older)) w λ e u' w'=>
   e=.returned (.tuple #[])/\u'=.panicking ({v:=.iface u pv,recovered:=true} :: older)/\w'=((w.setCell ⟨g,0,none⟩ (.slice none 0 0)).setCell ⟨g+1,0,none⟩ (.slice none 0 0)).setCell ⟨g+2,0,none⟩ (.bool false):=by
 refine callsD_of_wpS func284 rfl λ c₀ cs hu=>?_
 apply wpS_seq
 apply wpS_region
 simp [wpOpsS,go_sem,recoverD,hu,ntmps284,Exit.thenS]
 refine wpS_cond (t:=true) (by simp [Act.eval,Array.replicate]) ?_
 simp only [if_true]
 apply wpS_region
 simp [wpOpsS,go_sem,hp,hq,hr,zp,zq,zr,bodyPostS,results,Tryz.results284]
theorem Qe2 {k:IntKind} {e t:TypeId} {size:Nat} (ht:prog.underlying t=some (.slice e)) (hinfo:(prog.info? e).map (λ i=>(i.zero,i.size,i.bytes))=some (some (.int k 0),1,size)) (hsz:size<=8)
  {ops:Array Oper} {o:Oper} {a:Act} {w:World} {K:Act->World->Prop} {Q:Exit->Act->World->Prop} {E:Prop} (hg:o.guard=none) (s x:Operand)
  (hop:o.op=.call {callee:=.builtin .append,args:=#[s,x],argTypes:=#[t,t]}) (base:Nat)
  (a0:Option Addr) (n0 c0:Nat) (xs:List Int) (hs:a.eval s=.slice a0 n0 c0) (hown:w.ownsRow base e 1 (.slice a0 n0 c0) n0 (Qaj k xs))
  (a1:Option Addr) (n1 c1:Nat) (zs:List Int) (hx:a.eval x=.slice a1 n1 c1) (hin:NIn k w a1 n1 zs) (hnil:a1=none->n1=0/\c1=0)
  (hle:n0+n1<=1000000) (hbase:base<=w.heap.size)
  (hK:∀a' c' w',w'.ownsRow base e 1 (.slice a' (n0+n1) c') (n0+n1) (Qaj k (xs ++ zs))->Below base w w'->K (a.put o.dst (.slice a' (n0+n1) c')) w') :
  if Region.wanted o (yielded ops a.tmps)=true then Oper.wp prog o a w K Q else E:=by
 have hw:Region.wanted o (yielded ops a.tmps)=true:=by simp [Region.wanted,hg]
 rw [if_pos hw];obtain ⟨i0,hi,hz0,hz1,hz2⟩:=info_parts hinfo;obtain ⟨hl,hm,hfit,hcell⟩:=hin;cases a1 with
 | none=>
  obtain ⟨rfl,rfl⟩:=hnil rfl;have:zs=[]:=List.length_eq_zero_iff.1 hl;subst this;have hrun:=run_append_owned_none (P:=prog) (w:=w) base t o.type e i0 1 ht hi _ n0 (Qaj k xs) hown;unfold Oper.wp;simp [execOp,hop,resolve,invoke,builtin,hs,hx,hrun,Result.andThen]
  have:=hK a0 c0 w (by simpa using hown) (Below.refl _ _);exact this
 | some ad=>
  have hle':=Nat.mul_le_mul hle hsz;obtain ⟨v',w',hrun,hown',hgrow,_⟩:=run_append_own (P:=prog) w base t o.type e i0 (.int k 0) 1 size ht hi hz0 hz1 hz2 rfl (by decide) _ n0 (Qaj k xs) hown ad n1 c1 (Qaj k zs) (by simp [Qaj,hl]) (by
   intro j u hj;have hjl:j<n1:=by
    have:=(List.getElem?_eq_some_iff.1 hj).1;rwa [Qeo,hl] at this
   rcases hcell with hc | ⟨b,off,ha,hc⟩
   ·omega
   ·cases ha
    rw [Addr.add_mid,hc j hjl,<-hj];simp [Qaj,List.getD,hl,hjl]) (Qjn _ _) (by unfold maxLen;omega) (by omega) hbase
  have hb:Below base w w':=(Below.refl base w).grown hgrow hbase (λ k hk=>(hown.lt k hk).1);have hcat:Qaj k xs ++ Qaj k zs=Qaj k (xs ++ zs):=by simp [Qaj]
  rw [hcat] at hown';obtain ⟨a',c',rfl⟩:∃a' c',v'=.slice a' (n0+n1) c':=by
   rcases hown'.2 with ⟨hv,hn⟩ | ⟨g,cap,cur,hv,_⟩
   ·exact ⟨none,0,by rw [hv,hn]⟩
   ·exact ⟨_,_,hv⟩
  unfold Oper.wp;simp [execOp,hop,resolve,invoke,builtin,hs,hx,hrun,Result.andThen]
  exact hK a' c' w' hown' hb
structure TakeSt (q:Nat) (w wr:World) (A:Option Addr) (j C:Nat) (vs:List Int) (L:Option Addr) (n c:Nat) (ys:List Int):Prop where
 vals:Blk wr q [.slice A j C] 46
 rest:Blk wr (q+1) [.slice none 0 0] 71
 flag:Blk wr (q+2) [.bool false] 4
 left:Blk wr (q+3) [.slice L n c] 348
 own:wr.ownsRow (q+4) 45 1 (.slice A j C) j (Qaj .u64 vs)
 bin:BIn w L n ys
 nil:L=none->n=0/\c=0
 cap:n<=c
 bel:Below q w wr
 size:q+4<=wr.heap.size
 heap:q=w.heap.size
theorem TakeSt.binr {q:Nat} {w wr:World} {A:Option Addr} {j C:Nat} {vs:List Int} {L:Option Addr} {n c:Nat} {ys:List Int} (h:TakeSt q w wr A j C vs L n c ys):BIn wr L n ys:=h.bin.below (by rw [<-h.heap];exact h.bel)
theorem TakeSt.drew {q:Nat} {w wr:World} {A:Option Addr} {j C:Nat} {vs:List Int} {L:Option Addr} {n c:Nat} {ys:List Int} (h:TakeSt q w wr A j C vs L n c ys):TakeSt q w wr.drew A j C vs L n c ys:=
 ⟨h.vals.drew,h.rest.drew,h.flag.drew,h.left.drew,h.own.drew,h.bin,h.nil,h.cap,h.bel.drew,h.size,h.heap⟩
theorem TakeSt.took {q:Nat} {w wr:World} {A:Option Addr} {j C:Nat} {vs:List Int} {L:Option Addr} {n c:Nat} {ys:List Int} (h:TakeSt q w wr A j C vs L n c ys) (k:Nat) (h1:1<=k) (hk:k<=n) :
  ∃L',sliced L k n c 1=.slice L' (n - k) (c - k)/\TakeSt q w (wr.setCell ⟨q+3,0,none⟩ (.slice L' (n - k) (c - k))) A j C vs L' (n - k) (c - k) (ys.drop k):=by
 obtain ⟨L',e,hb,hn⟩:=Qkd h.bin hk h.cap;have hne:L≠none:=λ e=>by have:=h.nil e;omega
 refine ⟨L',e,h.vals.set_other (by show q≠q+3;omega) _,h.rest.set_other (by show q+1≠q+3;omega) _,h.flag.set_other (by show q+2≠q+3;omega) _,?_,ownsRow_setCell_below h.own (by show q+3<q+4;omega) _,hb,λ e=>absurd e (hn hne),by have:=h.cap;omega,h.bel.setCell (by show q<=q+3;omega) _,?_,h.heap⟩
 ·exact h.left.set 0 _
 ·have:=h.size;simpa [World.setCell] using this
theorem TakeSt.more {q:Nat} {w wr w':World} {A A':Option Addr} {j j' C C':Nat} {vs vs':List Int} {L:Option Addr} {n c:Nat} {ys:List Int} (h:TakeSt q w wr A j C vs L n c ys)
  (ho:w'.ownsRow (q+4) 45 1 (.slice A' j' C') j' (Qaj .u64 vs')) (hb:Below (q+4) wr w'):TakeSt q w (w'.setCell ⟨q,0,none⟩ (.slice A' j' C')) A' j' C' vs' L n c ys:=by
 refine ⟨(h.vals.below hb (by omega)).set 0 _,(h.rest.below hb (by omega)).set_other (by show q+1≠q;omega) _,(h.flag.below hb (by omega)).set_other (by show q+2≠q;omega) _,(h.left.below hb (by omega)).set_other (by show q+3≠q;omega) _,ownsRow_setCell_below ho (by show q<q+4;omega) _,h.bin,h.nil,h.cap,(h.bel.trans (hb.mono (by omega))).setCell (Nat.le_refl _) _,?_,h.heap⟩
 have:=h.size;have:=hb.size;simp [World.setCell]
 omega
def Qcw (xs ws:List Int):List Int:=if offL ws<=xs.length then valL xs ws else []
def Qei (xs ws:List Int):List Int:=if offL ws<=xs.length then xs.drop (offL ws) else []
theorem Q3k (w:World) (a b c d:Obj):((((w.alloc a).alloc b).alloc c).alloc d).heap.size=w.heap.size+4:=by simp
theorem Qsb (q:Nat) (w:World) (hq:q=w.heap.size) (L:Option Addr) (n c:Nat) (ys:List Int) (hb:BIn w L n ys) (hnil:L=none->n=0/\c=0) (hc:n<=c) :
  TakeSt q w ((((w.alloc (.cells #[.slice none 0 0] 46)).alloc (.cells #[.slice none 0 0] 71)).alloc (.cells #[.bool false] 4)).alloc (.cells #[.slice L n c] 348)) none 0 0 [] L n c ys:=by
 subst hq;refine ⟨?_,?_,?_,?_,World.ownsRow_nil _ _ _ _,hb,hnil,hc,?_,by rw [Q3k];exact Nat.le_refl _,rfl⟩
 ·exact (((Blk.new' rfl rfl).alloc _).alloc _).alloc _
 ·exact ((Blk.new' (by simp) rfl).alloc _).alloc _
 ·exact (Blk.new' (by simp) rfl).alloc _
 ·exact Blk.new' (by simp) rfl
 ·exact ((((Below.refl _ _).alloc (Nat.le_refl _) _).alloc (by simp) _).alloc (by simp;omega) _).alloc (by simp;omega) _
theorem Qbx {t:TypeId} {w w':World} {base B:Nat} {v:Value} {n:Nat} {zs:List Value} (h:w.ownsRow base t 1 v n zs) (hb:Below B w w') (hs:w.heap.size<=B):w'.ownsRow base t 1 v n zs:=by
 refine ⟨h.1,?_⟩
 rcases h.2 with h2 | ⟨g,cap,cur,hv,hbg,hg,hr⟩
 ·exact .inl h2
 ·exact .inr ⟨g,cap,cur,hv,hbg,by rw [hb.block g (Nat.lt_of_lt_of_le (Array.getElem?_eq_some_iff.1 hg).1 hs)];exact hg,hr⟩
theorem Qvb (a:Act) (v:Value) {d s:Nat} (h:d≠s):(a.put (some d) v).tmps.getD s undef=a.tmps.getD s undef:=by
 simp [Act.put,Array.getD_eq_getD_getElem?,h]
def Died (q:Nat) (W:World) (e:Exit) (a:Act) (w:World):Prop:=
 e=.panic [{v:=.iface 9 (.string Q08),recovered:=false}]/\w=W/\a.defers=[{target:=.fn (.func 284) #[.pointer (some ⟨q,0,none⟩),.pointer (some ⟨q+1,0,none⟩),.pointer (some ⟨q+2,0,none⟩)],args:=#[]}]/\a.tmps.getD 4 undef=.pointer (some ⟨q,0,none⟩)/\a.tmps.getD 5 undef=.pointer (some ⟨q+1,0,none⟩)/\a.tmps.getD 6 undef=.pointer (some ⟨q+2,0,none⟩)
theorem Died.put {q:Nat} {W:World} {e:Exit} {a:Act} {w:World} {v:Value} {d:Nat} (hd:6<d) (h:Died q W e (a.put (some d) v) w):Died q W e a w:=by
 obtain ⟨h1,h2,h3,h4,h5,h6⟩:=h;rw [Qvb _ _ (by omega)] at h4 h5 h6;exact ⟨h1,h2,h3,h4,h5,h6⟩
theorem Qhw (q:Nat) (tmps:Array Value) (w:World) (v0 v1 v2:Value) (h4:tmps.getD 4 undef=.pointer (some ⟨q,0,none⟩)) (h5:tmps.getD 5 undef=.pointer (some ⟨q+1,0,none⟩)) (h6:tmps.getD 6 undef=.pointer (some ⟨q+2,0,none⟩))
  (c0:w.cell? ⟨q,0,none⟩=some v0) (c1:w.cell? ⟨q+1,0,none⟩=some v1) (c2:w.cell? ⟨q+2,0,none⟩=some v2) :
  (results Tryz.f268 tmps).run prog w=.ok (.tuple #[v0,v1,v2]) w:=by
 have k4:tmps[4]?.getD undef=.pointer (some ⟨q,0,none⟩):=by simpa using h4
 have k5:tmps[5]?.getD undef=.pointer (some ⟨q+1,0,none⟩):=by simpa using h5
 have k6:tmps[6]?.getD undef=.pointer (some ⟨q+2,0,none⟩):=by simpa using h6
 simp [results,Tryz.results268,go_sem,k4,k5,k6,c0,c1,c2]
set_option maxHeartbeats 2000000 in
theorem Qus (a:Option Addr) (n c:Nat) (xs:List Int) (b:Option Addr) (m d:Nat) (ws:List Int) (w:World) (hx:BIn w a n xs) (hnil:a=none->n=0/\c=0) (hnc:n<=c) (hy:NIn .i64 w b m ws) (hn:n<=100000) (hm:m<=100000) :
  Calls prog 268 #[.slice a n c,.slice b m d] w λ e w'=>∃A k C R r D,e=.returned (.tuple #[.slice A k C,.slice R r D,.bool (decide (offL ws<=xs.length))])/\w'.ownsRow w.heap.size 45 1 (.slice A k C) k (Qaj .u64 (Qcw xs ws))/\w'.ownsRow w.heap.size 5 1 (.slice R r D) r (u8s (Qei xs ws))/\Below w.heap.size w w':=by
 have hmf:∀(fn:Fn) (first cap:Array Value) (w:World),(Instr.makeFunc fn first cap).run prog w=.ok (.func fn first cap) w:=λ _ _ _ _=>rfl
 obtain ⟨q,hq⟩:∃q,q=w.heap.size:=⟨_,rfl⟩
 have hst:=Qsb q w hq a n c xs hx hnil hnc;have H:=Jh3 hx hy hq;have H0:=Jh1 hst;clear hx hy hst hnil hnc;go_enter_defers func268,ntmps268
 go_wp2
 rw [<-hq];clear hq;generalize hW:World.alloc (World.alloc (World.alloc (World.alloc w _) _) _) _=W;rw [hW] at H0;clear hW;have e2:q+1+1=q+2:=rfl;have e3:q+1+1+1=q+3:=rfl;rw [e3,e2];clear e2 e3;go_loopw [15] (λ i wr=>∃(j:Nat) (A:Option Addr) (C:Nat) (L:Option Addr) (n' c':Nat),j<=m/\i=.int .i64 j/\offL (ws.take j)+n'=n/\TakeSt q w wr A j C (valL xs (ws.take j)) L n' c' (xs.drop (offL (ws.take j))))
  (λ i _=>m - (intOf i).toNat)
 case atStart=>exact ⟨0,none,0,a,n,c,by omega,rfl,by simp [offL],by simpa [offL,valL] using H0.out⟩
 case round=>
  obtain ⟨j,A,C,L,n',c',hj,rfl,hoff,st⟩:=hrel;by_cases hlt:j<m
  ·have hlt':(j:Int)<m:=by omega
   obtain ⟨b1,o1,rfl,hc1⟩:=(J2 H).2.2.2.resolve_left (by omega);have cw:wr.cell? ⟨b1,o1+j,none⟩=some (.int .i64 (ws.getD j 0)):=by rw [st.bel.cell (by rw [(Jz2 H)];exact Qaa (hc1 j (by omega)))];exact hc1 j (by omega)
   have hnx:=Qd5 ws (i:=j) (by rw [(J2 H).1];omega);clear hc1;obtain ⟨X,eX⟩:∃X,X=ws.getD j 0:=⟨_,rfl⟩
   rw [<-eX] at cw hnx;have HX:=Jh2 hnx hoff;clear eX hnx hoff;obtain ⟨K,hK⟩:∃K,K=wd X:=⟨_,rfl⟩
   have cS:=Qw5 X wr.drew;have hw8:=Qw3 X;have hw1:=Qwc X;rw [<-hK] at cS hw8 hw1;have HK:=Jh1 hK;clear hK;have HT:=Jh1 st;clear st;go_wp2
   by_cases hen:K<=n'
   ·have cN:=Qu9 (q+3) L n' c' K _ wr.drew (HT.out.drew.left.cell 0) (HT.out.drew.left.frozen 0) HT.out.drew.binr hw1 hen hw8 HT.out.cap
    obtain ⟨L',eL,st'⟩:=HT.out.drew.took K hw1 hen;rw [eL] at cN;have HN:=Jh1 st';have v1:wr.cell? ⟨q,0,none⟩=some (.slice A j C):=HT.out.vals.cell 0;clear st' eL;have hNf:Qai (numI (((xs.drop (offL (ws.take j)))).take K)):=Qqz (by rw [List.length_take];omega) (λ z hz=>H.out.1.2.2.1 z (List.mem_of_mem_drop (List.mem_of_mem_take hz)));obtain ⟨N,eN⟩:∃N,N=numI (((xs.drop (offL (ws.take j)))).take K):=⟨_,rfl⟩
    rw [<-eN] at cN hNf;generalize hY:World.setCell (World.drew wr) _ _=Y at cN HN;have v0:Y.cell? ⟨q,0,none⟩=some (.slice A j C):=HN.out.vals.cell 0;have v2:∀o,(Y.alloc o).cell? ⟨q,0,none⟩=some (.slice A j C):=λ o=>(HN.out.vals.alloc o).cell 0
    have HV:=Jh3 eN hNf hen;clear eN hNf hen hY;refine wp_region_noPanic ?_
    go_region_law (first
     | (go_simp;go_at_call 212;refine cS.mono ?_;rintro e w1 ⟨rfl,rfl⟩)
     | (go_simp;go_at_call 285;refine cN.mono ?_;rintro e Y ⟨rfl,rfl⟩)
     | (refine Qe2 (k:=.u64) (size:=8) Tryz.underlying46 Tryz.zero_u64 (by decide) rfl (.tmp 19) (.tmp 23) rfl (q+4) A j C (valL xs (ws.take j)) rfl (HN.out.own.alloc _) (some ⟨Y.heap.size,0,none⟩) 1 1 [N] rfl (Qfz rfl rfl rfl (by intro z hz;simp only [List.mem_cons,List.not_mem_nil,or_false] at hz;subst hz;exact wfU (J2 HV)) (by unfold maxLen;omega)) (λ h=>by cases h) (by omega) (by have:=HN.out.size;simp;omega) ?_;intro A2 C2 w2 ow2 bl2;have b2:Below (q+4) Y w2:=((Below.refl _ _).alloc HN.out.size _).trans bl2;have k2:w2.cell? ⟨q,0,none⟩=some (.slice A j C):=(HN.out.vals.below b2 (by omega)).cell 0;have f2:w2.frozen? ⟨q,0,none⟩=false:=(HN.out.vals.below b2 (by omega)).frozen 0))
    all_goals (
     have HZ:Hid (TakeSt q w (w2.setCell ⟨q,0,none⟩ (.slice A2 (j+1) C2)) A2 (j+1) C2 (valL xs (ws.take (j+1))) L' (n' - K) (c' - K) (xs.drop (offL (ws.take (j+1))))):=by
      have e1:valL xs (ws.take (j+1))=valL xs (ws.take j) ++ [N]:=by rw [HX.out.1,Qnv,HV.out.1,HK.out]
      have e2:xs.drop (offL (ws.take (j+1)))=(xs.drop (offL (ws.take j))).drop K:=by rw [HX.out.1,Qe4,List.drop_drop,HK.out]
      rw [<-e1] at ow2;rw [e2];exact HN.out.more ow2 b2
     clear ow2 bl2 b2 k2 f2;refine NoPanic.normal ?_
     go_wp2
     go_roundw
     case rel=>exact ⟨j+1,A2,C2,L',n' - K,c' - K,by omega,by go_num,by rw [HX.out.1,Qe4,<-HK.out];have:=HX.out.2;have:=(Jz2 HV);omega,HZ.out⟩
     case measure=>simp [intOf];omega)
   ·have cF:=Qs4 (q+3) L n' c' K wr.drew (HT.out.drew.left.cell 0) (by omega)
    have v1:wr.cell? ⟨q,0,none⟩=some (.slice A j C):=HT.out.vals.cell 0;have HV:Hid (n'<K):=by show n'<K;omega
    clear hen;refine Code.wp_mono (Q:=Died q wr.drew) ?_ ?_
    ·rintro e ⟨tmps,defers⟩ w' ⟨rfl,rfl,h3,h4,h5,h6⟩
     dsimp only at h3 h4 h5 h6
     subst h3;show Leaves prog Tryz.f268 tmps _ _ _ _;refine leaves_cons (f:=284) (args:=#[.pointer (some ⟨q,0,none⟩),.pointer (some ⟨q+1,0,none⟩),.pointer (some ⟨q+2,0,none⟩)]) (by simp) (by simp [go_sem]) ?_
     have st:=HT.out.drew;refine (Qjg q 9 _ [] _ _ _ _ (st.vals.cell 0) (st.rest.cell 0) (st.flag.cell 0) (st.vals.frozen 0) (st.rest.frozen 0) (st.flag.frozen 0)).mono ?_
     rintro e u' w'' ⟨rfl,rfl,rfl⟩;have k0:=((st.vals.set 0 (.slice none 0 0)).set_other (a:=⟨q+1,0,none⟩) (by show q≠q+1;omega) (.slice none 0 0)).set_other (a:=⟨q+2,0,none⟩) (by show q≠q+2;omega) (.bool false);have k1:=((st.rest.set_other (a:=⟨q,0,none⟩) (by show q+1≠q;omega) (.slice none 0 0)).set 0 (.slice none 0 0)).set_other (a:=⟨q+2,0,none⟩) (by show q+1≠q+2;omega) (.bool false);have k2:=((st.flag.set_other (a:=⟨q,0,none⟩) (by show q+2≠q;omega) (.slice none 0 0)).set_other (a:=⟨q+1,0,none⟩) (by show q+2≠q+1;omega) (.slice none 0 0)).set 0 (.bool false);refine ⟨_,Qhw q tmps _ _ _ _ h4 h5 h6 (k0.cell 0) (k1.cell 0) (k2.cell 0),none,0,0,none,0,0,?_⟩
     ·have hno:¬offL ws<=xs.length:=by
       have h1:=Qnw ws (j+1);rw [HX.out.1,Qe4,<-HK.out] at h1;have h2:=HX.out.2;have h3:=HV.out;rw [H.out.1.1];omega
      rw [show Qcw xs ws=[] by unfold Qcw;rw [if_neg hno],show Qei xs ws=[] by unfold Qei;rw [if_neg hno],decide_eq_false hno];refine ⟨rfl,World.ownsRow_nil _ _ _ _,World.ownsRow_nil _ _ _ _,?_⟩
      rw [<-(Jz2 H)];exact ((st.bel.setCell (Nat.le_refl _) _).setCell (by show q<=q+1;omega) _).setCell (by show q<=q+2;omega) _
    ·refine wp_region_held_drew (S:=λ w'=>w'=wr.drew) (by kernel_rfl) rfl (λ hS=>?_)
     refine wpAnyH_take (i:=0) (oi:={dst:=some 19,op:=Op.load 46 (Operand.tmp 4),type:=46,pos:="wire.go:30",after:=#[],guard:=none}) (v:=.slice A j C) rfl (by kernel_rfl) (by kernel_rfl) (by kernel_rfl) (λ _ _ _ h=>Died.put (by decide) h) (Or.inl ⟨by rfl,λ w hw=>by subst hw;go_simp⟩) hS ?_
     simp only [Act.put,List.setIfInBounds_toArray,List.set_cons_zero,List.set_cons_succ]
     refine wpAnyH_take (i:=1) (oi:={dst:=some 20,op:=Op.move (Operand.tmp 9),type:=3,pos:="wire.go:30",after:=#[],guard:=none}) (v:=.int .i64 X) rfl (by kernel_rfl) (by kernel_rfl) (by kernel_rfl) (λ _ _ _ h=>Died.put (by decide) h) (Or.inl ⟨by rfl,λ w hw=>by subst hw;(go_simp;try with_reducible rfl)⟩) hS ?_
     simp only [Act.put,List.setIfInBounds_toArray,List.set_cons_zero,List.set_cons_succ]
     refine wpAnyH_ready (rs:=[2]) (by kernel_rfl) (by simp) (AllReadyH.cons (o:={dst:=some 21,op:=Op.call {callee:=Callee.value (Operand.func 212),args:=#[Operand.tmp 20],argTypes:=#[3]},type:=3,pos:="wire.go:30",after:=#[{on:=1,ground:=Ground.data}],guard:=none}) rfl (λ KK hK=>?_) AllReadyH.nil)
     go_simp
     refine cS.mono ?_
     rintro e w1 ⟨rfl,rfl⟩;refine hK.out _ _ rfl (λ hS'=>?_)
     clear hK KK hS';refine wpAnyH_ready (rs:=[3]) (by kernel_rfl) (by simp) (AllReadyH.cons (o:={dst:=some 22,op:=Op.call {callee:=Callee.value (Operand.func 285),args:=#[Operand.tmp 7,Operand.tmp 21],argTypes:=#[348,3]},type:=45,pos:="wire.go:30",after:=#[{on:=2,ground:=Ground.data},{on:=2,ground:=Ground.chain}],guard:=none}) rfl (λ KK hK=>?_) AllReadyH.nil)
     go_simp
     refine cF.mono ?_
     rintro e w1 ⟨rfl,rfl⟩;exact ⟨rfl,rfl,rfl,rfl,rfl,rfl⟩
  ·have hge:(m:Int)<=j:=by omega
   have hjm:j=m:=by omega
   subst hjm;have eT:ws.take j=ws:=List.take_of_length_le (by rw [(J2 H).1];exact Nat.le_refl _);rw [eT] at hoff st;have HT:=Jh2 st hoff;clear st hoff eT hlt hj;have v1:wr.cell? ⟨q,0,none⟩=some (.slice A j C):=HT.out.1.vals.cell 0;have v3:wr.cell? ⟨q+3,0,none⟩=some (.slice L n' c'):=HT.out.1.left.cell 0;have hn':n'<=100000:=by have:=HT.out.2;omega
   go_wp2
   refine wp_region_noPanic ?_
   go_region_law (refine Qe2 (k:=.u8) (size:=1) Tryz.underlying71 Tryz.zero_u8 (by decide) rfl (.const (.slice none 0 0)) (.tmp 28) rfl wr.heap.size none 0 0 [] rfl (World.ownsRow_nil _ _ _ _) L n' c' (xs.drop (offL ws)) rfl HT.out.1.drew.binr.n HT.out.1.nil (by omega) (Nat.le_refl _) ?_;intro R D w2 ow2 bl2;have b2:Below wr.heap.size wr w2:=(Below.refl _ _).drew.trans bl2;have hsz:=HT.out.1.size;have k0:=HT.out.1.vals.below b2 (by omega);have k1:=HT.out.1.rest.below b2 (by omega);have k2:=HT.out.1.flag.below b2 (by omega);have c0:w2.cell? ⟨q,0,none⟩=some (.slice A j C):=k0.cell 0;have c1:w2.cell? ⟨q+1,0,none⟩=some (.slice none 0 0):=k1.cell 0;have c2:w2.cell? ⟨q+2,0,none⟩=some (.bool false):=k2.cell 0;have f0:=k0.frozen 0;have f1:=k1.frozen 0;have f2:=k2.frozen 0)
   all_goals (
    refine NoPanic.normal ?_
    go_wp2
    refine leaves_cons (f:=284) (args:=#[.pointer (some ⟨q,0,none⟩),.pointer (some ⟨q+1,0,none⟩),.pointer (some ⟨q+2,0,none⟩)]) (by simp) (by simp [go_sem]) ?_
    refine (Qsu _ _ _ _).mono ?_
    rintro e u' w'' ⟨rfl,rfl,rfl⟩;have g0:=((k0.set 0 (.slice A j C)).set_other (a:=⟨q+1,0,none⟩) (by show q≠q+1;omega) (.slice R n' D)).set_other (a:=⟨q+2,0,none⟩) (by show q≠q+2;omega) (.bool true);have g1:=((k1.set_other (a:=⟨q,0,none⟩) (by show q+1≠q;omega) (.slice A j C)).set 0 (.slice R n' D)).set_other (a:=⟨q+2,0,none⟩) (by show q+1≠q+2;omega) (.bool true);have g2:=((k2.set_other (a:=⟨q,0,none⟩) (by show q+2≠q;omega) (.slice A j C)).set_other (a:=⟨q+1,0,none⟩) (by show q+2≠q+1;omega) (.slice R n' D)).set 0 (.bool true);have hyes:offL ws<=xs.length:=by have:=HT.out.2;rw [H.out.1.1];omega
    refine ⟨_,Qhw q _ _ _ _ _ rfl rfl rfl (g0.cell 0) (g1.cell 0) (g2.cell 0),A,j,C,R,n',D,?_⟩
    rw [show Qcw xs ws=valL xs ws by unfold Qcw;rw [if_pos hyes],show Qei xs ws=xs.drop (offL ws) by unfold Qei;rw [if_pos hyes],decide_eq_true hyes];have hb:Below q w w2:=HT.out.1.bel.trans (b2.mono (by omega));rw [<-(Jz2 H)];refine ⟨rfl,?_,?_,((hb.setCell (Nat.le_refl _) _).setCell (by show q<=q+1;omega) _).setCell (by show q<=q+2;omega) _⟩
    ·have h1:=Qbx HT.out.1.own b2 (Nat.le_refl _)
     exact Qa3 (ownsRow_setCell_below (ownsRow_setCell_below (ownsRow_setCell_below h1 (by show q<q+4;omega) _) (by show q+1<q+4;omega) _) (by show q+2<q+4;omega) _) (by omega)
    ·have h1:w2.ownsRow wr.heap.size 5 1 (.slice R n' D) n' (u8s (xs.drop (offL ws))):=by simpa [Qwo] using ow2
     exact Qa3 (ownsRow_setCell_below (ownsRow_setCell_below (ownsRow_setCell_below h1 (by show q<_;omega) _) (by show q+1<_;omega) _) (by show q+2<_;omega) _) (by omega))
theorem Qmt (ws vs:List Int) {i:Nat} (h1:i<ws.length) (h2:i<vs.length) :
  Qan (ws.take (i+1)) (vs.take (i+1))=Qan (ws.take i) (vs.take i) ++ bigI (wd (ws.getD i 0)) (vs.getD i 0):=by
 rw [Qd5 ws h1,Qd5 vs h2,Qs9 _ _ _ _ (by rw [List.length_take,List.length_take];omega)]
theorem Qqn (ws vs:List Int):(Qan ws vs).length<=8*ws.length:=by
 have h:=Qg8 ws vs (min ws.length vs.length) rfl;rw [<-h,Qoi _ _ (by rw [List.length_take,List.length_take];omega)];have:=Qom (ws.take (min ws.length vs.length));rw [List.length_take] at this;omega
set_option maxHeartbeats 1000000 in
theorem Qpk (a:Option Addr) (n c:Nat) (ws:List Int) (b:Option Addr) (m d:Nat) (vs:List Int) (w:World) (hx:NIn .i64 w a n ws) (hy:NIn .u64 w b m vs) (hn:n<=100000) (hm:m<=100000) :
  Calls prog 144 #[.slice a n c,.slice b m d] w λ e w'=>∃a' k' c',e=.returned (.slice a' k' c')/\k'=(Qan ws vs).length/\w'.ownsRow w.heap.size 5 1 (.slice a' k' c') k' (u8s (Qan ws vs))/\Below w.heap.size w w':=by
 obtain ⟨i0,hi0,hz0,hz1,hz2⟩:=info_parts Tryz.zero_u8;obtain ⟨q,hq⟩:∃q,q=w.heap.size:=⟨_,rfl⟩
 obtain ⟨M,hM⟩:∃M:Nat,M=min n m:=⟨_,rfl⟩
 have hM':(if m<n then (m:Int) else n)=M:=by rw [hM];split <;> omega
 have hMb:M<=100000:=by omega
 have H:Hid (NIn .i64 w a n ws/\NIn .u64 w b m vs/\q=w.heap.size/\prog.info? 5=some i0/\i0.zero=some (.int .u8 0)/\i0.size=1/\i0.bytes=1/\M=min n m):=⟨hx,hy,hq,hi0,hz0,hz1,hz2,hM⟩
 have hMn:M<=n:=by omega
 have hMm:M<=m:=by omega
 rw [<-hq];clear hx hy hi0 hz0 hz1 hz2 hM;go_enter func144,ntmps144
 go_upto_region 3 with (at_make;refine wpList_make_own w rfl _ (.tmp 14) 71 rfl q 5 i0 (.int .u8 0) 1 Tryz.underlying71 (J4 H) (J5 H) (J6 H) .i64 .i64 _ (8*M) rfl rfl (by omega) (by rw [(J7 H)];omega) (by unfold maxLen;omega) (by rw [(J3 H)];exact Nat.le_refl _) ?_;intro w1 ow1 gr1)
 have bl1:Below q w w1:=(Below.refl _ _).grown gr1 (by rw [(J3 H)];exact Nat.le_refl _) (λ g hg=>by cases hg);have H1:Hid (w1.ownsRow q 5 1 (.slice (some ⟨w.heap.size,0,none⟩) 0 (8*M)) 0 (u8s [])/\Below q w w1):=⟨ow1,bl1⟩
 rw [<-hq] at H1 ⊢;clear hq ow1 gr1 bl1 hM';go_wp2
 go_loopw [6,17] (λ s i wr=>∃(j:Nat) (a':Option Addr) (k' c':Nat),j<=M/\i=.int .i64 j/\s=.slice a' k' c'/\k'=(Qan (ws.take j) (vs.take j)).length/\wr.ownsRow q 5 1 (.slice a' k' c') k' (u8s (Qan (ws.take j) (vs.take j)))/\Below q w wr)
  (λ _ i _=>M - (intOf i).toNat)
 case atStart=>exact ⟨0,_,_,_,by omega,rfl,rfl,rfl,by simpa [Qan] using H1.out.1,H1.out.2⟩
 case round=>
  obtain ⟨j,a',k',c',hj,rfl,rfl,hk',ow,bl⟩:=hrel;have HK:Hid (k'=(Qan (ws.take j) (vs.take j)).length/\wr.ownsRow q 5 1 (.slice a' k' c') k' (u8s (Qan (ws.take j) (vs.take j)))/\Below q w wr):=⟨hk',ow,bl⟩
  have hkb:k'<=800000:=by
   have:=Qqn (ws.take j) (vs.take j);rw [List.length_take] at this;omega
  clear ow bl hk';by_cases hlt:j<M
  ·have hlt':(j:Int)<M:=by omega
   have hjn:(j:Int)<n:=by omega
   have hjm:(j:Int)<m:=by omega
   have hqs:Hid (Below w.heap.size w wr/\q<=wr.heap.size):=⟨by rw [<-(J3 H)];exact (Jz2 HK),by have:=(Jz2 HK).size;rw [(J3 H)] at *;exact this⟩
   obtain ⟨b1,o1,rfl,hc1⟩:=H.out.1.2.2.2.resolve_left (by omega);obtain ⟨b2,o2,rfl,hc2⟩:=(J2 H).2.2.2.resolve_left (by omega);have cw:wr.cell? ⟨b1,o1+j,none⟩=some (.int .i64 (ws.getD j 0)):=by rw [hqs.out.1.cell (Qaa (hc1 j (by omega)))];exact hc1 j (by omega)
   have cv:wr.cell? ⟨b2,o2+j,none⟩=some (.int .u64 (vs.getD j 0)):=by rw [hqs.out.1.cell (Qaa (hc2 j (by omega)))];exact hc2 j (by omega)
   clear hc1 hc2;have hv:=Q30 (Qlo (J2 H).2.2.1 j (by rw [(J2 H).1];omega));have hx:=bounds_i64 (Qlo H.out.1.2.2.1 j (by rw [H.out.1.1];omega));obtain ⟨X,eX⟩:∃X,X=ws.getD j 0:=⟨_,rfl⟩
   obtain ⟨V,eV⟩:∃V,V=vs.getD j 0:=⟨_,rfl⟩
   rw [<-eX] at cw hx;rw [<-eV] at cv hv;have HE:Hid (X=ws.getD j 0/\V=vs.getD j 0):=⟨eX,eV⟩
   clear eX eV;unfold Qai at hv;obtain ⟨v0,v1⟩:=hv;obtain ⟨x0,x1⟩:=hx;have hwd:=Qw3 X;obtain ⟨K,hK⟩:∃K,K=wd X:=⟨_,rfl⟩
   have cS:=Qw5 X wr.drew;rw [<-hK] at cS hwd;have HW:Hid (K=wd X):=hK;clear hK;have cA:=Qj2 a' k' c' (Qan (ws.take j) (vs.take j)) V K q wr.drew (J2 HK).drew hqs.out.2 v0 v1 hwd (by omega);go_wp2
   refine Qo3 10 (by kernel_rfl) (by kernel_rfl) ?_
   simp only [List.take_succ_cons,List.take_zero,List.drop_succ_cons,List.drop_zero]
   iterate 9 still_step
   still_call cS
   refine wpStill_nil ?_
   go_wp2_with (go_at_call 211;refine cA.mono ?_;rintro e w2 ⟨a2,c2,rfl,ow2,bl2⟩)
   go_roundw
   case rel=>
    have e:=Qmt ws vs (i:=j) (by rw [H.out.1.1];omega) (by rw [(J2 H).1];omega);rw [<-HE.out.1,<-HE.out.2,<-HW.out] at e;refine ⟨j+1,a2,k'+K,c2,by omega,by go_num,by rfl,?_,by rw [e];exact ow2,(Jz2 HK).drew.trans bl2⟩
    rw [e,List.length_append,Qac,HK.out.1]
   case measure=>simp [intOf];omega
  ·have hge:(M:Int)<=j:=by omega
   have hjM:j=M:=by omega
   have HE:Hid (Qan (ws.take j) (vs.take j)=Qan ws vs):=by
    show Qan (ws.take j) (vs.take j)=Qan ws vs;exact Qg8 ws vs j (by rw [hjM,(Jz7 H),H.out.1.1,(J2 H).1])
   clear hjM;go_wp2
   go_ret
   refine ⟨a',k',c',rfl,?_,?_,(Jz2 HK)⟩
   ·rw [HK.out.1,HE.out]
   ·rw [<-HE.out];exact (J2 HK)

theorem Qqp (x:Int) (w:World):Calls prog 228 #[.int .i64 x] w λ e w'=>e=.returned (.int .i64 (wd x:Nat))/\w'=w:=by
 by_cases h1:x=1
 ·subst h1
  go_enter func228,ntmps228
  go_wp2
  go_ret
  exact ⟨rfl,rfl⟩
 by_cases h2:x=2
 ·subst h2
  go_enter func228,ntmps228
  go_wp2
  go_ret
  exact ⟨rfl,rfl⟩
 by_cases h4:x=4
 ·subst h4
  go_enter func228,ntmps228
  go_wp2
  go_ret
  exact ⟨rfl,rfl⟩
 have hw:wd x=8:=by unfold wd;rw [if_neg h1,if_neg h2,if_neg h4]
 rw [hw];have b1:(x == 1)=false:=by simp [h1]
 have b2:(x == 2)=false:=by simp [h2]
 have b4:(x == 4)=false:=by simp [h4]
 go_enter func228,ntmps228
 go_wp2
 go_ret
 exact ⟨rfl,rfl⟩
set_option maxHeartbeats 2000000 in
theorem Qc8 (a:Option Addr) (n c:Nat) (ws:List Int) (b:Option Addr) (m d:Nat) (vs:List Int) (w:World) (hx:NIn .i64 w a n ws) (hy:NIn .u64 w b m vs) (hn:n<=100000) (hm:m<=100000) :
  Calls prog 229 #[.slice a n c,.slice b m d] w λ e w'=>∃a' k' c',e=.returned (.slice a' k' c')/\k'=(Qan ws vs).length/\w'.ownsRow w.heap.size 5 1 (.slice a' k' c') k' (u8s (Qan ws vs))/\Below w.heap.size w w':=by
 obtain ⟨q,hq⟩:∃q,q=w.heap.size:=⟨_,rfl⟩
 have H:=Jh3 hx hy hq;rw [<-hq];clear hx hy hq;go_enter func229,ntmps229
 go_wp2
 go_loopw [5,6] (λ s i wr=>∃(j:Nat) (a':Option Addr) (k' c':Nat),j<=n/\j<=m/\i=.int .i64 j/\s=.slice a' k' c'/\k'=(Qan (ws.take j) (vs.take j)).length/\wr.ownsRow q 5 1 (.slice a' k' c') k' (u8s (Qan (ws.take j) (vs.take j)))/\Below q w wr)
  (λ _ i _=>n - (intOf i).toNat)
 case atStart=>exact ⟨0,none,0,0,by omega,by omega,rfl,rfl,rfl,World.ownsRow_nil _ _ _ _,Below.refl _ _⟩
 case round=>
  obtain ⟨j,a',k',c',hj,hj',rfl,rfl,hk',ow,bl⟩:=hrel;have HK:=Jh5 hk' ow bl hj hj';have hkb:k'<=800000:=by
   have:=Qqn (ws.take j) (vs.take j);rw [List.length_take] at this;omega
  clear ow bl hk' hj hj';by_cases hend:j<n/\j<m
  ·obtain ⟨hlt,hlt2⟩:=hend
   have hjn:(j:Int)<n:=by omega
   have hjm:(j:Int)<m:=by omega
   have hqs:Hid (Below w.heap.size w wr/\q<=wr.heap.size):=⟨by rw [<-(Jz2 H)];exact (J3 HK),by have:=(J3 HK).size;rw [(Jz2 H)] at *;exact this⟩
   obtain ⟨b1,o1,rfl,hc1⟩:=H.out.1.2.2.2.resolve_left (by omega);obtain ⟨b2,o2,rfl,hc2⟩:=(J2 H).2.2.2.resolve_left (by omega);have cw:wr.cell? ⟨b1,o1+j,none⟩=some (.int .i64 (ws.getD j 0)):=by rw [hqs.out.1.cell (Qaa (hc1 j (by omega)))];exact hc1 j (by omega)
   have HC:Hid (w.cell? ⟨b2,o2+j,none⟩=some (.int .u64 (vs.getD j 0))):=hc2 j (by omega);clear hc1 hc2;have hv:=Q30 (Qlo (J2 H).2.2.1 j (by rw [(J2 H).1];omega));obtain ⟨X,eX⟩:∃X,X=ws.getD j 0:=⟨_,rfl⟩
   obtain ⟨V,eV⟩:∃V,V=vs.getD j 0:=⟨_,rfl⟩
   rw [<-eX] at cw;rw [<-eV] at HC hv;have HE:=Jh2 eX eV;clear eX eV;unfold Qai at hv;obtain ⟨v0,v1⟩:=hv;have hwd:=Qw3 X;have hw1:=Qwc X;obtain ⟨K,hK⟩:∃K,K=wd X:=⟨_,rfl⟩
   have cS:=Qqp X wr;rw [<-hK] at cS hwd hw1;have HW:=Jh1 hK;clear hK;obtain ⟨wk,rfl⟩:∃wk,wk=wr:=⟨_,rfl⟩
   go_wp2_with (go_at_call 228;refine cS.mono ?_;rintro e wk ⟨rfl,rfl⟩)
   go_loopw [5,7] (λ s i wr=>∃(t:Nat) (a2:Option Addr) (c2:Nat),t<=K/\i=.int .i64 ((K:Int) - 1 - t)/\s=.slice a2 (k'+t:Nat) c2/\wr.ownsRow q 5 1 (.slice a2 (k'+t) c2) (k'+t) (u8s (Qan (ws.take j) (vs.take j) ++ (bigI K V).take t))/\Below q w wr)
    (λ _ i _=>((intOf i)+1).toNat)
   case atStart=>exact ⟨0,a',c',by omega,by go_num,rfl,by simpa using (J2 HK),(J3 HK)⟩
   case round=>
    obtain ⟨t,a2,c2,ht,rfl,rfl,ow2,bl2⟩:=hrel;have HT:Hid (wr.ownsRow q 5 1 (.slice a2 (k'+t) c2) (k'+t) (u8s (Qan (ws.take j) (vs.take j) ++ (bigI K V).take t))/\Below q w wr/\q<=wr.heap.size):=⟨ow2,bl2,by have:=bl2.size;rw [(Jz2 H)] at *;exact this⟩
    clear ow2 bl2;by_cases htk:t<K
    ·obtain ⟨r,hr⟩:∃r,r=K - 1 - t:=⟨_,rfl⟩
     have hr':(K:Int) - 1 - t=r:=by omega
     rw [hr'];have hr0:(0:Int)<=r:=by omega
     have hr8:(r:Int)<=7:=by omega
     have cv:wr.cell? ⟨b2,o2+j,none⟩=some (.int .u64 V):=by
      have hlt:=Qaa HC.out;rw [<-(Jz2 H)] at hlt;rw [(J2 HT).cell hlt];exact HC.out
     have HR:=Jh2 hr hr';clear hr hr';go_wp2_with (at_builtin;refine Qak rfl (.tmp 30) (.tmp 40) rfl q a2 (k'+t) c2 _ rfl (HT.out.1.alloc _) (some ⟨wr.heap.size,0,none⟩) 1 1 [V / 2 ^ (8*r) % 256] rfl (Qf6 rfl rfl rfl (Qq5 _) (by unfold maxLen;omega)) (λ h=>by cases h) (by omega) (by have:=(Jz2 HT);simp;omega) ?_;intro a3 c3 w3 ow3 bl3)
     go_roundw
     case rel=>
      have hbl:Below q w w3:=((J2 HT).alloc (Jz2 HT) _).trans bl3;refine ⟨t+1,a3,c3,by omega,by have:=HR.out.2;go_num,by rfl,?_,hbl⟩
      rw [List.append_assoc,HR.out.1,Qrd K V htk] at ow3;exact ow3
     case measure=>simp [intOf] <;> omega
    ·have htK:t=K:=by omega
     have hm1:(K:Int) - 1 - t = -1:=by omega
     rw [hm1];clear hm1;go_wp2
     go_roundw
     case rel=>
      have e:=Qmt ws vs (i:=j) (by rw [H.out.1.1];omega) (by rw [(J2 H).1];omega);rw [<-HE.out.1,<-HE.out.2,<-HW.out] at e;have ow:=HT.out.1;have eB:(bigI K V).take K=bigI K V:=List.take_of_length_le (by rw [Qac];exact Nat.le_refl _);rw [htK,eB,<-e] at ow;refine ⟨j+1,a2,k'+t,c2,by omega,by omega,by go_num,by rfl,?_,by rw [htK];exact ow,(J2 HT)⟩
      rw [e,List.length_append,Qac,HK.out.1,htK]
     case measure=>simp [intOf];omega
  ·have hjM:j=min n m:=by have:=(Jz3 HK);omega
   have HE:Hid (Qan (ws.take j) (vs.take j)=Qan ws vs):=by
    show Qan (ws.take j) (vs.take j)=Qan ws vs;exact Qg8 ws vs j (by rw [hjM,H.out.1.1,(J2 H).1])
   clear hjM;have fin:∃A k C,Ending.returned (.slice a' k' c')=.returned (.slice A k C)/\k=(Qan ws vs).length/\wr.ownsRow q 5 1 (.slice A k C) k (u8s (Qan ws vs))/\Below q w wr:=
    ⟨a',k',c',rfl,by rw [HK.out.1,HE.out],by rw [<-HE.out];exact (J2 HK),(J3 HK)⟩
   have HF:=Jh1 fin;clear fin;by_cases hjn:j<n
   ·have h1:(j:Int)<n:=by omega
    have h2:(m:Int)<=j:=by omega
    go_wp2
    go_ret
    exact HF.out
   ·have h1:(n:Int)<=j:=by omega
    go_wp2
    go_ret
    exact HF.out
end Go.Proofs.YtcdnjeiamihhbaaGreat
