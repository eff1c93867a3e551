/- P2 -/
import Derived.Deep.OwnRows
import Derived.RangeFuncNested
import Derived.RangeFuncBound
import Derived.RangeFuncCalls
import Derived.RangeFuncLeaves
import Derived.Shelf.Abstract
import Derived.Shelf.AbstractIn
import Derived.Shelf.RegionOpen
import Derived.OwnWalkIn
import Derived.TacticsInMore
import Derived.LoopNIn
import Derived.LoopIn
import Derived.Deep.RegionHeld
import Derived.Deep.RegionHeld3
import Derived.Lib.SliceRun
import Derived.Test.YtcdnjeiamihhbaaGreatP1
set_option linter.unusedVariables false
set_option maxRecDepth 4000
open Go.Proofs.Tryz
namespace Go.Proofs.YtcdnjeiamihhbaaGreat
open Go.RowKit
theorem Qee {t:TypeId} (ht:prog.underlying t=some (.slice (prog.elem t))) (hz:∀w:World,(sizeOf (prog.elem t)).run prog w=.ok 1 w) (a:Option Addr) (n c k:Nat) (hk:k<=c) (w:World) :
  (Instr.slice t (.slice a n c) none (some (.int .i64 (k:Int))) none).run prog w=.ok (.slice a k c) w:=by
 rw [run_slice_h (P:=prog) w t a n c ht .i64 k (by omega) (by omega),hz w];simp only [Result.andThen,Int.toNat_natCast]
 unfold sliced;cases a with
 | none=>simp
 | some x=>simp [Addr.add]
theorem Qc6 {t:TypeId} (ht:prog.underlying t=some (.slice (prog.elem t))) (hz:∀w:World,(sizeOf (prog.elem t)).run prog w=.ok 1 w) (a:Option Addr) (n c k:Nat) (hk:k<=n) (w:World) :
  (Instr.slice t (.slice a n c) (some (.int .i64 (k:Int))) none none).run prog w=.ok (.slice (if c=k then a else a.map (·.add k)) (n - k) (c - k)) w:=by
 rw [run_slice_l (P:=prog) w t a n c ht .i64 k (by omega) (by omega),hz w];simp only [Result.andThen,Int.toNat_natCast]
 unfold sliced;rw [Nat.mul_one]
theorem Tryz.one_bytes:∀w:World,(sizeOf (prog.elem 71)).run prog w=.ok 1 w:=λ _=>by kernel_rfl
theorem Tryz.one_blocks:∀w:World,(sizeOf (prog.elem 74)).run prog w=.ok 1 w:=λ _=>by kernel_rfl
theorem Tryz.byte1:(prog.info? 5).map (·.size)=some 1:=by kernel_rfl
theorem Qcb (n lo hi:Int) (w:World) :
  Calls prog 40 #[.int .i64 n,.int .i64 lo,.int .i64 hi] w λ e w'=>e=.returned (.bool (decide (lo<=n) && decide (n<=hi)))/\w'=w:=by
 by_cases h1:lo<=n
 ·have e:(decide (lo<=n) && decide (n<=hi))=decide (n<=hi):=by simp [h1]
  rw [e];go_enter func40,ntmps40
  go_wp2
  go_ret
  exact ⟨by simp,rfl⟩
 ·have e:(decide (lo<=n) && decide (n<=hi))=false:=by simp [h1]
  rw [e];go_enter func40,ntmps40
  go_wp2
  go_ret
  exact ⟨rfl,rfl⟩
def Qft (D:List Int) (m:Nat):List Int:=D.take m ++ List.replicate (D.length - m) 0
theorem Qhx {D:List Int} {m:Nat} (h:m<=D.length):(Qft D m).length=D.length:=by simp [Qft];omega
theorem Qnx (D:List Int):Qft D D.length=D:=by simp [Qft]
theorem Qsk {D:List Int} {m:Nat} (h:∀z∈D,Qaf z):∀z∈Qft D m,Qaf z:=by
 intro z hz;simp only [Qft,List.mem_append,List.mem_replicate] at hz
 rcases hz with hz | ⟨_,rfl⟩
 ·exact h z (List.mem_of_mem_take hz)
 ·unfold Qaf;omega
theorem Qhe (n:Nat) (w:World):Blk (w.alloc (.cells (madeCells #[.int .u8 0] n) 5)) w.heap.size (u8s (List.replicate n 0)) 5:=by
 refine Blk.new' rfl ?_
 apply Array.ext'
 rw [toList_madeCells_one];simp [u8s]
theorem Qw9 {w:World} {g n:Nat} {L:List Value} {t:TypeId} (B:Nat) (h:Blk w g L t) (hn:L.length=n) (hm:n<=maxLen) (hB:B<=g):w.ownsRow B t 1 (.slice (some ⟨g,0,none⟩) n n) n L:=
 ⟨by omega,.inr ⟨g,n,L.toArray,rfl,hB,h,Nat.le_refl _,hm,by simp [hn],by simp [<-hn]⟩⟩
def Torn (w:World) (D:List Int) (m:Nat) (e:Ending) (w':World):Prop:=
 ∃h,e=.returned h/\BkAt (λ k=>w.heap.size<=k) w' h (Qft D m)/\Below w.heap.size w w'/\(∃g,h=.slice (some ⟨g,0,none⟩) D.length D.length/\w.heap.size<=g)
set_option maxHeartbeats 1000000 in
theorem Q2b (a:Option Addr) (n c m:Nat) (D:List Int) (w:World) (hb:BIn w a n D) (hm:m<=n) (hc:n<=c) (hn:n<=100000) :
  Calls prog 153 #[.slice a n c,.int .i64 m] w (Torn w D m):=by
 obtain ⟨q,hq⟩:∃q,q=w.heap.size:=⟨_,rfl⟩
 have hmk:=run_make_row' (P:=prog) 71 5 (.int .u8 0) 1 Tryz.underlying71 Tryz.zero_u8 rfl .i64 .i64 n (by omega) (by omega);have hsf:=Qee Tryz.underlying71 Tryz.one_bytes a n c m (by omega);have b0:=Qhe n w;rw [<-hq] at b0;have H:=Jh4 hb hm hn hq;have H0:Hid (Blk (w.alloc (.cells (madeCells #[.int .u8 0] n) 5)) q (u8s (List.replicate n 0)) 5/\Below q w (w.alloc (.cells (madeCells #[.int .u8 0] n) 5))):=⟨b0,(Below.refl _ _).alloc (by rw [hq];exact Nat.le_refl _) _⟩
 clear hb hm hn hc b0;go_enter func153,ntmps153
 go_upto_region 2 with fail
 generalize hW:World.alloc w _=W at H0 ⊢;rw [<-hq];clear hW hmk hq;have hlen:D.length=n:=H.out.1.1;have hin:BIn W a n D:=H.out.1.below (by rw [<-(Jz3 H)];exact H0.out.2);have HI:=Jh2 hin hlen;clear hin hlen;have s1:Hid ((u8s (D.take m)).length=Nat.min m n):=show _=_ by
  rw [Qah,List.length_take,HI.out.2]
 have s2:Hid (0<(u8s (D.take m)).length->(some ⟨q,0,none⟩:Option Addr)=some ⟨q,0,none⟩/\∃ad,a=some ad/\∀j v,(u8s (D.take m))[j]?=some v->W.cell? (ad.add j)=some v):=λ hp=>⟨rfl,by
  rw [Qah,List.length_take,HI.out.2] at hp;obtain ⟨b,off,ha,hc⟩:=HI.out.1.2.2.2.resolve_left (by omega);refine ⟨_,ha,λ j v hj=>?_⟩
  have hj':j<m/\j<n:=by
   have:=(List.getElem?_eq_some_iff.1 hj).1;rw [Qah,List.length_take,HI.out.2] at this;omega
  rw [Addr.add_mid,hc j hj'.2,<-hj];simp [u8s,List.getD,hj'.1,HI.out.2,hj'.2]⟩
 have s3:Hid (0+(u8s (D.take m)).length<=(u8s (List.replicate n 0)).length):=show _<=_ by rw [Qah,Qah,List.length_take,HI.out.2,List.length_replicate];omega
 go_upto_region 3 with (refine wpList_copy_splice rfl (.tmp 9) (.tmp 12) 71 71 rfl 5 Tryz.underlying71 Tryz.byte1 (some ⟨q,0,none⟩) a n n m c rfl rfl q 0 (u8s (List.replicate n 0)) 5 H0.out.1 (u8s (D.take m)) s1.out s2.out s3.out (Qhl _) q W (Below.refl _ _) (Nat.le_refl _) ?_;intro w4 h4 b4)
 have e4:splice (u8s (List.replicate n 0)) 0 (u8s (D.take m))=u8s (Qft D m):=by
  have h1:(u8s (D.take m)).length=m:=by rw [Qah,List.length_take,HI.out.2];have:=(J2 H);omega
  unfold splice;rw [h1];simp [u8s,Qft,HI.out.2]
 have f4:Blk w4 q (u8s (Qft D m)) 5:=by
  have:=h4.out;rw [e4] at this;exact this
 have HF:=Jh2 f4 (H0.out.2.trans b4);clear h4 b4 e4 f4;go_wp2
 go_ret
 have hl:=Qhx (D:=D) (m:=m) (by rw [HI.out.2];exact (J2 H));refine ⟨_,rfl,⟨?_,?_,Qsk H.out.1.2.2.1,by rw [hl,HI.out.2];have:=(J3 H);omega⟩,by rw [<-(Jz3 H)];exact HF.out.2,q,(by rw [HI.out.2];rfl),by rw [(Jz3 H)];exact Nat.le_refl _⟩
 ·rw [hl,HI.out.2]
  exact Qw9 0 HF.out.1 (by rw [Qah,hl,HI.out.2]) (by have:=(J3 H);unfold maxLen;omega) (Nat.zero_le _)
 ·intro k hk
  cases hk
  rw [(Jz3 H)];exact Nat.le_refl _
theorem Qvi (s:Int) (g:Nat) (a:Option Addr) (n c:Nat) (w:World) (hc:w.cell? ⟨g,0,none⟩=some (.int .i64 s)) :
  Calls prog 154 #[.slice a n c,.pointer (some ⟨g,0,none⟩)] w λ e w'=>e=.returned (.int .i64 (if (n:Int)=s then s else 0))/\w'=w:=by
 by_cases h:(n:Int)=s
 ·rw [if_pos h]
  subst h;go_enter func154,ntmps154
  go_wp2
  go_ret
  exact ⟨rfl,rfl⟩
 ·rw [if_neg h]
  have hb:((n:Int) != s)=true:=by simp [h]
  go_enter func154,ntmps154
  go_wp2
  go_ret
  exact ⟨rfl,rfl⟩
theorem Qxm (s:Int) (w:World) :
  Calls prog 93 #[.int .i64 s] w λ e w'=>e=.returned (.func (.func 154) #[] #[.pointer (some ⟨w.heap.size,0,none⟩)])/\w'=w.alloc (.cells #[.int .i64 s] 3):=by
 go_enter func93,ntmps93
 go_wp2
 go_ret
 exact ⟨rfl,rfl⟩
theorem Q2j (k t:Int) (w:World) :
  Calls prog 119 #[.agg #[.int .i64 k,.int .i64 t]] w λ e w'=>e=.returned (.func (.func 188) #[] #[.pointer (some ⟨w.heap.size,0,none⟩)])/\w'=w.alloc (.cells #[.int .i64 k,.int .i64 t] 121):=by
 go_enter func119,ntmps119
 go_wp2
 go_ret
 exact ⟨rfl,rfl⟩
theorem Q05 (a:Option Addr) (n c f:Nat) (lb:Array Value) (w:World) :
  Calls prog 92 #[.slice a n c,.func (.func f) #[] lb] w λ e w'=>e=.returned (.func (.func 152) #[] #[.pointer (some ⟨w.heap.size,0,none⟩),.pointer (some ⟨w.heap.size+1,0,none⟩)])/\w'=(w.alloc (.cells #[.slice a n c] 74)).alloc (.cells #[.func (.func f) #[] lb] 172):=by
 go_enter func92,ntmps92
 go_wp2
 go_ret
 exact ⟨by simp,rfl⟩
theorem Qc1 (w:World) (g i:Nat) (v:Value):Out (λ j=>j=g) w (w.setCell ⟨g,i,none⟩ v):=(Out.refl (λ j=>j=g) w).setCell (p:=⟨g,i,none⟩) (.inl rfl) v
def Qfu (k t:Int) (n:Nat):Nat:=if 0<k then n else min t.toNat n
def Qg4 (k t:Int):Int × Int:=if 0<k then (k - 1,t) else (k,0)
theorem Qxd (k t:Int) (g:Nat) (a:Option Addr) (n c:Nat) (w:World) (hb:Blk w g [.int .i64 k,.int .i64 t] 121) (hk:k<9223372036854775808) :
  Calls prog 188 #[.slice a n c,.pointer (some ⟨g,0,none⟩)] w λ e w'=>e=.returned (.int .i64 (Qfu k t n))/\Blk w' g [.int .i64 (Qg4 k t).1,.int .i64 (Qg4 k t).2] 121/\Out (λ j=>j=g) w w'/\w'.heap.size=w.heap.size:=by
 have c0:w.cell? ⟨g,0,none⟩=some (.int .i64 k):=hb.cell 0;have c1:w.cell? ⟨g,1,none⟩=some (.int .i64 t):=hb.cell 1;have z0:=hb.frozen 0;have z1:=hb.frozen 1;have HB:=Jh1 hb;clear hb;by_cases h:0<k
 ·have e1:Qfu k t n=n:=by simp [Qfu,h]
  have e2:Qg4 k t=(k - 1,t):=by simp [Qg4,h]
  have hw:IntKind.i64.wrap (k - 1)=k - 1:=by rw [IntKind.wrap_i64];omega
  rw [e1,e2];clear hk;go_enter func188,ntmps188
  go_wp2
  go_ret
  exact ⟨rfl,HB.out.set 0 _,Qc1 _ _ _ _,by simp [World.setCell]⟩
 ·have e2:Qg4 k t=(k,0):=by simp [Qg4,h]
  rw [e2];clear hk;have fin:∀v,v=Value.int .i64 (Qfu k t n)->∀w',w'=w.setCell ⟨g,1,none⟩ (.int .i64 0)->(Ending.returned v=.returned (.int .i64 (Qfu k t n))/\Blk w' g [.int .i64 k,.int .i64 0] 121/\Out (λ j=>j=g) w w'/\w'.heap.size=w.heap.size):=by
   intro v hv w' hw';subst hv;subst hw';exact ⟨rfl,HB.out.set 1 _,Qc1 _ _ _ _,by simp [World.setCell]⟩
  have HF:=Jh1 @fin;have HN:Hid (Qfu k t n=min t.toNat n):=show _=_ by simp [Qfu,h]
  clear fin e2;have h':k<=0:=by omega
  generalize Qfu k t n=N at HF HN ⊢;rcases Int.lt_trichotomy t 0 with ht | rfl | ht
  ·rcases Nat.eq_zero_or_pos n with rfl | hn
   ·go_enter func188,ntmps188
    go_wp2
    go_ret
    exact HF.out _ (by rw [HN.out];simp) _ rfl
   ·have hn':(0:Int)<n:=by omega
    go_enter func188,ntmps188
    go_wp2
    go_ret
    exact HF.out _ (by rw [HN.out];have:t.toNat=0:=(by omega);rw [this];simp) _ rfl
  ·rcases Nat.eq_zero_or_pos n with rfl | hn
   ·go_enter func188,ntmps188
    go_wp2
    go_ret
    exact HF.out _ (by rw [HN.out];simp) _ rfl
   ·have hn':(0:Int)<n:=by omega
    go_enter func188,ntmps188
    go_wp2
    go_ret
    exact HF.out _ (by rw [HN.out];simp) _ rfl
  ·rcases Int.lt_trichotomy t n with hn | hn | hn
   ·go_enter func188,ntmps188
    go_wp2
    go_ret
    exact HF.out _ (by rw [HN.out];have:((min t.toNat n:Nat):Int)=t:=(by omega);rw [this];rfl) _ rfl
   ·have HT:=Jh1 hn
    subst hn;go_enter func188,ntmps188
    go_wp2
    go_ret
    exact HF.out _ (by rw [HN.out];simp) _ rfl
   ·go_enter func188,ntmps188
    go_wp2
    go_ret
    exact HF.out _ (by rw [HN.out];have:((min t.toNat n:Nat):Int)=n:=(by omega);rw [this];rfl) _ rfl
end Go.Proofs.YtcdnjeiamihhbaaGreat
namespace Go.Proofs.YtcdnjeiamihhbaaGreat
open Go.RowKit Go.Shelf
def Book (R:Loop) (l:Nat) (W:World):Prop:=W.heap[l+1]?=some (.loop R)/\W.heap[l]?=some (.deferred (some []))
theorem Book.out {R:Loop} {l:Nat} {W W':World} {S:Nat->Prop} (h:Book R l W) (ho:Out S W W') (hS:∀j,S j->∃c t f,W.heap[j]?=some (.cells c t f)):Book R l W':=by
 refine ⟨(ho.block _ (Array.getElem?_eq_some_iff.1 h.1).1 (λ e=>?_)).trans h.1,(ho.block _ (Array.getElem?_eq_some_iff.1 h.2).1 (λ e=>?_)).trans h.2⟩
 ·obtain ⟨c,t,f,hc⟩:=hS _ e
  rw [h.1] at hc;cases hc
 ·obtain ⟨c,t,f,hc⟩:=hS _ e
  rw [h.2] at hc;cases hc
theorem Book.below {R:Loop} {l:Nat} {W W':World} (h:Book R l W) (ho:Below W.heap.size W W'):Book R l W':=h.out (Qab Non ho) (λ _ e=>e.elim)
def Calm (l:Nat) (W W':World):Prop:=(∀c t f,W.heap[l]?≠some (.cells c t f))/\Out (λ j=>j=l) W W'/\W'.heap.size=W.heap.size
theorem Qle {l:Nat} {W:World} {r:Loop} (h:W.heap[l]?=some (.loop r)) (o:Obj):Calm l W (W.putObj l o):=
 ⟨(λ c t f e=>by rw [h] at e;cases e),⟨rfl,rfl,rfl,by simp,λ k _ hk=>World.putObj_heap_other hk⟩,by simp⟩
theorem Qiv {l:Nat} {W:World} {r:Option (List Deferred)} (h:W.heap[l]?=some (.deferred r)) (o:Obj):Calm l W (W.putObj l o):=
 ⟨(λ c t f e=>by rw [h] at e;cases e),⟨rfl,rfl,rfl,by simp,λ k _ hk=>World.putObj_heap_other hk⟩,by simp⟩
theorem Calm.blk {l:Nat} {W W':World} {g:Nat} {L:List Value} {t:TypeId} (h:Calm l W W') (hb:Blk W g L t):Blk W' g L t:=
 h.2.1.blk hb (λ e=>by subst e;exact h.1 _ _ _ hb)
theorem Calm.own {l:Nat} {W W':World} (h:Calm l W W') {B:Nat} {e:TypeId} {s n:Nat} {v:Value} {xs:List Value} (hr:W.ownsRow B e s v n xs):W'.ownsRow B e s v n xs:=
 h.2.1.own hr (λ g hg e=>by subst e;obtain ⟨cur,hc⟩:=Qaz hr hg;exact h.1 _ _ _ hc)
theorem Calm.bk {l:Nat} {W W':World} (h:Calm l W W') {O:Nat->Prop} {u:Value} {D:List Int} (hb:BkAt O W u D):BkAt O W' u D:=⟨h.own hb.1,hb.2⟩
theorem Calm.bs {l:Nat} {W W':World} (h:Calm l W W') {O:Nat->Prop} {vs:List Value} {bs:List (List Int)} (hb:BsAt O W vs bs):BsAt O W' vs bs:=⟨hb.1,λ i u D h1 h2=>h.bk (hb.2 i u D h1 h2)⟩
theorem Calm.row {l:Nat} {W W':World} (h:Calm l W W') {O:Nat->Prop} {v:Value} {bs:List (List Int)} (hb:RowAt O W v bs):RowAt O W' v bs:=by
 obtain ⟨vs,a,b,c,d⟩:=hb;exact ⟨vs,h.own a,b,h.bs c,d⟩
theorem Calm.out {l:Nat} {W W' w:World} (h:Calm l W W') {O:Nat->Prop} (ho:Out O w W) (hl:w.heap.size<=l):Out O w W':=ho.trans h.2.1 (λ j e=>.inr (by omega))
theorem Calm.cell {l:Nat} {W W':World} (h:Calm l W W') {p:Addr} {v:Value} (hc:W.cell? p=some v):W'.cell? p=some v:=
 h.2.1.cell hc (λ e=>by
  unfold World.cell? at hc;split at hc
  ·rename_i c t f hh;rw [e] at hh;exact h.1 _ _ _ hh
  ·cases hc)
theorem Qg7 {n:Nat} {P:Program} {g:Operand} {p:Tmp} {assign body:Code} {Q:Exit->Act->World->Prop} {a:Act} {w:World}
  {gf:Nat} {lb:Array Value} (hg:a.eval g=.func (.func gf) #[] lb) (eg:Enters P gf)
  (J:Nat->World->Prop) (J':Nat->Value->World->Prop) (E:World->Prop)
  (hJ:∀k W W',J k W->Calm (w.heap.size+1) W W'->J k W') (hJ':∀k x W W',J' k x W->Calm (w.heap.size+1) W W'->J' k x W') (hE:∀W W',E W->Calm (w.heap.size+1) W W'->E W')
  (h0:∀o o',J 0 ((w.alloc o).alloc o'))
  (a₁:Value->Act)
  (hassign:∀(l:Nat) (k:Nat) (x:Value) (W:World) (K:Act->World->Prop),J' k x W->K (a₁ x) W->
   assign.wpIn (Fence.wide.inRound l) (n - 1 - 1) P (Exit.then K (λ _ _ _=>False)) {tmps:=(#[p].zip #[x]).foldl (λ t (p,v)=>t.setIfInBounds p v) a.tmps,defers:=[]} W)
  (hbody:∀(l:Nat) (R:Loop) (k:Nat) (x:Value) (W:World),Book R w.heap.size W->J' k x W->body.wpIn (Fence.wide.inRound l) (n - 1 - 1) P (λ e _ W'=>e=.normal/\Book R w.heap.size W'/\J (k+1) W') (a₁ x) W)
  (hiter:∀(R:Loop) (W:World),(∀k x W1,Book R w.heap.size W1->J' k x W1->YieldAt Fence.wide (n - 1 - 1) P (w.heap.size+1) #[x] W1 λ e W'=>e=.returned (.bool true)/\Book R w.heap.size W'/\J (k+1) W')->
   Book R w.heap.size W->J 0 W->CallsIn Fence.wide (n - 1) P gf (#[.func (.yield (w.heap.size+1)) #[] #[]] ++ lb) W λ e W'=>(∃v,e=.returned v)/\Book R w.heap.size W'/\E W')
  (hdone:∀W,E W->W.heap[w.heap.size]?=some (.deferred (some []))->Q .normal {a with defers:={target:=.collected w.heap.size,args:=#[]} :: a.defers} W) :
  (Code.rangeFunc g #[p] assign body).wpIn Fence.wide n P Q a w:=by
 refine wpIn_rangeFunc ?_
 intro fn hfn;have hro:Fence.wide.round=none:=rfl;rw [hro];obtain ⟨rec,hrec⟩:∃rec:LoopState->Option Code->Loop,rec=λ st pe=>{state:=st,pending:=pe,fn,tmps:=a.tmps,params:=#[p],assign,body,defers:=w.heap.size}:=⟨_,rfl⟩
 obtain ⟨W1,hW1⟩:∃W1,(w.alloc (.deferred (some []))).alloc (.loop (rec .ready none))=W1:=⟨_,rfl⟩
 have hL1:W1.heap[w.heap.size+1]?=some (.loop (rec .ready none)):=by
  rw [<-hW1];have:=World.alloc_heap_new (w.alloc (.deferred (some []))) (.loop (rec .ready none));rwa [World.size_alloc] at this
 have hK1:W1.heap[w.heap.size]?=some (.deferred (some [])):=by
  rw [<-hW1];exact (Below.heap_alloc _ _ _ (by simp)).trans (World.alloc_heap_new w _)
 have hI1:J 0 W1:=by rw [<-hW1];exact h0 _ _
 refine ⟨w.heap.size+1,[{target:=.collected w.heap.size,args:=#[]}],W1,{target:=.fn (.func gf) lb,args:=#[.func (.yield (w.heap.size+1)) #[] #[]]},W1,gf,
  #[.func (.yield (w.heap.size+1)) #[] #[]] ++ lb,W1,?_,?_,?_,?_,λ h=>by simp [Fence.wide] at h,?_⟩
 ·rw [<-hW1,hrec];exact run_enterLoop_outer _ _ _ _ _
 ·simp only [resolve,hg]
  simp [go_sem]
 ·intro f' hf';trivial
 ·have eg':=λ args w=>eg args w
  simp [invoke,go_sem,eg']
 ·refine (hiter (rec .ready none) W1 ?_ ⟨hL1,hK1⟩ hI1).mono ?_
  ·rintro k x W ⟨hl,hk⟩ hj
   have hlt:w.heap.size+1<W.heap.size:=(Array.getElem?_eq_some_iff.1 hl).1;have hy:=run_yield (P:=P) (args:=#[x]) hl (by rw [hrec];rfl);rw [hrec] at hy;refine ⟨fn,_,assign,body,hy,roundIn_of_wpIn hfn (hassign _ k x W _ hj ⟨_,run_beginRound hl (by rw [hrec]),?_⟩)⟩
   have hl2:(W.putObj (w.heap.size+1) (.loop {rec .ready none with state:=.busy})).heap[w.heap.size+1]?=some (.loop {rec .ready none with state:=.busy}):=World.putObj_heap_same hlt;have hk2:(W.putObj (w.heap.size+1) (.loop {rec .ready none with state:=.busy})).heap[w.heap.size]?=some (.deferred (some [])):=(World.putObj_heap_other (by omega)).trans hk;refine wpIn_mono (hbody _ _ k x _ ⟨hl2,hk2⟩ (hJ' k x _ _ hj (Qle hl _))) ?_
   rintro e a3 W3 ⟨rfl,⟨hl3,hk3⟩,hj3⟩;have hr:=run_endRound (P:=P) none hl3;refine ⟨_,_,hr,rfl,⟨?_,?_⟩,hJ _ _ _ hj3 (Qle hl3 _)⟩
   ·rw [World.putObj_heap_same (Array.getElem?_eq_some_iff.1 hl3).1,hrec];rfl
   ·exact (World.putObj_heap_other (by omega)).trans hk3
  ·rintro e W2 ⟨⟨v,rfl⟩,⟨hl,hk⟩,he⟩
   exact ⟨none,_,by have:=run_endLoop (P:=P) hl (by rw [hrec];simp);rw [hrec] at this;exact this,hdone _ (hE _ _ he (Qle hl _)) ((World.putObj_heap_other (by omega)).trans hk)⟩
attribute [local go_sem] Oper.semAt_some
structure CutJ (nb:Nat) (a:Option Addr) (c gf:Nat) (lb:Array Value) (B1 B2:Nat) (bs:List (List Int)) (fit:Nat->Nat) (l:Nat) (R:Loop) (n:Nat) (J JF:Nat->World->Prop) (J':Nat->Value->World->Prop):Prop where
 len:bs.length=nb
 small:nb<=100000
 cap:∀k W,J k W->W.cell? ⟨B1,0,none⟩=some (.slice a nb c)/\W.cell? ⟨B2,0,none⟩=some (.func (.func gf) #[] lb)
 rd:∀k W D,J k W->bs[k]?=some D->∃b off A L C,a=some ⟨b,off,none⟩/\W.cell? ⟨b,off+k,none⟩=some (.slice A L C)/\BIn W A L D/\L<=C/\L<=100000
 fits:∀k W D A L C,J k W->bs[k]?=some D->BIn W A L D->Book R l W->Calls prog gf (#[.slice A L C] ++ lb) W λ e W'=>e=.returned (.int .i64 (fit k))/\JF k W'/\Book R l W'/\BIn W' A L D
 le:∀k D,bs[k]?=some D->fit k<=D.length
 torn:∀k W D x W',JF k W->bs[k]?=some D->0<fit k->Below W.heap.size W W'->BkAt (λ k=>W.heap.size<=k) W' x (Qft D (fit k))->(∃g,x=.slice (some ⟨g,0,none⟩) D.length D.length)->J' k x W'
def CutE (nb:Nat) (fit:Nat->Nat) (l:Nat) (R:Loop) (J JF:Nat->World->Prop) (W':World):Prop:=
 Book R l W'/\∃k,k<=nb/\(∀j,j<k->0<fit j)/\((k=nb/\J k W')\/(k<nb/\fit k=0/\JF k W'))
set_option maxRecDepth 100000 in
set_option maxHeartbeats 2000000 in
theorem Qw7 {nb:Nat} {a:Option Addr} {c gf:Nat} {lb:Array Value} {B1 B2:Nat} {bs:List (List Int)} {fit:Nat->Nat} {l:Nat} {R:Loop} {n:Nat} {J JF:Nat->World->Prop} {J':Nat->Value->World->Prop}
  (H:CutJ nb a c gf lb B1 B2 bs fit l R n J JF J') (eg:Enters prog gf)
  (hY:∀k x W1,Book R l W1->J' k x W1->YieldAt Fence.wide (n - 1) prog (l+1) #[x] W1 λ e W'=>e=.returned (.bool true)/\Book R l W'/\J (k+1) W')
  (W:World) (hB:Book R l W) (h0:J 0 W) :
  CallsIn Fence.wide n prog 152 #[.func (.yield (l+1)) #[] #[],.pointer (some ⟨B1,0,none⟩),.pointer (some ⟨B2,0,none⟩)] W λ e W'=>(∃v,e=.returned v)/\CutE nb fit l R J JF W':=by
 obtain ⟨c1,c2⟩:=H.cap 0 W h0;refine callsIn_of_wp func152 rfl trivial ?_ rfl
 simp only [ntmps152,List.size_toArray,List.length_cons,List.length_nil,Nat.reduceAdd,Nat.reduceSub,Array.replicate_succ,Array.replicate_zero,List.push_toArray,List.append_toArray,List.nil_append,List.cons_append]
 have hfw:∀f,Fence.wide.fn f=True:=λ _=>rfl
 have hdw:Fence.wide.depth.isSome=false:=rfl;have eg':∀args w,(callFunc gf args).run prog w=.ok (.enter gf args) w:=eg;have HH:=Jh3 H hB h0;have HY:=Jh1 @hY;clear H hB h0 hY;gi_wp2
 gi_loopw [9] (λ i wr=>∃k:Nat,i=.int .i64 k/\k<=nb/\(∀j,j<k->0<fit j)/\Book R l wr/\J k wr) (λ i wr=>nb - (intOf i).toNat)
 case atStart=>
  exact ⟨0,rfl,Nat.zero_le _,by simp,(J2 HH),(Jz2 HH)⟩
 case round=>
  obtain ⟨k,rfl,hk,hpos,hbk,hj⟩:=hrel;obtain ⟨c3,c4⟩:=HH.out.1.cap k _ hj;rcases Nat.lt_or_ge k nb with hlt | hge
  ·obtain ⟨D,hD⟩:∃D,bs[k]?=some D:=⟨bs[k]'(by rw [HH.out.1.len];exact hlt),by simp [HH.out.1.len,hlt]⟩
   obtain ⟨b,off,A,L,C,rfl,hc,hin,hLC,hL⟩:=HH.out.1.rd k _ D hj hD;have hw:IntKind.i64.wrap ((k:Int)+1)=(k:Int)+1:=by have:=HH.out.1.small;rw [IntKind.wrap_i64];omega
   obtain ⟨N,hN⟩:∃N,N=fit k:=⟨_,rfl⟩
   have hf:=HH.out.1.fits k wr D A L C hj hD hin hbk;rw [<-hN] at hf;have HN:=Jh4 hN hD hpos hlt;have hle:=HH.out.1.le k D hD;rw [<-hN,hin.1] at hle;have HL:=Jh3 hle hLC hL;have HF:=Jh1 @hf;clear hN hD hpos hle hLC hL hf hk hbk hj hin;rcases Nat.eq_zero_or_pos N with rfl | hN0
   ·gi_wp2_with (gi_at_fn gf;refine (callsIn_wide.2 HF.out).mono ?_;rintro e W2 ⟨rfl,hjf,hbk2,hin2⟩)
    refine bodyPost_ret (results_none rfl _ _ _) rfl ?_
    exact ⟨⟨_,rfl⟩,hbk2,k,by have:=(Jz3 HN);omega,(J3 HN),.inr ⟨(Jz3 HN),HN.out.1.symm,hjf⟩⟩
   ·have hne:((N:Int) == 0)=false:=by simp;omega
    have hlt':=(Jz3 HN)
    have HP:=Jh1 hN0;clear hN0;gi_wp2_with (first
     | (gi_at_fn gf;refine (callsIn_wide.2 HF.out).mono ?_;rintro e W2 ⟨rfl,hjf,hbk2,hin2⟩)
     | (gi_at_call 153;refine (callsIn_wide.2 (Q2b A L C N D W2 hin2 HL.out.1 (J2 HL) (Jz2 HL))).mono ?_;rintro e W3 ⟨x,rfl,hx1,hx2,gx,rfl,hx3⟩;obtain ⟨fn,tmps,assign,body,hy,hR⟩:=HY.out k _ W3 (hbk2.below hx2) (HH.out.1.torn k W2 D _ W3 hjf (J2 HN) (by rw [<-HN.out.1];exact HP.out) hx2 (by rw [<-HN.out.1];exact hx1) ⟨gx,rfl⟩)))
    refine hR.mono ?_
    rintro e W4 ⟨rfl,hbk4,hj4⟩;have HJ:=Jh2 hbk4 hj4;clear hR hy hbk4 hj4 hjf hbk2 hin2 hx1 hx2 hx3;gi_wp2
    go_roundw
    case rel=>
     refine ⟨k+1,by simp,by omega,λ j hj=>?_,HJ.out.1,HJ.out.2⟩
     rcases Nat.lt_or_ge j k with h | h
     ·exact (J3 HN) j h
     ·obtain rfl:j=k:=by omega
      rw [<-HN.out.1];exact HP.out
    case measure=>simp [intOf];omega
  ·have hkn:k=nb:=by omega
   subst hkn;gi_wp2
   go_end0
   exact ⟨⟨_,rfl⟩,hbk,k,hk,hpos,.inl ⟨rfl,hj⟩⟩
def BkIn (W:World) (v:Value) (D:List Int):Prop:=∃A L C,v=.slice A L C/\BIn W A L D/\(A=none->L=0/\C=0)/\L<=C/\L<=100000
def BsIn (W:World) (a:Option Addr) (n:Nat) (bs:List (List Int)):Prop:=
 bs.length=n/\n<=100000/\(n=0\/∃b off,a=some ⟨b,off,none⟩/\∀(i:Nat) (D:List Int),bs[i]?=some D->∃v,W.cell? ⟨b,off+i,none⟩=some v/\BkIn W v D)
theorem BkIn.below {w w':World} {v:Value} {D:List Int} (h:BkIn w v D) (hb:Below w.heap.size w w'):BkIn w' v D:=by
 obtain ⟨A,L,C,h1,h2,h3⟩:=h;exact ⟨A,L,C,h1,h2.below hb,h3⟩
theorem BsIn.below {w w':World} {a:Option Addr} {n:Nat} {bs:List (List Int)} (h:BsIn w a n bs) (hb:Below w.heap.size w w'):BsIn w' a n bs:=by
 obtain ⟨h1,h2,h3⟩:=h;refine ⟨h1,h2,?_⟩
 rcases h3 with h3 | ⟨b,off,ha,hc⟩
 ·exact .inl h3
 ·refine .inr ⟨b,off,ha,λ i D hi=>?_⟩
  obtain ⟨v,h4,h5⟩:=hc i D hi;exact ⟨v,by rw [hb.cell (Qaa h4)];exact h4,h5.below hb⟩
theorem Qev {w:World} {B:Nat} {e:TypeId} {s n:Nat} {a:Option Addr} {m c:Nat} {xs:List Value} (h:w.ownsRow B e s (.slice a m c) n xs):m<=c/\m=n:=by
 rcases h.2 with ⟨hv,hn⟩ | ⟨g,cap,cur,hv,_,_,hc,_⟩
 ·cases hv;exact ⟨Nat.le_refl _,by omega⟩
 ·cases hv;exact ⟨hc,rfl⟩
theorem BkAt.bkin {O:Nat->Prop} {W:World} {v:Value} {D:List Int} (h:BkAt O W v D) (hd:D.length<=100000):BkIn W v D:=by
 obtain ⟨a,c,rfl⟩:=Qam h.1;obtain ⟨h1,h2,h3⟩:=h.bin;exact ⟨a,D.length,c,rfl,h1,h2,(Qev h.1).1,hd⟩
def Qtq (bs:List (List Int)):Prop:=∀D∈bs,D.length<=100000
theorem RowAt.bsin {O:Nat->Prop} {W:World} {a:Option Addr} {n c:Nat} {bs:List (List Int)} (h:RowAt O W (.slice a n c) bs) (hs:Qtq bs):BsIn W a n bs:=by
 obtain ⟨vs,h1,h2,h3,h4⟩:=h;have hn:n=bs.length:=(Qev h1).2;refine ⟨hn.symm,by omega,?_⟩
 rcases h1.2 with ⟨hv,hz⟩ | ⟨g,cap,cur,hv,hb,hg,hc,hcm,hsz,htake⟩
 ·exact .inl (by omega)
 ·cases hv
  refine .inr ⟨g,0,rfl,λ i D hi=>?_⟩
  have hlt:=(List.getElem?_eq_some_iff.1 hi).1;obtain ⟨v,hv⟩:∃v,vs[i]?=some v:=⟨vs[i]'(by rw [h3.1];exact hlt),by simp [h3.1,hlt]⟩
  have hcl:=h1.cells (g:=g) rfl i _ hv;rw [Addr.add_mid] at hcl;exact ⟨v,hcl,(h3.2 i v D hv hi).bkin (hs D (List.mem_of_getElem? hi))⟩
theorem Qao {α:Type} {l:List α} {k:Nat} {x:α} (h:l[k]?=some x):l.take (k+1)=l.take k ++ [x]:=by
 rw [List.take_add_one,h];rfl
theorem Qbq {W:World} {g g':Nat} {L L':List Value} {t t':TypeId} (h:Blk W g L t) (h':Blk W g' L' t') (ht:t≠t'):g≠g':=by
 rintro rfl;have:some (Obj.cells L.toArray t (0,0))=some (Obj.cells L'.toArray t' (0,0)):=h.symm.trans h';simp at this
 exact ht this.2
theorem Qcd {W:World} {g:Nat} {L:List Value} {t e:TypeId} (h:Blk W g L t) (ht:t≠e) {B s n:Nat} {v:Value} {xs:List Value} (hr:W.ownsRow B e s v n xs):v.ownBlock≠some g:=by
 intro hg;obtain ⟨cur,hc⟩:=Qaz hr hg;have:some (Obj.cells L.toArray t (0,0))=some (Obj.cells cur e (0,0)):=(show W.heap[g]?=_ from h).symm.trans hc;simp at this
 exact ht this.2
theorem Qew {w w':World} {row:Option Nat} (hg:w.grownBy w' row):Out (λ k=>row=some k) w w':=⟨hg.os,hg.tape,hg.output,hg.size,λ k hk hn=>hg.block k hk (λ e=>hn e.symm)⟩
theorem Blk.grown {W W':World} {g:Nat} {L:List Value} {t e:TypeId} (h:Blk W g L t) (ht:t≠e) {B s n:Nat} {v:Value} {xs:List Value} (hr:W.ownsRow B e s v n xs) (hg:W.grownBy W' v.ownBlock):Blk W' g L t:=
 (Qew hg).blk h (Qcd h ht hr)
theorem Qdk {F:Fence} {n:Nat} {P:Program} {w:World} {ops:Array Oper} {rest:List Oper} {o:Oper} {a:Act} {Q:Exit->Act->World->Prop} (hg:o.guard=none) (s x:Operand) (t t2:TypeId)
  (hop:o.op=Op.call {callee:=Callee.builtin Builtin.append,args:=#[s,x],argTypes:=#[t,t2]}) (u y:Value) (hs:a.eval s=u) (hx:a.eval x=y) (v':Value) (w':World)
  (hrun:(Builtin.append_ #[t,t2] o.type #[u,y]).run P w=.ok v' w') (hK:wpListIn F n P ops Q rest (a.put o.dst v') w'):wpListIn F n P ops Q (o :: rest) a w:=by
 refine wpListIn_plain hg λ K hK'=>?_
 unfold Oper.wpIn;refine ⟨?_,?_⟩
 ·simp [Oper.about,hop,resolve,Target.leads,Sem.run_pure]
 ·rw [Oper.semAt_plain F _ _ (by rw [hop];intro c hc';cases hc')]
  simp [execOp,hop,resolve,invoke,builtin,hs,hx,hrun,Result.andThen]
  exact hK' _ _ hK
theorem Qag {P:Program} {w:World} {ops:Array Oper} {rest:List Oper} {o:Oper} {a:Act} {Q:Exit->Act->World->Prop} (hg:o.guard=none) (s x:Operand) (t t2:TypeId)
  (hop:o.op=Op.call {callee:=Callee.builtin Builtin.append,args:=#[s,x],argTypes:=#[t,t2]}) (u y:Value) (hs:a.eval s=u) (hx:a.eval x=y) (v':Value) (w':World)
  (hrun:(Builtin.append_ #[t,t2] o.type #[u,y]).run P w=.ok v' w') (hK:wpList P ops Q rest (a.put o.dst v') w'):wpList P ops Q (o :: rest) a w:=by
 refine wpList_plain hg λ _ hK'=>?_
 unfold Oper.wp;simp [execOp,hop,resolve,invoke,builtin,hs,hx,hrun,Result.andThen]
 exact hK' _ _ hK
theorem Qbf {P:Program} {w:World} {ops:Array Oper} {o:Oper} {a:Act} {K:Act->World->Prop} {Q:Exit->Act->World->Prop} {E:Prop} (hg:o.guard=none) (s x:Operand) (t t2:TypeId)
  (hop:o.op=Op.call {callee:=Callee.builtin Builtin.append,args:=#[s,x],argTypes:=#[t,t2]}) (u y:Value) (hs:a.eval s=u) (hx:a.eval x=y) (v':Value) (w':World)
  (hrun:(Builtin.append_ #[t,t2] o.type #[u,y]).run P w=.ok v' w') (hK:K (a.put o.dst v') w'):if Region.wanted o (yielded ops a.tmps)=true then Oper.wp P o a w K Q else E:=by
 have hw:Region.wanted o (yielded ops a.tmps)=true:=by simp [Region.wanted,hg]
 rw [if_pos hw];unfold Oper.wp;simp [execOp,hop,resolve,invoke,builtin,hs,hx,hrun,Result.andThen]
 exact hK
theorem Qep {O:Nat->Prop} {W:World} {v x:Value} {bs:List (List Int)} {D:List Int} (hr:RowAt O W v bs) (hx:BkAt O W x D) (h1:x.oneCell'=true) (hl:bs.length+1<=100000) (hO:∀k,W.heap.size<=k->O k) :
  ∃a' c' w',(Builtin.append_ #[74,74] 74 #[v,.slice (some ⟨W.heap.size,0,none⟩) 1 1]).run prog (W.alloc (.cells #[x] 71))=.ok (.slice a' (bs.length+1) c') w'/\
   RowAt O w' (.slice a' (bs.length+1) c') (bs ++ [D])/\(W.alloc (.cells #[x] 71)).grownBy w' v.ownBlock/\((Value.slice a' (bs.length+1) c').ownBlock=v.ownBlock\/∀g,(Value.slice a' (bs.length+1) c').ownBlock=some g->W.heap.size<=g):=by
 obtain ⟨vs,r1,r2,r3,r4⟩:=hr;have hc:(W.alloc (.cells #[x] 71)).cell? ⟨W.heap.size,0,none⟩=some x:=by rw [World.cell?_alloc_mark];rfl
 have hA:=Qde (t:=74) (ty:=74) Tryz.underlying74 Tryz.zero_bytes rfl (by decide) (by decide) (r1.alloc (.cells #[x] 71)) ⟨W.heap.size,0,none⟩ 1 1 [x] rfl (by
  intro j u hj;match j,hj with
  | 0,hj=>
   simp at hj
   subst hj;exact hc) (by intro u hu;simp at hu;subst hu;exact h1) (by omega)
 obtain ⟨v',w',h2,h3,h4,h5⟩:=hA;obtain ⟨a',c',rfl⟩:=Qam h3;have hsz:=h4.size;simp at hsz
 refine ⟨a',c',w',h2,⟨vs ++ [x],by simpa using h3,?_,?_,by simp;omega⟩,h4,?_⟩
 ·intro r hr
  rcases h5 with h5 | h5
  ·rw [h5] at hr;exact r2 r hr
  ·have:=h5 r hr;simp at this;exact hO r (by omega)
 ·have hb:Out Non W (W.alloc (.cells #[x] 71)):=(Out.refl _ _).alloc _
  have hn:∀c cur,O c->(W.alloc (.cells #[x] 71)).heap[c]?=some (.cells cur 5 (0,0))->¬(v.ownBlock=some c):=by
   intro c cur _ hc hv;obtain ⟨cur',hc'⟩:=Qaz (r1.alloc (.cells #[x] 71)) hv;rw [hc] at hc';cases hc'
  exact ((r3.out hb (λ _ _ _ _ e=>e)).out (Qew h4) hn).snoc ((hx.out hb (λ _ _ _ _ e=>e)).out (Qew h4) hn)
 ·rcases h5 with h5 | h5
  ·exact .inl h5
  ·exact .inr λ g hg=>by have:=h5 g hg;simp at this;omega
section
attribute [local go_sem] Oper.semAt_some
def cutW (S:Nat) (bs:List (List Int)):List (List Int):=bs.takeWhile (λ D=>D.length == S)
def wFit (S:Nat) (bs:List (List Int)) (k:Nat):Nat:=if (bs.getD k []).length=S then S else 0
theorem Qiz {S:Nat} {bs:List (List Int)} {k:Nat} {D:List Int} (h:bs[k]?=some D):wFit S bs k=if D.length=S then S else 0:=by
 simp [wFit,List.getD,h]
theorem Qmw {S:Nat}:∀(bs:List (List Int)) (k:Nat),k<=bs.length->(∀j,j<k->0<wFit S bs j)->(k=bs.length\/(k<bs.length/\wFit S bs k=0))->0<S->bs.take k=cutW S bs
 | [],k,hk,_,_,_=>by simp [cutW]
 | D :: bs,0,hk,hp,he,hS=>by
  rcases he with he | ⟨_,he⟩
  ·simp at he
  ·have:¬D.length=S:=by
    intro e;rw [Qiz (D:=D) rfl,if_pos e] at he;omega
   simp [cutW,this]
 | D :: bs,k+1,hk,hp,he,hS=>by
  have h0:=hp 0 (by omega);rw [Qiz (D:=D) rfl] at h0;have hD:D.length=S:=by
   rcases Nat.lt_or_ge 0 S with h | h
   ·by_cases e:D.length=S
    ·exact e
    ·rw [if_neg e] at h0;omega
   ·omega
  have hsh:∀j,wFit S (D :: bs) (j+1)=wFit S bs j:=λ j=>by simp [wFit]
  have ih:=Qmw bs k (by simpa using hk) (λ j hj=>by rw [<-hsh];exact hp (j+1) (by omega)) (by
   rcases he with he | ⟨he1,he2⟩
   ·exact .inl (by simpa using he)
   ·exact .inr ⟨by simpa using he1,by rw [<-hsh];exact he2⟩) hS
  simp only [List.take_succ_cons,ih,cutW,hD,List.takeWhile_cons]
  simp
structure CpSt (w:World) (q0 g r0 B0 B1 B2:Nat) (a:Option Addr) (n c S:Nat) (d:Int) (bs:List (List Int)) (k:Nat) (W:World):Prop where
 below:Below q0 w W
 b0:Blk W B0 [.int .i64 S] 3
 b1:Blk W B1 [.slice a n c] 74
 b2:Blk W B2 [.func (.func 154) #[] #[.pointer (some ⟨B0,0,none⟩)]] 172
 r:Blk W r0 [.slice none 0 0,.int .i64 0] 91
 o:∃v,Blk W g [v,.int .i64 d] 91/\RowAt (λ j=>q0<=j) W v (bs.take k)
 ne:g≠r0/\q0<=g/\q0<=r0
section
variable {w:World} {q0 g r0 B0 B1 B2:Nat} {a:Option Addr} {n c S:Nat} {d:Int} {bs:List (List Int)} {k:Nat} {W W':World}
theorem CpSt.under (h:CpSt w q0 g r0 B0 B1 B2 a n c S d bs k W) (hb:Below W.heap.size W W'):CpSt w q0 g r0 B0 B1 B2 a n c S d bs k W':=by
 obtain ⟨v,o1,o2⟩:=h.o;have ho:=Qab Non hb;exact ⟨h.below.trans (hb.mono (by have:=o1.lt;have:=h.ne.2.1;omega)),ho.blk h.b0 id,ho.blk h.b1 id,ho.blk h.b2 id,ho.blk h.r id,⟨v,ho.blk o1 id,o2.out ho (λ _ _=>id) (λ _ _ _ _=>id)⟩,h.ne⟩
theorem CpSt.calm {l:Nat} (h:CpSt w q0 g r0 B0 B1 B2 a n c S d bs k W) (hc:Calm l W W') (hl:q0<=l):CpSt w q0 g r0 B0 B1 B2 a n c S d bs k W':=by
 obtain ⟨v,o1,o2⟩:=h.o;refine ⟨h.below.trans (hc.2.1.below (by have:=o1.lt;have:=h.ne.2.1;omega) (λ j e=>by omega)),hc.blk h.b0,hc.blk h.b1,hc.blk h.b2,hc.blk h.r,⟨v,hc.blk o1,hc.row o2⟩,h.ne⟩
theorem Qdh {O:Nat->Prop} {V:World} {g:Nat} {L:List Value} {t:TypeId} (hg:Blk V g L t) (h1:t≠71) (h2:t≠5) (i:Nat) (u:Value) {v:Value} {bs:List (List Int)} (hr:RowAt O V v bs):RowAt O (V.setCell ⟨g,i,none⟩ u) v bs:=by
 have hr':=hr;obtain ⟨vs,r1,r2,r3,r4⟩:=hr;refine hr'.out (Qc1 V g i u) (λ r e e'=>?_) (λ c cur _ hc e=>?_)
 ·subst e';exact Qcd hg h1 r1 e
 ·subst e
  have:some (Obj.cells L.toArray t (0,0))=some (Obj.cells cur 5 (0,0)):=(show V.heap[c]?=_ from hg).symm.trans hc;simp at this
  exact h2 this.2
theorem Qq3 {R:Loop} {l:Nat} {W w':World} {v:Value} {bs:List (List Int)} {O:Nat->Prop} {o:Obj} (h:Book R l W) (hr:RowAt O W v bs) (hg:(W.alloc o).grownBy w' v.ownBlock):Book R l w':=by
 obtain ⟨vs,r1,_⟩:=hr;refine (h.below ((Below.refl _ _).alloc (Nat.le_refl _) o)).out (Qew hg) (λ j e=>?_)
 obtain ⟨cur,hc⟩:=Qaz (r1.alloc o) e;exact ⟨_,_,_,hc⟩
theorem Qg2 {R:Loop} {l:Nat} {W:World} {g:Nat} {L:List Value} {t:TypeId} (h:Book R l W) (hg:Blk W g L t) (i:Nat) (u:Value):Book R l (W.setCell ⟨g,i,none⟩ u):=
 h.out (Qc1 W g i u) (λ j e=>by subst e;exact ⟨_,_,_,hg⟩)
theorem CpSt.app {R:Loop} {l:Nat} (h:CpSt w q0 g r0 B0 B1 B2 a n c S d bs k W) (hbk:Book R l W) {D:List Int} (hD:bs[k]?=some D) {v v':Value} {o:Obj} {w':World} (hr:RowAt (λ j=>q0<=j) W v (bs.take k)) (hv:Blk W g [v,.int .i64 d] 91)
  (hg:(W.alloc o).grownBy w' v.ownBlock) (h2:RowAt (λ j=>q0<=j) w' v' (bs.take k ++ [D])):CpSt w q0 g r0 B0 B1 B2 a n c S d bs (k+1) (w'.setCell ⟨g,0,none⟩ v')/\Book R l (w'.setCell ⟨g,0,none⟩ v'):=by
 obtain ⟨vs,r1,r2,_⟩:=id hr;have g1:Blk w' g [v,.int .i64 d] 91:=(hv.alloc o).grown (by decide) (r1.alloc o) hg;have k0:Blk w' B0 _ _:=(h.b0.alloc o).grown (by decide) (r1.alloc o) hg;have k1:Blk w' B1 _ _:=(h.b1.alloc o).grown (by decide) (r1.alloc o) hg;have k2:Blk w' B2 _ _:=(h.b2.alloc o).grown (by decide) (r1.alloc o) hg;have k3:Blk w' r0 _ _:=(h.r.alloc o).grown (by decide) (r1.alloc o) hg;have lt:=hv.lt;have ne:=h.ne;refine ⟨⟨?_,k0.set_other (Qbq k0 g1 (by decide)) _,k1.set_other (Qbq k1 g1 (by decide)) _,k2.set_other (Qbq k2 g1 (by decide)) _,k3.set_other (by intro e;exact ne.1 e.symm) _,⟨v',g1.set 0 v',?_⟩,h.ne⟩,Qg2 (Qq3 hbk hr hg) g1 0 v'⟩
 ·exact (((h.below.alloc (by omega) o).grown hg (by simp;omega) (λ j hj=>r2 j hj)).setCell (p:=⟨g,0,none⟩) ne.2.1 v')
 ·rw [Qao hD]
  exact Qdh g1 (by decide) (by decide) 0 v' h2
end
theorem Tryz.info_zone:(prog.info? 91).map (·.size)=some 2:=by kernel_rfl
def Qvm (w:World) (bs:List (List Int)) (S:Nat) (d:Int) (e:Ending) (w':World):Prop:=
 ∃v,e=.returned (.agg #[v,.int .i64 d])/\RowAt (λ j=>w.heap.size<=j) w' v (cutW S bs)/\Below w.heap.size w w'
set_option maxHeartbeats 2000000 in
theorem Qm5 (a:Option Addr) (n c S:Nat) (d:Int) (bs:List (List Int)) (w:World) (hb:BsIn w a n bs) (hS:0<S) (hS':S<=100000) :
  Calls prog 41 #[.agg #[.slice a n c,.int .i64 d],.int .i64 S] w (Qvm w bs S d):=by
 obtain ⟨q,hq⟩:∃q,q=w.heap.size:=⟨_,rfl⟩
 refine (callsIn_wide (n:=5)).1 (callsIn_of_wp_marks func41 rfl trivial (wpIn_wide.2 ?_))
 simp only [ntmps41,List.size_toArray,List.length_cons,List.length_nil,Nat.reduceAdd,Nat.reduceSub,Array.replicate_succ,Array.replicate_zero,List.push_toArray,List.append_toArray,List.nil_append,List.cons_append]
 have HB:=Jh4 hb hS hS' hq;clear hb hS hS';go_upto_region 2 with fail
 rw [<-hq];have HW:Hid (Blk (((w.alloc (.cells #[.slice a n c,.int .i64 d] 91)).alloc (.cells #[.slice none 0 0,.int .i64 0] 91)).alloc (.cells #[.slice none 0 0,.int .i64 d] 91)) q [.slice a n c,.int .i64 d] 91/\
   Blk (((w.alloc (.cells #[.slice a n c,.int .i64 d] 91)).alloc (.cells #[.slice none 0 0,.int .i64 0] 91)).alloc (.cells #[.slice none 0 0,.int .i64 d] 91)) (q+1) [.slice none 0 0,.int .i64 0] 91/\
   Blk (((w.alloc (.cells #[.slice a n c,.int .i64 d] 91)).alloc (.cells #[.slice none 0 0,.int .i64 0] 91)).alloc (.cells #[.slice none 0 0,.int .i64 d] 91)) (q+1+1) [.slice none 0 0,.int .i64 d] 91/\
   Below q w (((w.alloc (.cells #[.slice a n c,.int .i64 d] 91)).alloc (.cells #[.slice none 0 0,.int .i64 0] 91)).alloc (.cells #[.slice none 0 0,.int .i64 d] 91))/\
   (((w.alloc (.cells #[.slice a n c,.int .i64 d] 91)).alloc (.cells #[.slice none 0 0,.int .i64 0] 91)).alloc (.cells #[.slice none 0 0,.int .i64 d] 91)).heap.size=q+3):=
  ⟨((Blk.new' hq.symm rfl).alloc _).alloc _,(Blk.new' (by simp [hq]) rfl).alloc _,Blk.new' (by simp [hq]) rfl,(((Below.refl q w).alloc (by omega) _).alloc (by simp [hq]) _).alloc (by simp [hq];omega) _,by simp [hq]⟩
 generalize hW:World.alloc _ _=W1 at HW ⊢;have c0:W1.cell? ⟨q,0,none⟩=some (.slice a n c):=HW.out.1.cell 0;have hsz:W1.heap.size=q+3:=(Jz4 HW)
 clear hW hq;refine wp_region_noPanic ?_
 go_region_law (first
  | (go_simp;go_at_call 93;refine (Qxm S _).mono ?_;rintro e w2 ⟨rfl,rfl⟩)
  | (go_simp;go_at_call 92;refine (Q05 a n c 154 _ _).mono ?_;rintro e w2 ⟨rfl,rfl⟩))
 all_goals
  have HV:Hid (CpSt w q (q+1+1) (q+1) (q+3) (q+3+1) (q+3+1+1) a n c S d bs 0 (((W1.alloc (.cells #[.int .i64 S] 3)).alloc (.cells #[.slice a n c] 74)).alloc (.cells #[.func (.func 154) #[] #[.pointer (some ⟨q+3,0,none⟩)]] 172)).drew):=by
   obtain ⟨h1,h2,h3,h4,h5⟩:=HW.out;refine ⟨(((h4.alloc (by omega) _).alloc (by simp;omega) _).alloc (by simp;omega) _).drew,((Blk.new' hsz rfl).alloc _).alloc _,(Blk.new' (by simp [hsz]) rfl).alloc _,Blk.new' (by simp [hsz]) rfl,((h2.alloc _).alloc _).alloc _,⟨_,((h3.alloc _).alloc _).alloc _,RowAt.nil _ _⟩,by omega⟩
  have hsz2:((((W1.alloc (.cells #[.int .i64 S] 3)).alloc (.cells #[.slice a n c] 74)).alloc (.cells #[.func (.func 154) #[] #[.pointer (some ⟨q+3,0,none⟩)]] 172)).drew).heap.size=q+6:=by simp [hsz]
  generalize hW2:World.drew _=W2 at HV hsz2 ⊢;clear hW2 c0 hsz HW;refine NoPanic.normal ?_
  go_wp2
  refine wpIn_wide.1 (Qg7 (n:=5) (gf:=152) (lb:=#[.pointer (some ⟨q+3+1,0,none⟩),.pointer (some ⟨q+3+1+1,0,none⟩)]) rfl (enters_of func152 (by kernel_rfl) rfl)
   (CpSt w q (q+1+1) (q+1) (q+3) (q+3+1) (q+3+1+1) a n c S d bs)
   (λ k x W=>CpSt w q (q+1+1) (q+1) (q+3) (q+3+1) (q+3+1+1) a n c S d bs k W/\∃D,bs[k]?=some D/\BkAt (λ j=>q<=j) W x D/\∃gx m,x=.slice (some ⟨gx,0,none⟩) m m)
   (λ W=>∃k,CpSt w q (q+1+1) (q+1) (q+3) (q+3+1) (q+3+1+1) a n c S d bs k W/\bs.take k=cutW S bs)
   (λ k W W' h hc=>h.calm hc (by omega)) (λ k x W W' h hc=>⟨h.1.calm hc (by omega),by obtain ⟨D,h1,h2,h3⟩:=h.2;exact ⟨D,h1,hc.bk h2,h3⟩⟩) (λ W W' h hc=>by obtain ⟨k,h1,h2⟩:=h;exact ⟨k,h1.calm hc (by omega),h2⟩)
   (λ o o'=>HV.out.under (((Below.refl _ _).alloc (Nat.le_refl _) _).alloc (by simp) _))
   (λ x=>{tmps:=#[.agg #[.slice a n c,.int .i64 d],.int .i64 S,.pointer (some ⟨q,0,none⟩),undef,.pointer (some ⟨q+1,0,none⟩),.pointer (some ⟨q+1+1,0,none⟩),x,.pointer (some ⟨q,1,none⟩),.int .i64 d,.agg #[.slice none 0 0,.int .i64 d],.pointer (some ⟨q,0,none⟩),.slice a n c,.int .i64 S,
     .func (.func 154) #[] #[.pointer (some ⟨q+3,0,none⟩)],.func (.func 152) #[] #[.pointer (some ⟨q+3+1,0,none⟩),.pointer (some ⟨q+3+1+1,0,none⟩)],x,undef,undef,undef,undef,undef,undef,undef],defers:=[]}) ?assign ?body ?iter ?done)
  case assign=>
   rintro l k x W K ⟨_,D,_,_,gx,m,rfl⟩ hK;gi_wp2
   exact hK
  case body=>
   rintro l R k x W hbk ⟨hst,D,hD,hx,gx,m,rfl⟩;obtain ⟨v,o1,o2⟩:=hst.o;have hl:(bs.take k).length=k:=by have:=(List.getElem?_eq_some_iff.1 hD).1;simp;omega
   have hk:k+1<=100000:=by have:=(List.getElem?_eq_some_iff.1 hD).1;have:=HB.out.1.1;have:=HB.out.1.2.1;omega
   obtain ⟨av,cv,rfl⟩:=o2.slice;rw [hl] at o1 o2;obtain ⟨a',c',w',hrun,h2,h3,h4⟩:=Qep o2 hx rfl (by rw [hl];exact hk) (λ j hj=>by have:=o1.lt;omega);rw [hl] at hrun h2;have vs:∃vs,W.ownsRow 0 71 1 (.slice av k cv) (bs.take k).length vs:=by obtain ⟨vs,h,_⟩:=o2;exact ⟨vs,h⟩
   obtain ⟨vs,hvs⟩:=vs;have g1:Blk w' (q+1+1) [.slice av k cv,.int .i64 d] 91:=(o1.alloc _).grown (by decide) (hvs.alloc _) h3;have cc:W.cell? ⟨q+1+1,0,none⟩=some (.slice av k cv):=o1.cell 0;have cw:w'.cell? ⟨q+1+1,0,none⟩=some (.slice av k cv):=g1.cell 0;have fw:=g1.frozen 0;have HS:Hid (CpSt w q (q+1+1) (q+1) (q+3) (q+3+1) (q+3+1+1) a n c S d bs (k+1) (w'.setCell ⟨q+1+1,0,none⟩ (.slice a' (k+1) c'))/\Book R W2.heap.size (w'.setCell ⟨q+1+1,0,none⟩ (.slice a' (k+1) c'))):=hst.app hbk hD o2 o1 h3 h2;clear o1 o2 hx h2 h3 h4 hvs g1 hst;have HR:=Jh1 hrun;clear hrun;gi_wp2_with (gi_at_builtin;refine Qdk rfl (.tmp 17) (.tmp 19) 74 74 rfl _ _ rfl rfl _ _ HR.out ?_)
   exact ⟨by rw [<-hsz2];exact HS.out.2,HS.out.1⟩
  case iter=>
   intro R W hY hbk h0;refine (Qw7 (n:=5 - 1) (J:=CpSt w q (q+1+1) (q+1) (q+3) (q+3+1) (q+3+1+1) a n c S d bs) (JF:=CpSt w q (q+1+1) (q+1) (q+3) (q+3+1) (q+3+1+1) a n c S d bs) (gf:=154) (lb:=#[.pointer (some ⟨q+3,0,none⟩)]) (fit:=wFit S bs) (a:=a) (nb:=n) (c:=c) (bs:=bs)
    ⟨HB.out.1.1,HB.out.1.2.1,λ k W h=>⟨h.b1.cell 0,h.b2.cell 0⟩,?rd,?fits,?le,?torn⟩ (enters_of func154 (by kernel_rfl) rfl) hY W hbk h0).mono ?_
   case rd=>
    intro k W D h hD;have hb:=HB.out.1.below (by rw [<-(Jz3 HB)];exact h.below);obtain ⟨b,off,ha,hc⟩:=hb.2.2.resolve_left (by have:=(List.getElem?_eq_some_iff.1 hD).1;have:=HB.out.1.1;omega);obtain ⟨v,h1,A,L,C,rfl,h2,h3,h4,h5⟩:=hc k D hD;exact ⟨b,off,A,L,C,ha,h1,h2,h4,h5⟩
   case fits=>
    intro k W D A L C h hD hin hb;refine (Qvi S (q+3) A L C W (h.b0.cell 0)).mono ?_
    rintro e w' ⟨rfl,rfl⟩;refine ⟨?_,h,hb,hin⟩
    rw [Qiz hD,hin.1];by_cases e:L=S
    ·rw [if_pos (by exact_mod_cast e),if_pos e]
    ·rw [if_neg (by exact_mod_cast e),if_neg e];rfl
   case le=>
    intro k D hD;rw [Qiz hD];split <;> omega
   case torn=>
    intro k W D x W' h hD hp hb hx hg;have e:wFit S bs k=D.length:=by
     rw [Qiz hD] at hp ⊢;split at hp
     ·rename_i h;rw [if_pos h,h]
     ·omega
    rw [e,Qnx] at hx;obtain ⟨gx,rfl⟩:=hg;obtain ⟨v,o1,_⟩:=h.o;exact ⟨h.under hb,D,hD,hx.mono (λ c hc _=>by have:=o1.lt;omega),gx,_,rfl⟩
   rintro e W' ⟨hv,hb,k,hk,hp,he⟩;refine ⟨hv,hb,k,?_,?_⟩
   ·rcases he with ⟨_,h⟩ | ⟨_,_,h⟩ <;> exact h
   ·refine Qmw bs k (by rw [HB.out.1.1];exact hk) hp ?_ (J2 HB)
    rw [HB.out.1.1];rcases he with ⟨h,_⟩ | ⟨h1,h2,_⟩
    ·exact .inl h
    ·exact .inr ⟨h1,h2⟩
  case done=>
   rintro W ⟨k,hst,he⟩ hK;obtain ⟨v,o1,o2⟩:=hst.o;rw [he] at o2;have HO:=Jh4 hst o1 o2 hK;obtain ⟨av,cv,hv⟩:=o2.slice;subst hv;have c0:W.cell? ⟨q+1+1,0,none⟩=some (.slice av (cutW S bs).length cv):=o1.cell 0;have c1:W.cell? ⟨q+1+1,1,none⟩=some (.int .i64 d):=o1.cell 1;have e0:W.cell? ⟨q+1,0,none⟩=some (.slice none 0 0):=hst.r.cell 0;have e1:W.cell? ⟨q+1,1,none⟩=some (.int .i64 0):=hst.r.cell 1;have f0:=hst.r.frozen 0;have f1:=hst.r.frozen 1;clear hst o1 o2 hK;go_wp2
   obtain ⟨hst,o1,o2,hK⟩:=HO.out;have hne:=hst.ne;have r2:=((hst.r.set 0 (.slice av (cutW S bs).length cv)).set 1 (.int .i64 d))
   have hK':((W.setCell ⟨q+1,0,none⟩ (.slice av (cutW S bs).length cv)).setCell ⟨q+1,1,none⟩ (.int .i64 d)).heap[W2.heap.size]?=some (.deferred (some [])):=by
    rw [Below.heap_setCell _ _ _ _ (by show W2.heap.size≠q+1;omega),Below.heap_setCell _ _ _ _ (by show W2.heap.size≠q+1;omega)];exact hK
   have hcm:=Qiv hK' (.deferred none);have hrow:=hcm.row (Qdh (hst.r.set 0 (.slice av (cutW S bs).length cv)) (by decide) (by decide) 1 (.int .i64 d) (Qdh hst.r (by decide) (by decide) 0 (.slice av (cutW S bs).length cv) o2));have hbel:Below q w ((W.setCell ⟨q+1,0,none⟩ (.slice av (cutW S bs).length cv)).setCell ⟨q+1,1,none⟩ (.int .i64 d)):=(hst.below.setCell (p:=⟨q+1,0,none⟩) (by show q<=q+1;omega) _).setCell (p:=⟨q+1,1,none⟩) (by show q<=q+1;omega) _;refine ⟨by simp,.inl ⟨_,_,rfl,run_takeDeferred hK',?_⟩⟩
   refine ⟨_,Qap (p:=4) (ty:=91) rfl _ _ (q+1) _ _ _ rfl (hcm.blk r2) Tryz.underlying91 rfl Tryz.info_zone,_,rfl,?_,?_⟩
   ·rw [<-(Jz3 HB)];exact hrow
   ·rw [<-(Jz3 HB)]
    exact hbel.trans (hcm.2.1.below (by have:=hcm.2.2;have:=r2.lt;omega) (λ j e=>by omega))
end
def kst (k t:Int):Nat->Int × Int
 | 0=>(k,t)
 | j+1=>Qg4 (kst k t j).1 (kst k t j).2
def kFit (us:List (List Int)) (k t:Int) (j:Nat):Nat:=Qfu (kst k t j).1 (kst k t j).2 (us.getD j []).length
def kRes (us:List (List Int)) (k t:Int) (j:Nat):List (List Int):=(List.range j).map (λ i=>Qft (us.getD i []) (kFit us k t i))
theorem Qnd (us:List (List Int)) (k t:Int) (j:Nat):kRes us k t (j+1)=kRes us k t j ++ [Qft (us.getD j []) (kFit us k t j)]:=by simp [kRes,List.range_succ]
theorem Q1e (k t:Int):∀j,(kst k t j).1<=k
 | 0=>Int.le_refl _
 | j+1=>by
  have:=Q1e k t j;simp only [kst,Qg4]
  split <;> simp <;> omega
theorem Qyp (k t:Int) (n:Nat):Qfu k t n<=n:=by unfold Qfu;split <;> omega
theorem Qlw (k t:Int):∀j,j<=k.toNat->kst k t j=(k - j,t)
 | 0,_=>by simp [kst]
 | j+1,h=>by
  rw [kst,Qlw k t j (by omega)];have:0<k - (j:Int):=by omega
  show Qg4 (k - j) t=_;rw [Qg4,if_pos this];congr 1
  omega
theorem Qzc (k t:Int):(kst k t (k.toNat+1)).1<=0/\(kst k t (k.toNat+1)).2=0:=by
 rw [kst,Qlw k t k.toNat (Nat.le_refl _)];have:¬0<k - (k.toNat:Int):=by omega
 show (Qg4 (k - k.toNat) t).1<=0/\(Qg4 (k - k.toNat) t).2=0;rw [Qg4,if_neg this];exact ⟨by show k - (k.toNat:Int)<=0;omega,rfl⟩
def Qi2 (us:List (List Int)) (k t:Int):List (List Int):=
 us.take k.toNat ++ (match us[k.toNat]? with | some D=>if 0<t then [Qft D (min t.toNat D.length)] else [] | none=>[])
def Qck (bs:List (List Int)) (dn:Nat) (k t:Int):List (List Int):=bs.take dn ++ Qi2 (bs.drop dn) k t
theorem Qp6 {us:List (List Int)} {k t:Int} {j:Nat} (h:j<k.toNat):kFit us k t j=(us.getD j []).length:=by
 rw [kFit,Qlw k t j (by omega)];have:0<k - (j:Int):=by omega
 show Qfu (k - j) t _=_;rw [Qfu,if_pos this]
theorem Qr5 (us:List (List Int)) (k t:Int):kFit us k t k.toNat=min t.toNat (us.getD k.toNat []).length:=by
 rw [kFit,Qlw k t k.toNat (Nat.le_refl _)];have:¬0<k - (k.toNat:Int):=by omega
 show Qfu (k - k.toNat) t _=_;rw [Qfu,if_neg this]
theorem Qvq (us:List (List Int)) (k t:Int):kFit us k t (k.toNat+1)=0:=by
 have h:=Qzc k t;have:¬0<(kst k t (k.toNat+1)).1:=by omega
 simp [kFit,Qfu,this,h.2]
theorem Qez (us:List (List Int)):∀j,j<=us.length->(List.range j).map (λ i=>us.getD i [])=us.take j
 | 0,_=>by simp
 | j+1,h=>by
  rw [List.range_succ,List.map_append,Qez us j (by omega),Qao (x:=us.getD j []) (by simp [List.getD,show j<us.length by omega])];rfl
theorem Qml {us:List (List Int)} {k t:Int}:∀{j:Nat},j<=k.toNat->j<=us.length->kRes us k t j=us.take j:=by
 intro j h1 h2;rw [<-Qez us j h2,kRes];apply List.map_congr_left
 intro i hi;rw [Qp6 (by have:=List.mem_range.1 hi;omega),Qnx]
theorem Qwy {us:List (List Int)} {k t:Int} {j:Nat} (hl:∀D∈us,0<D.length) (hj:j<=us.length) (hp:∀i,i<j->0<kFit us k t i) (he:j=us.length\/(j<us.length/\kFit us k t j=0)):kRes us k t j=Qi2 us k t:=by
 have hpos:∀i,i<us.length->0<(us.getD i []).length:=by
  intro i hi;have:us.getD i []=us[i]:=by simp [List.getD,hi]
  rw [this];exact hl _ (List.getElem_mem hi)
 rcases Nat.lt_trichotomy j k.toNat with h | h | h
 ·-- it has come to its end
  have hj':j=us.length:=by
   rcases he with he | ⟨he1,he2⟩
   ·exact he
   ·rw [Qp6 h] at he2
    have:=hpos j he1;omega
  rw [Qml (by omega) hj,Qi2,List.getElem?_eq_none (by omega)];simp [hj']
  rw [List.take_of_length_le (by omega)]
 ·rw [Qml (by omega) hj,Qi2,<-h]
  rcases he with he | ⟨he1,he2⟩
  ·rw [List.getElem?_eq_none (by omega)];simp
  ·rw [h,Qr5] at he2
   have:=hpos j he1;rw [h] at this;have ht:¬0<t:=by omega
   rw [List.getElem?_eq_getElem he1];simp [ht]
 ·have hj1:j=k.toNat+1:=by
   rcases Nat.lt_or_ge (k.toNat+1) j with h' | h'
   ·have:=hp _ h'
    rw [Qvq] at this;omega
   ·omega
  subst hj1;rw [Qnd,Qml (Nat.le_refl _) (by omega),Qi2];have h0:=hp k.toNat (by omega);rw [Qr5] at h0 ⊢;have ht:0<t:=by omega
  rw [List.getElem?_eq_getElem (by omega)];have e:us.getD k.toNat []=us[k.toNat]:=by simp [List.getD,show k.toNat<us.length by omega]
  simp only [e,ht,if_true]
def Arr (W:World) (a:Option Addr) (c:Nat) (L:List Value):Prop:=(a=none/\c=0/\L=[])\/∃r,a=some ⟨r,0,none⟩/\Blk W r L 71/\L.length=c/\c<=maxLen
theorem RowAt.arr {O:Nat->Prop} {W:World} {a:Option Addr} {n c:Nat} {bs:List (List Int)} (h:RowAt O W (.slice a n c) bs):∃vs rest,Arr W a c (vs ++ rest)/\BsAt O W vs bs/\vs.length=n/\n=bs.length/\n<=c:=by
 obtain ⟨vs,h1,h2,h3,h4⟩:=h;obtain ⟨h5,h6⟩:=Qev h1;have hv:vs.length=n:=by rw [h3.1,h6]
 rcases h1.2 with ⟨hv',hn⟩ | ⟨g,cap,cur,hv',hb,hg,hc,hcm,hsz,htk⟩
 ·cases hv'
  have:vs=[]:=List.length_eq_zero_iff.1 hv;exact ⟨vs,[],.inl ⟨rfl,rfl,by simp [this]⟩,h3,hv,h6,h5⟩
 ·cases hv'
  refine ⟨vs,cur.toList.drop bs.length,.inr ⟨g,rfl,?_,?_,hcm⟩,h3,hv,rfl,h5⟩
  ·have:vs ++ cur.toList.drop bs.length=cur.toList:=by
    rw [<-htk];simp
   rw [this];exact hg
  ·simp [hv,hsz];omega
theorem Arr.row {O:Nat->Prop} {W:World} {a:Option Addr} {c:Nat} {hs rest:List Value} {bs:List (List Int)} (h:Arr W a c (hs ++ rest)) (hb:BsAt O W hs bs) (hl:bs.length<=100000) (hO:∀r,a=some r->O r.block):RowAt O W (.slice a bs.length c) bs:=by
 refine ⟨hs,⟨by rw [hb.1];omega,?_⟩,?_,hb,hl⟩
 ·rcases h with ⟨rfl,rfl,hL⟩ | ⟨r,rfl,hr,hlen,hcm⟩
  ·have:hs=[]:=by simp at hL;exact hL.1
   have:bs.length=0:=by rw [<-hb.1,this];rfl
   exact .inl ⟨by rw [this],this⟩
  ·refine .inr ⟨r,c,_,rfl,Nat.zero_le _,hr,?_,hcm,by simp at hlen ⊢;exact hlen,?_⟩
   ·simp at hlen;have:=hb.1;omega
   ·simp [<-hb.1]
 ·intro r hr
  cases a with
  | none=>cases hr
  | some x=>cases hr;exact hO _ rfl
end Go.Proofs.YtcdnjeiamihhbaaGreat
