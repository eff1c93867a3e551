/- P19 -/
import Derived.Shelf.SlSortCmp.WholeK
import Derived.Shelf.SlSortCmp.NoneTotal
import Derived.Test.YtcdnjeiamihhbaaGreatP18
set_option linter.unusedVariables false
set_option maxRecDepth 4000
open Go.Proofs.Tryz
namespace Go.Proofs.YtcdnjeiamihhbaaGreat
open Go.Shelf Go.RowKit Go.Lib Go.Sort
def Tryz.sortN_ren:Go.Shelf.Ren:=⟨fun | 6=>85 | 15=>148 | 14=>147 | 28=>222 | 29=>223 | 20=>214 | 21=>215 | 22=>216 | 23=>217 | 24=>218 | 25=>219 | 26=>220 | 27=>221 | 46=>261 | 47=>262 | 48=>263 | 49=>264 | 50=>265 | 57=>283 | n=>n,fun | 22=>152 | 24=>158 | 25=>160 | 3=>3 | 39=>236 | 0=>0 | 53=>70 | 55=>45 | 4=>4 | 46=>292 | 45=>291 | 50=>143 | 5=>5 | 9=>9 | 66=>325 | 70=>328 | 76=>344 | 77=>183 | n=>n,fun | n=>n⟩
theorem Tryz.sortN:Go.Proofs.SlLaysF0.n6 prog Tryz.sortN_ren:={
 mixed:=by kernel_rfl,
 f6:=⟨Tryz.f85.name,by decide,func85.trans (congrArg some (by kernel_rfl))⟩,
 f14:=⟨Tryz.f147.name,by decide,func147.trans (congrArg some (by kernel_rfl))⟩,
 f15:=func148.trans (congrArg some (by kernel_rfl)),
 f20:=⟨Tryz.f214.name,by decide,func214.trans (congrArg some (by kernel_rfl))⟩,
 f21:=⟨Tryz.f215.name,by decide,func215.trans (congrArg some (by kernel_rfl))⟩,
 f22:=⟨Tryz.f216.name,by decide,func216.trans (congrArg some (by kernel_rfl))⟩,
 f23:=⟨Tryz.f217.name,by decide,func217.trans (congrArg some (by kernel_rfl))⟩,
 f24:=⟨Tryz.f218.name,by decide,func218.trans (congrArg some (by kernel_rfl))⟩,
 f25:=⟨Tryz.f219.name,by decide,func219.trans (congrArg some (by kernel_rfl))⟩,
 f26:=⟨Tryz.f220.name,by decide,func220.trans (congrArg some (by kernel_rfl))⟩,
 f27:=⟨Tryz.f221.name,by decide,func221.trans (congrArg some (by kernel_rfl))⟩,
 f28:=func222.trans (congrArg some (by kernel_rfl)),
 f29:=func223.trans (congrArg some (by kernel_rfl)),
 f46:=⟨Tryz.f261.name,by decide,func261.trans (congrArg some (by kernel_rfl))⟩,
 f47:=func262.trans (congrArg some (by kernel_rfl)),
 f48:=func263.trans (congrArg some (by kernel_rfl)),
 f49:=⟨Tryz.f264.name,by decide,func264.trans (congrArg some (by kernel_rfl))⟩,
 f50:=⟨Tryz.f265.name,by decide,func265.trans (congrArg some (by kernel_rfl))⟩,
 f57:=⟨Tryz.f283.name,by decide,func283.trans (congrArg some (by kernel_rfl))⟩,
 t0:=Tryz.underlying0,
 a0:=Tryz.isAgg0,
 z0:=Tryz.sizeOf0,
 v0:=Tryz.zeroValue0,
 t3:=Tryz.underlying3,
 a3:=Tryz.isAgg3,
 z3:=Tryz.sizeOf3,
 v3:=Tryz.zeroValue3,
 t4:=Tryz.underlying4,
 a4:=Tryz.isAgg4,
 z4:=Tryz.sizeOf4,
 v4:=Tryz.zeroValue4,
 t5:=Tryz.underlying5,
 a5:=Tryz.isAgg5,
 z5:=Tryz.sizeOf5,
 v5:=Tryz.zeroValue5,
 t9:=Tryz.underlying9,
 a9:=Tryz.isAgg9,
 z9:=Tryz.sizeOf9,
 v9:=Tryz.zeroValue9,
 t22:=Tryz.underlying152,
 a22:=Tryz.isAgg152,
 z22:=Tryz.sizeOf152,
 v22:=Tryz.zeroValue152,
 t25:=Tryz.underlying160,
 a25:=Tryz.isAgg160,
 z25:=Tryz.sizeOf160,
 v25:=Tryz.zeroValue160,
 t39:=Tryz.underlying236,
 a39:=Tryz.isAgg236,
 z39:=Tryz.sizeOf236,
 v39:=Tryz.zeroValue236,
 t45:=Tryz.underlying291,
 a45:=Tryz.isAgg291,
 z45:=Tryz.sizeOf291,
 v45:=Tryz.zeroValue291,
 t46:=Tryz.underlying292,
 a46:=Tryz.isAgg292,
 z46:=Tryz.sizeOf292,
 v46:=Tryz.zeroValue292,
 t50:=Tryz.underlying143,
 a50:=Tryz.isAgg143,
 z50:=Tryz.sizeOf143,
 v50:=Tryz.zeroValue143,
 t53:=Tryz.underlying70,
 a53:=Tryz.isAgg70,
 z53:=Tryz.sizeOf70,
 v53:=Tryz.zeroValue70,
 t55:=Tryz.underlying45,
 a55:=Tryz.isAgg45,
 z55:=Tryz.sizeOf45,
 v55:=Tryz.zeroValue45,
 t66:=Tryz.underlying325,
 a66:=Tryz.isAgg325,
 z66:=Tryz.sizeOf325,
 v66:=Tryz.zeroValue325,
 t70:=Tryz.underlying328,
 a70:=Tryz.isAgg328,
 z70:=Tryz.sizeOf328,
 v70:=Tryz.zeroValue328,
 t76:=Tryz.underlying344,
 a76:=Tryz.isAgg344,
 z76:=Tryz.sizeOf344,
 v76:=Tryz.zeroValue344,
 t77:=Tryz.underlying183,
 a77:=Tryz.isAgg183,
 z77:=Tryz.sizeOf183,
 v77:=Tryz.zeroValue183}
end Go.Proofs.YtcdnjeiamihhbaaGreat
namespace Go.Proofs.YtcdnjeiamihhbaaGreat
open Go.RowKit Go.Sort Go.Lib Go.Shelf
def cmpZ (x y:Int):Int:=if x<y then -1 else if y<x then 1 else 0
def orZ (a b:Int):Int:=if a≠0 then a else b
def cfP (x y:Pr):Int:=orZ (cmpZ x.1 y.1) (cmpZ x.2 y.2)
theorem Qqi (x y:Pr):ltOf cfP x y=ltP x y:=by
 unfold ltOf cfP orZ cmpZ ltP;by_cases h1:x.1<y.1
 ·simp [h1]
 ·by_cases h2:y.1<x.1
  ·have:¬x.1=y.1:=by omega
   simp [h1,h2,this]
  ·have:x.1=y.1:=by omega
   by_cases h3:x.2<y.2
   ·simp [this,h3]
   ·by_cases h4:y.2<x.2 <;> simp [this,h3,h4]
theorem swoP:SWO (ltOf cfP) where
 irrefl x:=by rw [Qqi];exact Qfj x
 trans x y z h1 h2:=by rw [Qqi] at *;exact Qih h1 h2
 ntrans x y z h1 h2:=by rw [Qqi,Qmc] at *;omega
theorem Q2m (x:Int) (w:World):Calls prog 248 #[.int .i64 x] w λ e w'=>e=.returned (.bool false)/\w'=w:=by
 go_enter func248,ntmps248
 go_wp2
 go_ret
 exact ⟨by simp,rfl⟩
theorem Q22 (x y:Int) (w:World):Calls prog 195 #[.int .i64 x,.int .i64 y] w λ e w'=>e=.returned (.int .i64 (cmpZ x y))/\w'=w:=by
 have C:=λ z=>Q2m z w
 by_cases h1:x<y
 ·have hz:cmpZ x y = -1:=by unfold cmpZ;simp [h1]
  rw [hz];go_enter func195,ntmps195
  go_wp2_with (go_at_call 248;refine (C _).mono ?_;rintro e w' ⟨rfl,rfl⟩)
  go_ret
  exact ⟨rfl,rfl⟩
 ·by_cases h2:y<x
  ·have hz:cmpZ x y=1:=by unfold cmpZ;simp [h1,h2]
   rw [hz];go_enter func195,ntmps195
   go_wp2_with (go_at_call 248;refine (C _).mono ?_;rintro e w' ⟨rfl,rfl⟩)
   go_ret
   exact ⟨rfl,rfl⟩
  ·have hz:cmpZ x y=0:=by unfold cmpZ;simp [h1,h2]
   rw [hz];go_enter func195,ntmps195
   go_wp2_with (go_at_call 248;refine (C _).mono ?_;rintro e w' ⟨rfl,rfl⟩)
   go_ret
   exact ⟨rfl,rfl⟩
theorem Q0d (x:Int) (w:World):Calls prog 224 #[.int .u32 x] w λ e w'=>e=.returned (.bool false)/\w'=w:=by
 go_enter func224,ntmps224
 go_wp2
 go_ret
 exact ⟨by simp,rfl⟩
theorem Qzk (x y:Int) (w:World):Calls prog 150 #[.int .u32 x,.int .u32 y] w λ e w'=>e=.returned (.int .i64 (cmpZ x y))/\w'=w:=by
 have C:=λ z=>Q0d z w
 by_cases h1:x<y
 ·have hz:cmpZ x y = -1:=by unfold cmpZ;simp [h1]
  rw [hz];go_enter func150,ntmps150
  go_wp2_with (go_at_call 224;refine (C _).mono ?_;rintro e w' ⟨rfl,rfl⟩)
  go_ret
  exact ⟨rfl,rfl⟩
 ·by_cases h2:y<x
  ·have hz:cmpZ x y=1:=by unfold cmpZ;simp [h1,h2]
   rw [hz];go_enter func150,ntmps150
   go_wp2_with (go_at_call 224;refine (C _).mono ?_;rintro e w' ⟨rfl,rfl⟩)
   go_ret
   exact ⟨rfl,rfl⟩
  ·have hz:cmpZ x y=0:=by unfold cmpZ;simp [h1,h2]
   rw [hz];go_enter func150,ntmps150
   go_wp2_with (go_at_call 224;refine (C _).mono ?_;rintro e w' ⟨rfl,rfl⟩)
   go_ret
   exact ⟨rfl,rfl⟩
theorem Qyr (x:Int) (w:World):Calls prog 225 #[.int .u64 x] w λ e w'=>e=.returned (.bool false)/\w'=w:=by
 go_enter func225,ntmps225
 go_wp2
 go_ret
 exact ⟨by simp,rfl⟩
theorem Qqg (x y:Int) (w:World):Calls prog 151 #[.int .u64 x,.int .u64 y] w λ e w'=>e=.returned (.int .i64 (cmpZ x y))/\w'=w:=by
 have C:=λ z=>Qyr z w
 by_cases h1:x<y
 ·have hz:cmpZ x y = -1:=by unfold cmpZ;simp [h1]
  rw [hz];go_enter func151,ntmps151
  go_wp2_with (go_at_call 225;refine (C _).mono ?_;rintro e w' ⟨rfl,rfl⟩)
  go_ret
  exact ⟨rfl,rfl⟩
 ·by_cases h2:y<x
  ·have hz:cmpZ x y=1:=by unfold cmpZ;simp [h1,h2]
   rw [hz];go_enter func151,ntmps151
   go_wp2_with (go_at_call 225;refine (C _).mono ?_;rintro e w' ⟨rfl,rfl⟩)
   go_ret
   exact ⟨rfl,rfl⟩
  ·have hz:cmpZ x y=0:=by unfold cmpZ;simp [h1,h2]
   rw [hz];go_enter func151,ntmps151
   go_wp2_with (go_at_call 225;refine (C _).mono ?_;rintro e w' ⟨rfl,rfl⟩)
   go_ret
   exact ⟨rfl,rfl⟩
theorem Q4e (a b:Int) (g:Nat) (w:World) (h0:w.cell? ⟨g,0,none⟩=some (.int .i64 a)) (h1:w.cell? ⟨g,1,none⟩=some (.int .i64 b)):Calls prog 149 #[.slice (some ⟨g,0,none⟩) 2 2] w λ e w'=>e=.returned (.int .i64 (if a≠0 then a else b))/\w'=w:=by
 by_cases ha:a=0
 ·subst ha
  by_cases hb:b=0
  ·subst hb
   go_enter func149,ntmps149
   go_wp2
   refine wp_loop_rounds 3 ?_
   rw [rounds_succ];go_wp2;rw [rounds_succ];go_wp2;rw [rounds_succ];go_wp2;go_ret
   exact ⟨rfl,rfl⟩
  ·go_enter func149,ntmps149
   go_wp2
   refine wp_loop_rounds 3 ?_
   rw [rounds_succ];go_wp2;rw [rounds_succ];go_wp2;go_ret
   exact ⟨by simp,rfl⟩
 ·rw [if_pos ha]
  go_enter func149,ntmps149
  go_wp2
  refine wp_loop_rounds 3 ?_
  rw [rounds_succ];go_wp2;go_ret
  exact ⟨rfl,rfl⟩
theorem Qyz (x y:Pr) (W:World):Calls prog 86 #[.agg #[.int .u32 x.1,.int .u64 x.2],.agg #[.int .u32 y.1,.int .u64 y.2]] W λ e w'=>e=.returned (.int .i64 (cfP x y))/\∃q os',w'=grow (W.drewN q) os':=by
 have C0:=λ a b X=>Qzk a b X
 have C1:=λ a b X=>Qqg a b X
 have C2:∀a b g X,X.cell? ⟨g,0,none⟩=some (.int .i64 a)->X.cell? ⟨g,1,none⟩=some (.int .i64 b)->Calls prog 149 #[.slice (some ⟨g,0,none⟩) 2 2] X λ e w'=>e=.returned (.int .i64 (orZ a b))/\w'=X:=λ a b g X h0 h1=>Q4e a b g X h0 h1
 have c0:((W.alloc (.cells #[.int .u32 x.1,.int .u64 x.2] 158)).alloc (.cells #[.int .u32 y.1,.int .u64 y.2] 158)).cell? ⟨W.heap.size,0,none⟩=some (.int .u32 x.1):=by go_simp
 have c1:((W.alloc (.cells #[.int .u32 x.1,.int .u64 x.2] 158)).alloc (.cells #[.int .u32 y.1,.int .u64 y.2] 158)).cell? ⟨W.heap.size,1,none⟩=some (.int .u64 x.2):=by go_simp
 have d0:((W.alloc (.cells #[.int .u32 x.1,.int .u64 x.2] 158)).alloc (.cells #[.int .u32 y.1,.int .u64 y.2] 158)).cell? ⟨W.heap.size+1,0,none⟩=some (.int .u32 y.1):=by go_simp
 have d1:((W.alloc (.cells #[.int .u32 x.1,.int .u64 x.2] 158)).alloc (.cells #[.int .u32 y.1,.int .u64 y.2] 158)).cell? ⟨W.heap.size+1,1,none⟩=some (.int .u64 y.2):=by go_simp
 go_enter func86,ntmps86
 go_wp2
 go_region_held3 (λ V=>V.cell? ⟨W.heap.size,0,none⟩=some (.int .u32 x.1)/\V.cell? ⟨W.heap.size,1,none⟩=some (.int .u64 x.2)/\V.cell? ⟨W.heap.size+1,0,none⟩=some (.int .u32 y.1)/\V.cell? ⟨W.heap.size+1,1,none⟩=some (.int .u64 y.2)) (first | exact ⟨c0,c1,d0,d1⟩ | (refine ⟨?_,?_,?_,?_⟩ <;> go_simp))
  (first
  | (go_simp;go_at_call 150;refine (C0 _ _ _).mono ?_;rintro e w2 ⟨rfl,hw2⟩;replace hw2:=hw2.symm;subst hw2)
  | (go_simp;go_at_call 151;refine (C1 _ _ _).mono ?_;rintro e w2 ⟨rfl,hw2⟩;replace hw2:=hw2.symm;subst hw2)
  | (go_simp;go_at_call 149;refine (C2 (cmpZ x.1 y.1) (cmpZ x.2 y.2) _ _ (by go_simp) (by go_simp)).mono ?_;rintro e w2 ⟨rfl,hw2⟩;replace hw2:=hw2.symm;subst hw2))
 all_goals go_wp2
 all_goals go_ret
 all_goals exact ⟨rfl,1,_,by rw [alloc_eq_grow,alloc_eq_grow,alloc_eq_grow,grow_grow,grow_grow];rfl⟩
theorem Qw8 (blk off size:Nat) (w:World):CmpLays prog 86 #[] (prL .u32 .u64) 2 cfP blk off size w:=λ _ _ _ _ x y=>Qyz x y _
theorem Qxe (blk cap:Nat) (d:Array Pr) (w:World) (hH:HoldsK (prL .u32 .u64) 2 w blk 0 d) (hb:blk<w.heap.size) (hs:d.size<1000000) :
  Calls prog 85 #[.slice (some ⟨blk,0,none⟩) d.size cap,.func (.func 86) #[] #[]] w λ e w'=>e=.returned (.tuple #[])/\∃d' n os,PermIn 0 d.size d d'/\SortedIn (ltOf cfP) 0 d.size d'/\w'=sortWorldK (prL .u32 .u64) 2 w blk 0 n d' os:=
 AnyQ.slices_SortFunc Tryz.sortN 2 Tryz.isAgg158 Tryz.sizeOf158 (prL .u32 .u64) (λ _=>rfl) (λ x v hv=>by simp [prL] at hv;rcases hv with rfl | rfl <;> rfl) cfP swoP 86 #[] blk 0 cap d w (enters_of func86 (by kernel_rfl) rfl) (Qw8 blk 0 d.size w) hH hb (by omega)
section
def prC (q0 q1:IntKind) (xs:List Pr):List Value:=xs.flatMap (prL q0 q1)
section
variable {q0 q1:IntKind}
theorem Qkq (xs:List Pr):(prC q0 q1 xs).length=xs.length*2:=by
 unfold prC;induction xs with
 | nil=>rfl
 | cons x r ih=>rw [List.flatMap_cons,List.length_append,ih,List.length_cons];simp [prL];omega
theorem Qyi (xs:List Pr) (x:Pr):prC q0 q1 xs ++ prL q0 q1 x=prC q0 q1 (xs ++ [x]):=by simp [prC]
theorem Qqx:∀(xs:List Pr) (i:Nat) (x:Pr) (j:Nat),xs[i]?=some x->j<2->(prC q0 q1 xs)[i*2+j]?=(prL q0 q1 x)[j]?
 | [],i,x,j,h,_=>by simp at h
 | y :: r,0,x,j,h,hj=>by
  have:y=x:=by simpa using h
  subst this;rw [prC,List.flatMap_cons,Nat.zero_mul,Nat.zero_add,List.getElem?_append_left (by simp [prL];omega)]
 | y :: r,i+1,x,j,h,hj=>by
  have h':r[i]?=some x:=by simpa using h
  rw [prC,List.flatMap_cons,List.getElem?_append_right (by simp [prL];omega)];have:(i+1)*2+j - (prL q0 q1 y).length=i*2+j:=by simp [prL];omega
  rw [this];exact Qqx r i x j h' hj
theorem Q19 (x:Pr):∀v∈prL q0 q1 x,v.oneCell'=true:=by
 intro v hv;simp only [prL,List.mem_cons,List.not_mem_nil,or_false] at hv;rcases hv with rfl | rfl <;> rfl
theorem Qpy (xs:List Pr) (j:Nat) (h:j<xs.length*2):(prC q0 q1 xs)[j]?=some ((prL q0 q1 xs.toArray[j / 2]!)[j % 2]!):=by
 have hi:j / 2<xs.length:=by omega
 have hx:xs[j / 2]?=some xs[j / 2]:=List.getElem?_eq_getElem hi;have:=Qqx (q0:=q0) (q1:=q1) xs (j / 2) _ (j % 2) hx (by omega);have e:j / 2*2+j % 2=j:=by omega
 rw [e] at this;rw [this];have e2:xs.toArray[j / 2]! = xs[j / 2]:=by simp [hi]
 rw [e2];have h2:j % 2=0\/j % 2=1:=by omega
 rcases h2 with h2 | h2 <;> rw [h2] <;> rfl
theorem Qwm {w:World} {g:Nat} {cur:Array Value} {e:TypeId} {xs:List Pr} (hb:w.heap[g]?=some (.cells cur e (0,0))) (ht:cur.toList.take (xs.length*2)=prC q0 q1 xs):HoldsK (prL q0 q1) 2 w g 0 xs.toArray:=by
 intro j hj;have hj':j<xs.length*2:=by simpa using hj
 refine ⟨?_,by simp [World.frozen?,hb]⟩
 have h1:(cur.toList.take (xs.length*2))[j]?=(prC q0 q1 xs)[j]?:=by rw [ht]
 rw [List.getElem?_take_of_lt hj',Qpy xs j hj'] at h1;rw [get_flatK _ _ _ _ (by simpa using hj')];simp only [World.cell?,hb,Nat.zero_add]
 simp only [Option.isSome_none,Bool.false_eq_true,if_false]
 rw [<-Array.getElem?_toList,h1];rfl
theorem Qna {w:World} {g n:Nat} {os:Array Obj} {cur:Array Value} {e:TypeId} {fr:Nat × Nat} (d:Array Pr) (hb:w.heap[g]?=some (.cells cur e fr)) :
  (sortWorldK (prL q0 q1) 2 w g 0 n d os).heap[g]?=some (.cells (putCells id 0 (flatK (prL q0 q1) 2 d) cur) e fr):=by
 have hg:g<w.heap.size:=(Array.getElem?_eq_some_iff.1 hb).1;unfold sortWorldK putRowK;rw [heap_grow_old _ _ (by simpa using hg)];simp [putRow,mapBlock,Sort.ahead,Array.getElem?_modify,hb,onCells]
theorem Qiw {w:World} {g n:Nat} {os:Array Obj} (d:Array Pr):w.grownBy (sortWorldK (prL q0 q1) 2 w g 0 n d os) (some g):=by
 unfold sortWorldK putRowK;refine ⟨rfl,rfl,rfl,by simp,λ k hk hne=>?_⟩
 rw [heap_grow_old _ _ (by simpa using hk)];have:g≠k:=λ e=>hne (by rw [e])
 simp [putRow,mapBlock,Sort.ahead,Array.getElem?_modify,this]
theorem Qj9 (cur:Array Value) (ts:List Pr) (h:ts.length*2<=cur.size):(putCells id 0 (flatK (prL q0 q1) 2 ts.toArray) cur).toList.take (ts.length*2)=prC q0 q1 ts:=by
 apply List.ext_getElem?
 intro j;by_cases hj:j<ts.length*2
 ·rw [List.getElem?_take_of_lt hj,Array.getElem?_toList,Qpy ts j hj]
  have hf:=get_flatK (prL q0 q1) 2 ts.toArray j (by simpa using hj);have hc:j<cur.size:=by omega
  unfold putCells;rw [Array.getElem?_mapIdx,Array.getElem?_eq_getElem hc];simp only [Option.map_some,Nat.zero_le,true_and,Nat.zero_add,Nat.sub_zero,id]
  rw [if_pos (by simpa using hj),hf]
 ·rw [List.getElem?_take_eq_none (by omega),List.getElem?_eq_none (by rw [Qkq];omega)]
theorem Qzr {w:World} {base g cap n:Nat} {e:TypeId} {os:Array Obj} {xs ts:List Pr} (h:w.ownsRow base e 2 (.slice (some ⟨g,0,none⟩) xs.length cap) xs.length (prC q0 q1 xs)) (hl:ts.length=xs.length) :
  (sortWorldK (prL q0 q1) 2 w g 0 n ts.toArray os).ownsRow base e 2 (.slice (some ⟨g,0,none⟩) xs.length cap) xs.length (prC q0 q1 ts):=by
 rcases h.2 with ⟨hv,_⟩ | ⟨g',cap',cur,hv,h1,h2,h3,h4,h5,h6⟩
 ·cases hv
 ·cases hv
  refine ⟨by rw [Qkq,hl],.inr ⟨g,cap,_,rfl,h1,Qna _ h2,h3,h4,by simp [putCells,h5],?_⟩⟩
  rw [<-hl];exact Qj9 cur ts (by rw [h5,hl];omega)
theorem Qn8 {w:World} {base g cap:Nat} {e:TypeId} {xs:List Pr} (h:w.ownsRow base e 2 (.slice (some ⟨g,0,none⟩) xs.length cap) xs.length (prC q0 q1 xs)):HoldsK (prL q0 q1) 2 w g 0 xs.toArray/\g<w.heap.size:=by
 rcases h.2 with ⟨hv,_⟩ | ⟨g',cap',cur,hv,h1,h2,h3,h4,h5,h6⟩
 ·cases hv
 ·cases hv
  exact ⟨Qwm h2 h6,(Array.getElem?_eq_some_iff.1 h2).1⟩
end
theorem Qwh {xs ys:List Pr} {d':Array Pr} (hp:PermIn 0 xs.toArray.size xs.toArray d') (hs:SortedIn (ltOf cfP) 0 xs.toArray.size d') (hm:xs.Perm ys) (hu:ys.Pairwise (λ x y=>ltP x y=true)):d'=ys.toArray:=by
 obtain ⟨h1,_,h3⟩:=hp;have hsz:d'.size=xs.length:=by simpa using h1
 have e1:(d'.extract 0 xs.toArray.size).toList=d'.toList:=by simp [<-hsz]
 have e2:(xs.toArray.extract 0 xs.toArray.size).toList=xs:=by simp
 rw [e1,e2] at h3;have hup:d'.toList.Pairwise (λ x y=>ltP y x=false):=by
  rw [List.pairwise_iff_getElem];intro i j hi hj hij;have:=hs i j (Nat.zero_le _) hij (by simpa [hsz] using hj);rw [Qqi] at this;have hi':i<d'.size:=by simpa using hi
  have hj':j<d'.size:=by simpa using hj
  rw [getElem!_pos d' i hi',getElem!_pos d' j hj'] at this;simpa using this
 have:d'.toList=ys:=by
  refine List.Perm.eq_of_pairwise (le:=λ x y=>ltP y x=false) (λ a b _ _ h k=>Q0j k h) hup (hu.imp (λ h=>Qui h)) (h3.trans hm)
 rw [<-this]
theorem Qsx (xs ys:List Pl):plC xs ++ plC ys=plC (xs ++ ys):=by simp [plC]
theorem Q1g (xs:List Pl) (i:Nat) (x:Pl) (h:i<xs.length):((((plC xs).set (i*4) (.int .u32 x.1.1)).set (i*4+1) (.int .u64 x.1.2)).set (i*4+2) (.int .i64 x.2.1)).set (i*4+3) (.int .i64 x.2.2)=plC (xs.set i x):=by
 induction xs generalizing i with
 | nil=>simp at h
 | cons y r ih=>
  cases i with
  | zero=>simp [plC,plL]
  | succ i=>
   have h':i<r.length:=by simpa using h
   have e:plC (y :: r)=.int .u32 y.1.1 :: .int .u64 y.1.2 :: .int .i64 y.2.1 :: .int .i64 y.2.2 :: plC r:=rfl;have e2:plC ((y :: r).set (i+1) x)=.int .u32 y.1.1 :: .int .u64 y.1.2 :: .int .i64 y.2.1 :: .int .i64 y.2.2 :: plC (r.set i x):=rfl;have a0:(i+1)*4=i*4+1+1+1+1:=by omega
   rw [e,e2,<-ih i h',a0];simp only [List.set_cons_succ]
def PlIn (w:World) (a:Option Addr) (n:Nat) (L:List Pl):Prop:=
 L.length=n/\(n=0\/∃g,a=some ⟨g,0,none⟩/\∀i x,L[i]?=some x->w.cell? ⟨g,i*4,none⟩=some (.int .u32 x.1.1)/\w.cell? ⟨g,i*4+1,none⟩=some (.int .u64 x.1.2)/\w.cell? ⟨g,i*4+2,none⟩=some (.int .i64 x.2.1)/\w.cell? ⟨g,i*4+3,none⟩=some (.int .i64 x.2.2))
theorem PlIn.below {w w':World} {a:Option Addr} {n:Nat} {L:List Pl} (h:PlIn w a n L) (hb:Below w.heap.size w w'):PlIn w' a n L:=by
 obtain ⟨h1,h2⟩:=h;refine ⟨h1,h2.imp id ?_⟩
 rintro ⟨g,rfl,hc⟩;refine ⟨g,rfl,λ i x hx=>?_⟩
 obtain ⟨c0,c1,c2,c3⟩:=hc i x hx;exact ⟨(hb.cell (Qaa c0)).trans c0,(hb.cell (Qaa c1)).trans c1,(hb.cell (Qaa c2)).trans c2,(hb.cell (Qaa c3)).trans c3⟩
theorem Qeh {w:World} {base:Nat} {a:Option Addr} {n c:Nat} {L:List Pl} (h:w.ownsRow base 137 4 (.slice a n c) n (plC L)):PlIn w a n L:=by
 have hl:L.length=n:=by have:=h.1;rw [Qch] at this;omega
 refine ⟨hl,?_⟩
 rcases h.2 with ⟨hv,hn⟩ | ⟨g,cap,cur,hv,_⟩
 ·exact .inl hn
 ·cases hv
  refine .inr ⟨g,rfl,λ i x hx=>?_⟩
  have hc:∀j v,(plL x)[j]?=some v->w.cell? ⟨g,i*4+j,none⟩=some v:=λ j v hv=>by
   have hj:j<4:=by have:=(List.getElem?_eq_some_iff.1 hv).1;simpa [plL] using this
   have:=h.cells (g:=g) rfl (i*4+j) v (by rw [Qkp L i x j hx hj];exact hv);rw [Addr.add_mid,Nat.zero_add] at this;exact this
  exact ⟨hc 0 _ rfl,hc 1 _ rfl,hc 2 _ rfl,hc 3 _ rfl⟩
end
theorem Tryz.zero_name:(prog.info? 158).map (λ i=>(i.zero,i.size,i.bytes))=some (some (.agg #[.int .u32 0,.int .u64 0]),2,16):=by kernel_rfl
theorem Qf1 {k:TypeId} {R:Value->Option (DataW Value × List MemPlace)} {w:World} {b r n:Nat} {D:DataW Value} {left:Lit->Bool} {cnt base:Nat} {e:TypeId} {size:Nat} {v:Value} {m:Nat} {xs:List Value}
  (h:w.ownsRow base e size v m xs) (hr:w.ranges prog k R b r n D left cnt):some b≠v.ownBlock/\some r≠v.ownBlock:=by
 obtain ⟨_,_,_,_,_,hmap,_,_,_,hit,_⟩:=hr;rcases h.2 with ⟨rfl,_⟩ | ⟨g,cap,cur,rfl,_,hb,_⟩
 ·simp [Value.ownBlock]
 ·constructor
  ·intro e1
   have:b=g:=by simpa [Value.ownBlock] using e1
   subst this;rw [hmap] at hb;cases hb
  ·intro e1
   have:r=g:=by simpa [Value.ownBlock] using e1
   subst this;rw [hit] at hb;cases hb
theorem Qy0 {t e:TypeId} {q0 q1:IntKind} {z:Value} (ht:prog.underlying t=some (.slice e)) (hinfo:(prog.info? e).map (λ i=>(i.zero,i.size,i.bytes))=some (some z,2,16)) (hz:z.cells.size=2)
  {W:World} {B:Nat} {a:Option Addr} {n cc:Nat} {xs:List Pr} (h:W.ownsRow B e 2 (.slice a n cc) n (prC q0 q1 xs)) (x:Pr) (hn:n<=100000) (hB:B<=W.heap.size) (q:Nat) (hq:W.heap.size=q) :
  ∃g' cc' W',(Builtin.append_ #[t,t] t #[.slice a n cc,.slice (some ⟨q,0,none⟩) 1 1]).run prog (W.alloc (.cells #[.int q0 x.1,.int q1 x.2] e))=.ok (.slice (some ⟨g',0,none⟩) (n+1) cc') W'/\
   W'.ownsRow B e 2 (.slice (some ⟨g',0,none⟩) (n+1) cc') (n+1) (prC q0 q1 (xs ++ [x]))/\W.grownBy W' (Value.slice a n cc).ownBlock:=by
 subst hq;have hb:Blk (W.alloc (.cells #[.int q0 x.1,.int q1 x.2] e)) W.heap.size (prL q0 q1 x) e:=Blk.new' rfl rfl;obtain ⟨v',W',h1,h2,h3,h4⟩:=Qde (ty:=t) ht hinfo hz (by decide) (by decide) (Qbh (h.alloc (.cells #[.int q0 x.1,.int q1 x.2] e))) ⟨W.heap.size,0,none⟩ 1 1 (prL q0 q1 x) rfl (λ j u hj=>by rw [Addr.add_mid,Nat.zero_add,hb.cell];exact hj) (Q19 x) (by omega);rw [Qyi] at h2;rcases h2.2 with ⟨_,h0⟩ | ⟨g',cc',cur,rfl,hB',hh,r⟩
 ·omega
 ·refine ⟨g',cc',W',h1,Qdr h2 (λ g hg=>?_),(World.grownBy_alloc W _ _).andThen h3 (λ j e=>.inr e)⟩
  rcases h4 with h4 | h4
  ·exact (h.lt g (by rw [<-h4];exact hg)).1
  ·have:=h4 g hg
   simp at this
   omega
theorem Qae {ops:Array Oper} {rest:List Oper} {o:Oper} {a:Act} {Q:Exit->Act->World->Prop} {w:World} (hg:o.guard=none) (s x:Operand) (t t2:TypeId)
  (hop:o.op=.call {callee:=.builtin .append,args:=#[s,x],argTypes:=#[t,t2]}) (sv xv:Value) (hs:a.eval s=sv) (hx:a.eval x=xv) (v:Value) (w':World) (hrun:(Builtin.append_ #[t,t2] o.type #[sv,xv]).run prog w=.ok v w') (hK:wpList prog ops Q rest (a.put o.dst v) w') :
  wpList prog ops Q (o :: rest) a w:=by
 refine wpList_plain hg λ K hK'=>?_
 unfold Oper.wp;simp [execOp,hop,resolve,invoke,builtin,hs,hx,hrun,Result.andThen]
 exact hK' _ _ hK
theorem Qpj (n:Nat):madeCells #[.int .u32 0,.int .u64 0,.int .i64 0,.int .i64 0] (n*4)=(plC (List.replicate n pl0)).toArray:=by
 apply Array.ext'
 apply List.ext_getElem?
 intro j;by_cases hj:j<n*4
 ·have hi:j / 4<n:=by omega
  have:=Qkp (List.replicate n pl0) (j / 4) pl0 (j % 4) (by simp [hi]) (by omega);have e:j / 4*4+j % 4=j:=by omega
  rw [e] at this;rw [List.toList_toArray,this];have h4:j % 4=0\/j % 4=1\/j % 4=2\/j % 4=3:=by omega
  rcases h4 with h4 | h4 | h4 | h4 <;> simp [madeCells,hj,h4,plL,pl0]
 ·rw [List.getElem?_eq_none (by simp [madeCells];omega),List.getElem?_eq_none (by rw [List.toList_toArray,Qch];simp;omega)]
theorem Qs8 (n:Nat) (hn:n<=1000000) (W:World):(Instr.makeSlice 77 (.int .i64 (n:Int)) (.int .i64 (n:Int))).run prog W=.ok (.slice (some ⟨W.heap.size,0,none⟩) n n) (W.alloc (.cells (plC (List.replicate n pl0)).toArray 137)):=by
 obtain ⟨i0,hi,hz0,hz1,hz2⟩:=info_parts Tryz.zero_place;have:=run_make (P:=prog) W 77 137 i0 _ Tryz.underlying77 hi hz0 .i64 .i64 n n (by omega) (Int.le_refl _) (by rw [hz2];omega) (by omega);rw [this,hz1];have e:((n:Int).toNat*4)=n*4:=by simp
 rw [e,show (Value.agg #[.int .u32 0,.int .u64 0,.int .i64 0,.int .i64 0]).cells=#[.int .u32 0,.int .u64 0,.int .i64 0,.int .i64 0] from rfl,Qpj];simp
theorem Qsc {q0 q1:IntKind} {w:World} {base:Nat} {e:TypeId} {g n cc:Nat} {xs:List Pr} (h:w.ownsRow base e 2 (.slice (some ⟨g,0,none⟩) n cc) n (prC q0 q1 xs)) {i:Nat} {x:Pr} (hx:xs[i]?=some x):w.cell? ⟨g,i*2,none⟩=some (.int q0 x.1)/\w.cell? ⟨g,i*2+1,none⟩=some (.int q1 x.2):=by
 have h0:=h.cells (g:=g) rfl (i*2+0) (.int q0 x.1) (by rw [Qqx xs i x 0 hx (by decide)];rfl);have h1:=h.cells (g:=g) rfl (i*2+1) (.int q1 x.2) (by rw [Qqx xs i x 1 hx (by decide)];rfl);rw [Addr.add_mid,Nat.zero_add] at h0 h1;exact ⟨h0,h1⟩
structure AllB (w:World) (p b1 b2:Nat) (S L:List Pl) (c g o k:Nat) (q0 q1:IntKind) (f:Pl->Pr) (wr:World):Prop where
 lm:LmP wr p b1 b2 S c
 nm:∀i x,L[i]?=some x->wr.cell? ⟨g,i*2,none⟩=some (.int q0 (f x).1)/\wr.cell? ⟨g,i*2+1,none⟩=some (.int q1 (f x).2)
 ob:Blk wr o (plC (L.take k ++ List.replicate (L.length - k) pl0)) 137
 le:w.heap.size<=o
 pl:p<w.heap.size
 ne:g≠o
 bel:RowKit.Below w.heap.size w wr
theorem AllB.below {w:World} {p b1 b2:Nat} {S L:List Pl} {c g o k:Nat} {q0 q1:IntKind} {f:Pl->Pr} {wr wr':World} (h:AllB w p b1 b2 S L c g o k q0 q1 f wr) (hb:RowKit.Below wr.heap.size wr wr'):AllB w p b1 b2 S L c g o k q0 q1 f wr':=
 ⟨h.lm.below hb,λ i x hx=>⟨(hb.cell (Qaa (h.nm i x hx).1)).trans (h.nm i x hx).1,(hb.cell (Qaa (h.nm i x hx).2)).trans (h.nm i x hx).2⟩,h.ob.below hb h.ob.lt,h.le,h.pl,h.ne,Qla h.bel hb⟩
theorem Qtb (L:List Pl) (k:Nat) (x:Pl) (hx:L[k]?=some x):(L.take k ++ List.replicate (L.length - k) pl0).set k x=L.take (k+1) ++ List.replicate (L.length - (k+1)) pl0:=by
 have hk:k<L.length:=(List.getElem?_eq_some_iff.1 hx).1;have hl:(L.take k).length=k:=by rw [List.length_take];omega
 have hx':L[k]=x:=(List.getElem?_eq_some_iff.1 hx).2;rw [List.take_succ_eq_append_getElem hk,List.set_append_right _ _ (by omega),hl,Nat.sub_self,hx'];obtain ⟨m,hm⟩:∃m,L.length - k=m+1:=⟨L.length - k - 1,by omega⟩
 have hm':L.length - (k+1)=m:=by omega
 rw [hm,hm',List.replicate_succ,List.set_cons_zero,List.append_assoc];rfl
theorem AllB.room {w:World} {p b1 b2:Nat} {S L:List Pl} {c g o k:Nat} {q0 q1:IntKind} {f:Pl->Pr} {wr:World} (h:AllB w p b1 b2 S L c g o k q0 q1 f wr) (hk:k<L.length) :
  (wr.cell? ⟨o,k*4,none⟩=some (.int .u32 0)/\wr.cell? ⟨o,k*4+1,none⟩=some (.int .u64 0)/\wr.cell? ⟨o,k*4+2,none⟩=some (.int .i64 0)/\wr.cell? ⟨o,k*4+3,none⟩=some (.int .i64 0))/\(wr.frozen? ⟨o,k*4,none⟩=false/\wr.frozen? ⟨o,k*4+1,none⟩=false/\wr.frozen? ⟨o,k*4+2,none⟩=false/\wr.frozen? ⟨o,k*4+3,none⟩=false):=by
 have hl:(L.take k).length=k:=by rw [List.length_take];omega
 have hx:(L.take k ++ List.replicate (L.length - k) pl0)[k]?=some pl0:=by
  rw [List.getElem?_append_right (by omega),hl,Nat.sub_self,List.getElem?_replicate,if_pos (by omega)]
 have hc:=λ j (hj:j<4)=>(h.ob.cell (k*4+j)).trans (Qkp _ k pl0 j hx hj)
 exact ⟨⟨hc 0 (by decide),hc 1 (by decide),hc 2 (by decide),hc 3 (by decide)⟩,h.ob.frozen _,h.ob.frozen _,h.ob.frozen _,h.ob.frozen _⟩
theorem AllB.told {w:World} {p b1 b2:Nat} {S L:List Pl} {c g o:Nat} {q0 q1:IntKind} {f:Pl->Pr} {wr:World} (h:AllB w p b1 b2 S L c g o L.length q0 q1 f wr) (hl:L.length<=1000000):wr.ownsRow w.heap.size 137 4 (.slice (some ⟨o,0,none⟩) L.length L.length) L.length (plC L):=by
 have hb:=h.ob;rw [List.take_length,Nat.sub_self,List.replicate_zero,List.append_nil] at hb;refine ⟨Qch L,.inr ⟨o,L.length,_,rfl,h.le,hb,Nat.le_refl _,by unfold maxLen;omega,by rw [List.size_toArray,Qch],?_⟩⟩
 rw [List.toList_toArray,List.take_of_length_le (by rw [Qch];omega)]
theorem AllB.step {w:World} {p b1 b2:Nat} {S L:List Pl} {c g o k:Nat} {q0 q1:IntKind} {f:Pl->Pr} {wr:World} (h:AllB w p b1 b2 S L c g o k q0 q1 f wr) {x:Pl} (hx:L[k]?=some x) :
  AllB w p b1 b2 S L c g o (k+1) q0 q1 f ((((wr.setCell ⟨o,k*4,none⟩ (.int .u32 x.1.1)).setCell ⟨o,k*4+1,none⟩ (.int .u64 x.1.2)).setCell ⟨o,k*4+2,none⟩ (.int .i64 x.2.1)).setCell ⟨o,k*4+3,none⟩ (.int .i64 x.2.2)):=by
 have hk:k<L.length:=(List.getElem?_eq_some_iff.1 hx).1;have ho:Out (λ j=>j=o) wr ((((wr.setCell ⟨o,k*4,none⟩ (.int .u32 x.1.1)).setCell ⟨o,k*4+1,none⟩ (.int .u64 x.1.2)).setCell ⟨o,k*4+2,none⟩ (.int .i64 x.2.1)).setCell ⟨o,k*4+3,none⟩ (.int .i64 x.2.2)):=
  ((((Out.refl (λ j=>j=o) wr).setCell (p:=⟨o,k*4,none⟩) (.inl rfl) _).setCell (p:=⟨o,k*4+1,none⟩) (.inl rfl) _).setCell (p:=⟨o,k*4+2,none⟩) (.inl rfl) _).setCell (p:=⟨o,k*4+3,none⟩) (.inl rfl) _
 have hb:=(((h.ob.set (k*4) (.int .u32 x.1.1)).set (k*4+1) (.int .u64 x.1.2)).set (k*4+2) (.int .i64 x.2.1)).set (k*4+3) (.int .i64 x.2.2);rw [Q1g _ k x (by simp;omega),Qtb L k x hx] at hb;refine ⟨h.lm.out ho ?_,λ i y hy=>⟨ho.cell (h.nm i y hy).1 h.ne,ho.cell (h.nm i y hy).2 h.ne⟩,hb,h.le,h.pl,h.ne,⟨h.bel.os,h.bel.tape,h.bel.output,Nat.le_trans h.bel.size ho.size,λ j hj=>?_⟩⟩
 ·rintro j (rfl | rfl | rfl) e
  ·have h1:=h.pl;have h2:=h.le;omega
  ·exact (h.lm.m1.no_blk h.ob) e.symm
  ·exact (h.lm.m2.no_blk h.ob) e.symm
 ·rw [ho.block j (Nat.lt_of_lt_of_le hj h.bel.size) (by have:=h.le;omega)]
  exact h.bel.block j hj
def AllA (w:World) (b1 r c:Nat) (D:DataW Value) (v:Value) (wr:World):Prop:=
 ∃left cnt xs g cc,wr.ranges prog 158 Qzq b1 r c D left cnt/\Coll kN D left xs/\v=.slice (some ⟨g,0,none⟩) xs.length cc/\wr.ownsRow w.heap.size 158 2 (.slice (some ⟨g,0,none⟩) xs.length cc) xs.length (prC .u32 .u64 xs)/\RowKit.Below w.heap.size w wr/\xs.length+cnt<=c
set_option maxHeartbeats 4000000 in
theorem Qol (p b1 b2:Nat) (S:List Pl) (c:Nat) (w:World) (h:LmP w p b1 b2 S c) (hc:c<100000) :
  Calls prog 34 #[.pointer (some ⟨p,0,none⟩)] w λ e w'=>∃a n cc,e=.returned (.slice a n cc)/\w'.ownsRow w.heap.size 137 4 (.slice a n cc) n (plC S)/\RowKit.Below w.heap.size w w':=by
 obtain ⟨D,hown,hD⟩:=h.m1;have c0:=h.hp.cell 0;simp only [List.getElem?_cons_zero] at c0
 have HD:=Jh1 hD;have HG:=Jh1 h;have hb1:=h.m1.lt;obtain ⟨i0,hi,hz0,hz1,hz2⟩:=info_parts Tryz.zero_name;have hsz:=hown.size_le;obtain ⟨N,hN⟩:∃N,N=Maps.size D:=⟨_,rfl⟩
 have hlen:=λ ty=>hown.len (t:=153) Tryz.underlying153 ty
 rw [<-hN] at hsz hlen;obtain ⟨w1,hmk,ho1,hg1⟩:=run_make_own (P:=prog) w w.heap.size 152 158 i0 _ 2 Tryz.underlying152 hi hz0 hz1 .i64 .i64 N (by rw [hz2];omega) (by unfold maxLen;omega) (Nat.le_refl _);have c1:w1.cell? ⟨p,0,none⟩=some (.map (some b1)):=by rw [World.cell?_of_block (hg1.block p h.hp.lt (by simp))];exact c0
 have hown1:=hown.kept hg1 (by simp);have bel1:RowKit.Below w.heap.size w w1:=(RowKit.Below.refl _ _).grown hg1 (Nat.le_refl _) (λ k hk=>by cases hk);have HM:Hid (w1.ownsRow w.heap.size 158 2 (.slice (some ⟨w.heap.size,0,none⟩) 0 N) 0 []/\RowKit.Below w.heap.size w w1/\Maps.size D<=c):=⟨ho1,bel1,by omega⟩
 clear hD h ho1 hg1 bel1 hi hz0 hz1 hz2 hN;go_enter func34,ntmps34
 go_wp2_with (first | (at_range;refine wpList_range_own _ rfl _ 153 rfl 158 163 okN.keyed Tryz.underlying153 _ b1 c D rfl hown1 ?_;intro w0 hrg0 hg0 hs0) | go_in)
 go_frame
 obtain ⟨r,hr⟩:∃r,r=w1.heap.size:=⟨_,rfl⟩
 rw [<-hr] at hrg0 hs0 ⊢;have hrle:w.heap.size<=r:=by rw [hr];exact (J2 HM).size
 clear hr;go_loopw [3,4] (λ v _ wr=>AllA w b1 r c D v wr) (λ _ _ wr=>wr.rangeLeft b1 r)
 case atStart=>exact ⟨_,_,[],_,_,hrg0,Coll.start kN D,rfl,HM.out.1.kept hg0 (Classical.em _),(J2 HM).grown hg0 (J2 HM).size (λ k hk=>by cases hk),by have:=(Jz2 HM);simpa using this⟩
 case round=>
  obtain ⟨left,cnt,xs,g,cc,hrg,hC,rfl,hO,hB,hle⟩:=hrel;have HC:=Jh3 hC hB hO;clear hC hB hO hrg0 hg0 hs0 hown1 c1 hmk hlen hsz;go_wp2_with (first
   | (at_next;refine wpList_next_ranges _ rfl _ rfl 158 okN.keyed Qzq (λ x:Pr=>Value.agg #[.int .u32 x.1,.int .u64 x.2]) (λ v:Value=>v) Q4k invV b1 r c _ _ _ rfl hrg ?_ ?_)
   | go_in)
  ·intro _ hl0
   have HL:Hid (xs.Perm (S.map (·.1))):=Qtr HG.out.good HC.out.1.1 (λ x=>HC.out.1.all HD.out hl0 x);have C:=Qxe g cc xs.toArray wr (Qn8 (Jz2 HC)).1 (Qn8 (Jz2 HC)).2 (by simp;omega);simp only [List.size_toArray] at C
   go_wp2_with fail
   refine C.mono ?_
   rintro e w3 ⟨rfl,d',n',os,hp,hs,rfl⟩;have hd:=Qwh hp hs HL.out (by rw [List.pairwise_map];exact HG.out.good.up);have hlen:=HL.out.length_eq;rw [List.length_map] at hlen;rw [hd];have hO3:=Qzr (n:=n') (os:=os) (Jz2 HC) (ts:=S.map (·.1)) (by rw [List.length_map];exact hlen.symm);have hG3:=Qiw (q0:=.u32) (q1:=.u64) (w:=wr) (g:=g) (n:=n') (os:=os) (S.map (·.1)).toArray;have hB3:=(J2 HC).grown hG3 (J2 HC).size (λ k hk=>by cases hk;exact ((Jz2 HC).lt g rfl).1);generalize sortWorldK (prL .u32 .u64) 2 wr g 0 n' (S.map (·.1)).toArray os=W at hO3 hG3 hB3 ⊢;rw [hlen] at hO3 ⊢;have hSl:S.length<=c:=by omega
   clear hp hs hd C hG3 hlen;have HW:=Jh2 hO3 hB3;have hmk:=Qs8 S.length (by omega) W;have HB:Hid (AllB w p b1 b2 S S c g W.heap.size 0 .u32 .u64 (·.1) (W.alloc (.cells (plC (List.replicate S.length pl0)).toArray 137))):=by
    have hbA:RowKit.Below W.heap.size W (W.alloc (.cells (plC (List.replicate S.length pl0)).toArray 137)):=(RowKit.Below.refl _ _).alloc (Nat.le_refl _) _;refine ⟨(HG.out.below hB3).below hbA,λ i x hx=>?_,by simpa using Blk.new' rfl rfl,hB3.size,HG.out.hp.lt,?_,Qla hB3 hbA⟩
    ·have hx':(S.map (·.1))[i]?=some x.1:=by rw [List.getElem?_map,hx];rfl
     obtain ⟨d0,d1⟩:=Qsc hO3 hx';exact ⟨(hbA.cell (Qaa d0)).trans d0,(hbA.cell (Qaa d1)).trans d1⟩
    ·have:=(hO3.lt g rfl).2;omega
   clear hO3 hB3 HW HC HM HD HL hown hrg hle;go_wp2_with fail
   generalize W.alloc (.cells (plC (List.replicate S.length pl0)).toArray 137)=Y at HB ⊢;generalize W.heap.size=o at HB ⊢;go_loopw [6,7,34] (λ _ _ i wr=>∃k:Nat,k<=S.length/\i=.int .i64 k/\AllB w p b1 b2 S S c g o k .u32 .u64 (·.1) wr) (λ _ _ i _=>S.length - (intOf i).toNat)
   case atStart=>exact ⟨0,by omega,rfl,HB.out⟩
   case round=>
    rename_i wr0
    obtain ⟨k,hk,rfl,hA⟩:=hrel;by_cases hlt:k<S.length
    ·have hlt':(k:Int)<S.length:=by omega
     obtain ⟨x,hx⟩:∃x,S[k]?=some x:=⟨_,List.getElem?_eq_getElem hlt⟩
     obtain ⟨n0,n1⟩:=hA.nm k x hx;have hxm:(x.1,x.2)∈S:=List.mem_of_getElem? hx;have hget:getS S x.1=some x.2:=(Qej hA.lm.good).2 hxm;have hf:=hA.lm.good.fits x hxm;have hV:=hA.below ((RowKit.Below.refl _ _).alloc (Nat.le_refl _) (.cells #[.int .u32 x.1.1,.int .u64 x.1.2] 158));have m0:=hV.lm.hp.cell 0;simp only [List.getElem?_cons_zero] at m0
     have hl:=hV.lm.drew.lookN1 hf.1;have hl':=hV.lm.lookN1 hf.1;rw [hget] at hl hl';simp only [Option.getD_some] at hl hl'
     have HA:=Jh1 hA;have HV:=Jh1 hV;have HX:=Jh1 hx;have C:=λ X=>Qvv x.1 x.2 X
     clear hA hV hx hxm hget hf;go_wp2_with fail
     have np:p≠o:=by have h1:=HA.out.pl;have h2:=HA.out.le;omega
     have nq:wr.heap.size≠o:=by have h1:=HA.out.ob.lt;omega
     have k1:(wr.alloc (.cells #[.int .u32 x.1.1,.int .u64 x.1.2] 158)).cell? ⟨wr.heap.size,0,none⟩=some (.int .u32 x.1.1):=by go_simp
     have k2:(wr.alloc (.cells #[.int .u32 x.1.1,.int .u64 x.1.2] 158)).cell? ⟨wr.heap.size,1,none⟩=some (.int .u64 x.1.2):=by go_simp
     go_region_held3 (λ X=>X.cell? ⟨p,0,none⟩=some (.map (some b1))/\X.cell? ⟨wr.heap.size,0,none⟩=some (.int .u32 x.1.1)/\X.cell? ⟨wr.heap.size,1,none⟩=some (.int .u64 x.1.2)) (first | exact ⟨m0,k1,k2⟩ | exact ⟨j0,j1,j2⟩ | exact ⟨Qa1 (Qa1 (Qa1 (Qa1 j0 np) np) np) np,Qa1 (Qa1 (Qa1 (Qa1 j1 nq) nq) nq) nq,Qa1 (Qa1 (Qa1 (Qa1 j2 nq) nq) nq) nq⟩)
      ((go_simp;go_at_call 87;refine (C _).mono ?_;rintro e w4 ⟨rfl,hb4⟩;have hb5:RowKit.Below (wr.alloc (.cells #[.int .u32 x.1.1,.int .u64 x.1.2] 158)).heap.size (wr.alloc (.cells #[.int .u32 x.1.1,.int .u64 x.1.2] 158)) w4:=⟨hb4.os,hb4.tape,hb4.output,hb4.size,hb4.block⟩;have j0:=(hb5.cell (Qaa m0)).trans m0;have j1:=(hb5.cell (Qaa k1)).trans k1;have j2:=(hb5.cell (Qaa k2)).trans k2;have hA4:=HV.out.below hb5;have H4:=Jh1 hA4;obtain ⟨⟨x0,x1,x2,x3⟩,y0,y1,y2,y3⟩:=hA4.room hlt;clear hA4 hb4 hb5))
     all_goals (
      have HS:Hid (AllB w p b1 b2 S S c g o (k+1) .u32 .u64 (·.1) ((((w4.setCell ⟨o,k*4,none⟩ (.int .u32 x.1.1)).setCell ⟨o,k*4+1,none⟩ (.int .u64 x.1.2)).setCell ⟨o,k*4+2,none⟩ (.int .i64 x.2.1)).setCell ⟨o,k*4+3,none⟩ (.int .i64 x.2.2))):=H4.out.step HX.out;clear x0 x1 x2 x3 y0 y1 y2 y3 j0 j1 j2 H4;go_wp2
      go_roundw
      case rel=>exact ⟨k+1,by omega,by go_num,HS.out⟩
      case measure=>simp [intOf];omega)
    ·have hge:(S.length:Int)<=k:=by omega
     have hkn:k=S.length:=by omega
     have HA:Hid (AllB w p b1 b2 S S c g o S.length .u32 .u64 (·.1) wr):=by rw [<-hkn];exact hA
     clear hA hkn;go_wp2
     go_ret
     exact ⟨_,_,_,rfl,HA.out.told (by omega),HA.out.bel⟩
  ·intro xa xb v kl ya yb w2 cnt1 hkey hlx hv hat hrg1 hlt hg1 hs1 hen
   obtain ⟨x,hx0⟩:∃x:Pr,x=(xa,xb):=⟨_,rfl⟩
   obtain rfl:xa=x.1:=by rw [hx0]
   obtain rfl:xb=x.2:=by rw [hx0]
   clear hx0;obtain ⟨hkx,rfl⟩:=Q23 hkey;obtain ⟨hC,hB,hO⟩:=HC.out;have hB2:=hB.grown hg1 hB.size (λ k hk=>by cases hk;exact hrle);have hO2:=(hO.kept hg1 (.inr (λ e=>(Qf1 hO hrg).2 e.symm))).alloc (.cells #[.int .u32 x.1,.int .u64 x.2] 158);obtain ⟨g',cc',W',hrun,hO3,hgr⟩:=Qy0 (q0:=.u32) (q1:=.u64) Tryz.underlying152 Tryz.zero_name rfl hO2 x (by omega) (by have:=hB2.size;simp;omega) (w2.heap.size+1) (by simp);have hr2:=hrg1.alloc (.cells #[.int .u32 x.1,.int .u64 x.2] 158);have hr3:=hr2.kept hgr (Qf1 hO2 hr2).1 (Qf1 hO2 hr2).2;have hB3:RowKit.Below w.heap.size w W':=(hB2.alloc hB2.size _).grown hgr (by have:=hB2.size;simp;omega) (λ k hk=>(hO2.lt k hk).1);have HA:Hid (AllA w b1 r c D (.slice (some ⟨g',0,none⟩) (xs.length+1) cc') W'/\W'.rangeLeft b1 r<wr.rangeLeft b1 r):=by
    refine ⟨⟨_,cnt1,xs ++ [x],g',cc',hr3,hC.step okN hkx hlx hat,by simp,by simpa using hO3,hB3,by simp;omega⟩,?_⟩
    rw [hr3.left_eq,hrg.left_eq];exact hlt
   clear hC hB hO hB2 hO2 hO3 hgr hr2 hr3 hB3 hkey hlx hv hat hrg1 hg1 hrg HC hs1;go_wp2_with (first | (at_builtin;refine Qae rfl _ _ 152 152 rfl _ _ rfl rfl _ _ hrun ?_) | go_in)
   go_roundw
   case rel=>exact HA.out.1
   case measure=>exact HA.out.2

end Go.Proofs.YtcdnjeiamihhbaaGreat
namespace Go.Proofs.YtcdnjeiamihhbaaGreat
open Go.RowKit
structure LmD (w:World) (r:Nat) (S:List Pl):Prop where
 row:∃a n cc,Blk w r [.slice a n cc] 252/\w.ownsRow 0 137 4 (.slice a n cc) n (plC S)
 good:Good S
structure LmN (B:Nat) (w:World) (r:Nat) (S:List Pl):Prop where
 row:∃a n cc,Blk w r [.slice a n cc] 252/\w.ownsRow B 137 4 (.slice a n cc) n (plC S)
 good:Good S
theorem Q00 {w:World} {r:Nat} {L:List Value} {t e:TypeId} {size n B:Nat} {v:Value} {xs:List Value} (hb:Blk w r L t) (ho:w.ownsRow B e size v n xs) (hne:t≠e):v.ownBlock≠some r:=by
 intro h;obtain ⟨cur,hc⟩:=Qaz ho h;unfold Blk at hb;rw [hb] at hc;cases hc
 exact hne rfl
theorem LmD.lt {w:World} {r:Nat} {S:List Pl} (h:LmD w r S):r<w.heap.size:=by obtain ⟨a,n,cc,hb,_⟩:=h.row;exact hb.lt
theorem LmD.out {O:Nat->Prop} {w w':World} {r:Nat} {S:List Pl} (h:LmD w r S) (ho:Out O w w') (hn:∀g cur e fr,w.heap[g]?=some (.cells cur e fr)->¬O g):LmD w' r S:=by
 obtain ⟨a,n,cc,hb,hr⟩:=h.row;exact ⟨⟨a,n,cc,ho.blk hb (hn _ _ _ _ hb),ho.own hr (λ g hg=>by obtain ⟨cur,hc⟩:=Qaz hr hg;exact hn _ _ _ _ hc)⟩,h.good⟩
theorem LmD.below {w w':World} {r:Nat} {S:List Pl} (h:LmD w r S) (hb:Below w.heap.size w w'):LmD w' r S:=h.out (Qab Non hb) (λ _ _ _ _ _ e=>e)
theorem Qy4 (w:World):Calls prog 102 #[] w λ e w'=>e=.returned (.pointer (some ⟨w.heap.size,0,none⟩))/\LmN w.heap.size w' w.heap.size []/\Below w.heap.size w w':=by
 go_enter func102,ntmps102
 go_wp2
 go_ret
 exact ⟨rfl,⟨⟨none,0,0,Blk.new' rfl rfl,⟨rfl,.inl ⟨rfl,rfl⟩⟩⟩,good_nil⟩,(Below.refl _ _).alloc (Nat.le_refl _) _⟩
theorem Qyf (x y:Pl) (w:World):Calls prog 164 #[.agg #[.int .u32 x.1.1,.int .u64 x.1.2,.int .i64 x.2.1,.int .i64 x.2.2],.agg #[.int .u32 y.1.1,.int .u64 y.1.2,.int .i64 y.2.1,.int .i64 y.2.2]] w λ e w'=>e=.returned (.bool (ltP x.1 y.1))/\Below w.heap.size w w':=by
 have hL:ltP x.1 y.1=if x.1.1=y.1.1 then decide (x.1.2<y.1.2) else decide (x.1.1<y.1.1):=by
  unfold ltP;by_cases h:x.1.1=y.1.1
  ·simp [h]
  ·simp [h]
 have HL:=Jh1 hL;clear hL;by_cases h:x.1.1=y.1.1
 ·go_enter func164,ntmps164
  go_wp2
  go_ret
  refine ⟨?_,((Below.refl _ _).alloc (Nat.le_refl _) _).alloc (by simp) _⟩
  rw [HL.out,if_pos h];rfl
 ·go_enter func164,ntmps164
  go_wp2
  go_ret
  refine ⟨?_,((Below.refl _ _).alloc (Nat.le_refl _) _).alloc (by simp) _⟩
  rw [HL.out,if_neg h];rfl
theorem Qhm {W:World} {B:Nat} {a:Option Addr} {n cc:Nat} {xs:List Pl} (h:W.ownsRow B 137 4 (.slice a n cc) n (plC xs)) (x:Pl) (hn:n<=100000) (hB:B<=W.heap.size) (q:Nat) (hq:W.heap.size=q) :
  ∃g' cc' W',(Builtin.append_ #[77,77] 77 #[.slice a n cc,.slice (some ⟨q,0,none⟩) 1 1]).run prog (W.alloc (.cells #[.int .u32 x.1.1,.int .u64 x.1.2,.int .i64 x.2.1,.int .i64 x.2.2] 137))=.ok (.slice (some ⟨g',0,none⟩) (n+1) cc') W'/\
   W'.ownsRow B 137 4 (.slice (some ⟨g',0,none⟩) (n+1) cc') (n+1) (plC (xs ++ [x]))/\W.grownBy W' (Value.slice a n cc).ownBlock:=by
 subst hq;have hb:Blk (W.alloc (.cells #[.int .u32 x.1.1,.int .u64 x.1.2,.int .i64 x.2.1,.int .i64 x.2.2] 137)) W.heap.size (plL x) 137:=Blk.new' rfl rfl;obtain ⟨v',W',h1,h2,h3,h4⟩:=Qde (ty:=77) Tryz.underlying77 Tryz.zero_place rfl (by decide) (by decide) (Qbh (h.alloc (.cells #[.int .u32 x.1.1,.int .u64 x.1.2,.int .i64 x.2.1,.int .i64 x.2.2] 137))) ⟨W.heap.size,0,none⟩ 1 1 (plL x) rfl (λ j u hj=>by rw [Addr.add_mid,Nat.zero_add,hb.cell];exact hj) (Qoj x) (by omega);rw [Qq6] at h2;rcases h2.2 with ⟨_,h0⟩ | ⟨g',cc',cur,rfl,hB',hh,r⟩
 ·omega
 ·refine ⟨g',cc',W',h1,Qdr h2 (λ g hg=>?_),(World.grownBy_alloc W _ _).andThen h3 (λ j e=>.inr e)⟩
  rcases h4 with h4 | h4
  ·exact (h.lt g (by rw [<-h4];exact hg)).1
  ·have:=h4 g hg
   simp at this
   omega
theorem Qud (r:Nat) (S:List Pl) (n:Pr) (w:World) (h:LmD w r S) (hS:S.length<=10000) :
  Calls prog 105 #[.pointer (some ⟨r,0,none⟩),.int .u32 n.1,.int .u64 n.2] w λ e w'=>e=.returned (.bool (getS S n).isSome)/\LmN w.heap.size w' r (Qax S n)/\Out (λ k=>k=r) w w':=by
 obtain ⟨a,m,cc,hb,hr⟩:=h.row;have hm:S.length=m:=(Qeh hr).1;subst hm;have HG:=Jh1 h.good;have HR:=Jh2 hb hr;clear h hb hr;go_enter func105,ntmps105
 go_wp2
 go_loopw [7,8] (λ v i wr=>∃(k:Nat) (b:Option Addr) (dd:Nat),k<=S.length/\i=.int .i64 k/\v=.slice b (Qax (S.take k) n).length dd/\wr.ownsRow w.heap.size 137 4 (.slice b (Qax (S.take k) n).length dd) (Qax (S.take k) n).length (plC (Qax (S.take k) n))/\Below w.heap.size w wr) (λ _ i _=>S.length - (intOf i).toNat)
 case atStart=>exact ⟨0,none,0,by omega,rfl,rfl,⟨rfl,.inl ⟨rfl,rfl⟩⟩,Below.refl _ _⟩
 case round=>
  obtain ⟨k,b,dd,hk,rfl,rfl,hO,hB⟩:=hrel;have c0:=(HR.out.1.below hB HR.out.1.lt).cell 0;simp only [List.getElem?_cons_zero] at c0
  by_cases hlt:k<S.length
  ·have hlt':(k:Int)<S.length:=by omega
   obtain ⟨y,hy⟩:∃y,S[k]?=some y:=⟨_,List.getElem?_eq_getElem hlt⟩
   obtain ⟨g,rfl,hc⟩:=(Qeh HR.out.2).2.resolve_left (by omega);obtain ⟨y0,y1,y2,y3⟩:=hc k y hy;have y0:=(hB.cell (Qaa y0)).trans y0;have y1:=(hB.cell (Qaa y1)).trans y1;have y2:=(hB.cell (Qaa y2)).trans y2;have y3:=(hB.cell (Qaa y3)).trans y3;clear hc;have hld:(Qax (S.take k) n).length<=k:=by have:=Qty (S.take k) n;rw [List.length_take] at this;omega
   have htk:S.take (k+1)=S.take k ++ [y]:=by rw [List.take_succ_eq_append_getElem hlt];congr 2;exact (List.getElem?_eq_some_iff.1 hy).2
   by_cases hn:y.1=n
   ·have hdr:Qax (S.take (k+1)) n=Qax (S.take k) n:=by rw [htk];unfold Qax;simp [List.filter_append,hn]
    have e1:(y.1.1 != n.1)=false:=by rw [hn];simp
    have e2:(y.1.2 != n.2)=false:=by rw [hn];simp
    have HO:=Jh3 hO hB hdr;clear hO hB hdr htk hn hy;go_wp2
    go_roundw
    case rel=>exact ⟨k+1,b,dd,by omega,by go_num,by rw [(Jz2 HO)],by rw [(Jz2 HO)];exact HO.out.1,(J2 HO)⟩
    case measure=>simp [intOf];omega
   ·have hdr:Qax (S.take (k+1)) n=Qax (S.take k) n ++ [y]:=by rw [htk];unfold Qax;simp [List.filter_append,hn]
    by_cases ht:y.1.1=n.1
    ·have e1:(y.1.1 != n.1)=false:=by rw [ht];simp
     have e2:(y.1.2 != n.2)=true:=by
      have:=Qx4.1 hn;simp only [bne_iff_ne]
      omega
     clear ht;have HO:=Jh1 hB;obtain ⟨g',cc',W',hrun,hO3,hgr⟩:=Qhm hO y (by omega) hB.size wr.heap.size rfl;have HA:Hid (Qax (S.take (k+1)) n=Qax (S.take k) n ++ [y]/\W'.ownsRow w.heap.size 137 4 (.slice (some ⟨g',0,none⟩) ((Qax (S.take k) n).length+1) cc') ((Qax (S.take k) n).length+1) (plC (Qax (S.take k) n ++ [y]))/\Below w.heap.size w W'):=⟨hdr,hO3,hB.grown hgr hB.size (λ j hj=>(hO.lt j hj).1)⟩
     clear hO hB hdr htk hn hy hO3 hgr;go_wp2_with (first | (at_builtin;refine Qae rfl _ _ 77 77 rfl _ _ rfl rfl _ _ hrun ?_) | go_in)
     go_roundw
     case rel=>exact ⟨k+1,some ⟨g',0,none⟩,cc',by omega,by go_num,by rw [HA.out.1];simp,by rw [HA.out.1];simpa using (J2 HA),(Jz2 HA)⟩
     case measure=>simp [intOf];omega
    ·have e1:(y.1.1 != n.1)=true:=by simpa using ht
     clear ht;have HO:=Jh1 hB;obtain ⟨g',cc',W',hrun,hO3,hgr⟩:=Qhm hO y (by omega) hB.size wr.heap.size rfl;have HA:Hid (Qax (S.take (k+1)) n=Qax (S.take k) n ++ [y]/\W'.ownsRow w.heap.size 137 4 (.slice (some ⟨g',0,none⟩) ((Qax (S.take k) n).length+1) cc') ((Qax (S.take k) n).length+1) (plC (Qax (S.take k) n ++ [y]))/\Below w.heap.size w W'):=⟨hdr,hO3,hB.grown hgr hB.size (λ j hj=>(hO.lt j hj).1)⟩
     clear hO hB hdr htk hn hy hO3 hgr;go_wp2_with (first | (at_builtin;refine Qae rfl _ _ 77 77 rfl _ _ rfl rfl _ _ hrun ?_) | go_in)
     go_roundw
     case rel=>exact ⟨k+1,some ⟨g',0,none⟩,cc',by omega,by go_num,by rw [HA.out.1];simp,by rw [HA.out.1];simpa using (J2 HA),(Jz2 HA)⟩
     case measure=>simp [intOf];omega
  ·have hge:(S.length:Int)<=k:=by omega
   have hkn:k=S.length:=by omega
   rw [hkn,List.take_length] at hO;have f0:=(HR.out.1.below hB HR.out.1.lt).frozen 0;have hts:S.take k=S:=by rw [hkn,List.take_length]
   rw [hts];have HO:Hid (LmN w.heap.size (wr.setCell ⟨r,0,none⟩ (.slice b (Qax S n).length dd)) r (Qax S n)/\Out (λ k=>k=r) w (wr.setCell ⟨r,0,none⟩ (.slice b (Qax S n).length dd))):=by
    have hbr:=HR.out.1.below hB HR.out.1.lt;have hne:=Q00 hbr hO (by decide);refine ⟨⟨⟨b,_,dd,hbr.set 0 _,?_⟩,HG.out.drop n⟩,(Qab (λ k=>k=r) hB).setCell (.inl rfl) _⟩
    have ho:Out (λ k=>k=r) wr (wr.setCell ⟨r,0,none⟩ (.slice b (Qax S n).length dd)):=(Out.refl (λ k=>k=r) wr).setCell (p:=⟨r,0,none⟩) (.inl rfl) _;exact ho.own hO (λ g hg e=>hne (by rw [hg,e]))
   have HW:Hid (decide ((Qax S n).length<S.length)=(getS S n).isSome):=Qz3 S n;clear hO hB hts hkn;go_wp2
   go_ret
   refine ⟨?_,HO.out⟩
   rw [<-HW.out];simp
theorem neqA (a b:Pr) (W:World):(Go.binOp .neq 85 (.agg #[.int .i64 a.1,.int .i64 a.2]) (.agg #[.int .i64 b.1,.int .i64 b.2])).run prog W=.ok (.bool (a != b)) W:=by
 have h:(a != b)=!(a.1 == b.1 && a.2 == b.2):=by obtain ⟨a1,a2⟩:=a;obtain ⟨b1,b2⟩:=b;rfl
 rw [h];by_cases h1:a.1=b.1
 ·by_cases h2:a.2=b.2
  ·go_simp
  ·go_simp
 ·go_simp
theorem neqP (x y:Pl) (W:World):(Go.binOp .neq 137 (.agg #[.int .u32 x.1.1,.int .u64 x.1.2,.int .i64 x.2.1,.int .i64 x.2.2]) (.agg #[.int .u32 y.1.1,.int .u64 y.1.2,.int .i64 y.2.1,.int .i64 y.2.2])).run prog W=.ok (.bool (x != y)) W:=by
 have h:(x != y)=!((x.1.1 == y.1.1 && x.1.2 == y.1.2) && (x.2.1 == y.2.1 && x.2.2 == y.2.2)):=by obtain ⟨⟨a1,a2⟩,a3,a4⟩:=x;obtain ⟨⟨b1,b2⟩,b3,b4⟩:=y;rfl
 rw [h];by_cases h1:x.1.1=y.1.1
 ·by_cases h2:x.1.2=y.1.2
  ·by_cases h3:x.2.1=y.2.1
   ·by_cases h4:x.2.2=y.2.2
    ·go_simp
    ·go_simp
   ·go_simp
  ·go_simp
 ·go_simp
end Go.Proofs.YtcdnjeiamihhbaaGreat
