/- P27 -/
import Derived.Test.YtcdnjeiamihhbaaGreatP26
set_option linter.unusedVariables false
set_option maxRecDepth 4000
open Go.Proofs.Tryz
namespace Go.Proofs.YtcdnjeiamihhbaaGreat
open Go.RowKit Go.Sort Go.Lib Go.Shelf
section
theorem Qrz (xs:List Fo) (j:Nat) (h:j<xs.length*4):(foC xs)[j]?=some ((foL xs.toArray[j / 4]!)[j % 4]!):=by
 have hi:j / 4<xs.length:=by omega
 have hx:xs[j / 4]?=some xs[j / 4]:=List.getElem?_eq_getElem hi;have:=Qob xs (j / 4) _ (j % 4) hx (by omega);have e:j / 4*4+j % 4=j:=by omega
 rw [e] at this;rw [this];have e2:xs.toArray[j / 4]! = xs[j / 4]:=by simp [hi]
 rw [e2];have h2:j % 4=0\/j % 4=1\/j % 4=2\/j % 4=3:=by omega
 rcases h2 with h2 | h2 | h2 | h2 <;> rw [h2] <;> rfl
theorem Qsr {w:World} {g:Nat} {cur:Array Value} {e:TypeId} {xs:List Fo} (hb:w.heap[g]?=some (.cells cur e (0,0))) (ht:cur.toList.take (xs.length*4)=foC xs):HoldsK foL 4 w g 0 xs.toArray:=by
 intro j hj;have hj':j<xs.length*4:=by simpa using hj
 refine ⟨?_,by simp [World.frozen?,hb]⟩
 have h1:(cur.toList.take (xs.length*4))[j]?=(foC xs)[j]?:=by rw [ht]
 rw [List.getElem?_take_of_lt hj',Qrz xs j hj'] at h1;rw [get_flatK _ _ _ _ (by simpa using hj')];simp only [World.cell?,hb,Nat.zero_add]
 simp only [Option.isSome_none,Bool.false_eq_true,if_false]
 rw [<-Array.getElem?_toList,h1];rfl
theorem Ql5 {w:World} {g n:Nat} {os:Array Obj} {cur:Array Value} {e:TypeId} {fr:Nat × Nat} (d:Array Fo) (hb:w.heap[g]?=some (.cells cur e fr)) :
  (sortWorldK foL 4 w g 0 n d os).heap[g]?=some (.cells (putCells id 0 (flatK foL 4 d) cur) e fr):=by
 have hg:g<w.heap.size:=(Array.getElem?_eq_some_iff.1 hb).1;unfold sortWorldK putRowK;rw [heap_grow_old _ _ (by simpa using hg)];simp [putRow,mapBlock,Sort.ahead,Array.getElem?_modify,hb,onCells]
theorem Qfv {w:World} {g n:Nat} {os:Array Obj} (d:Array Fo):w.grownBy (sortWorldK foL 4 w g 0 n d os) (some g):=by
 unfold sortWorldK putRowK;refine ⟨rfl,rfl,rfl,by simp,λ k hk hne=>?_⟩
 rw [heap_grow_old _ _ (by simpa using hk)];have:g≠k:=λ e=>hne (by rw [e])
 simp [putRow,mapBlock,Sort.ahead,Array.getElem?_modify,this]
theorem Qto (cur:Array Value) (ts:List Fo) (h:ts.length*4<=cur.size):(putCells id 0 (flatK foL 4 ts.toArray) cur).toList.take (ts.length*4)=foC ts:=by
 apply List.ext_getElem?
 intro j;by_cases hj:j<ts.length*4
 ·rw [List.getElem?_take_of_lt hj,Array.getElem?_toList,Qrz ts j hj]
  have hf:=get_flatK foL 4 ts.toArray j (by simpa using hj);have hc:j<cur.size:=by omega
  unfold putCells;rw [Array.getElem?_mapIdx,Array.getElem?_eq_getElem hc];simp only [Option.map_some,Nat.zero_le,true_and,Nat.zero_add,Nat.sub_zero,id]
  rw [if_pos (by simpa using hj),hf]
 ·rw [List.getElem?_take_eq_none (by omega),List.getElem?_eq_none (by rw [Qcj];omega)]
theorem Qs5 {w:World} {base g cap n:Nat} {e:TypeId} {os:Array Obj} {xs ts:List Fo} (h:w.ownsRow base e 4 (.slice (some ⟨g,0,none⟩) xs.length cap) xs.length (foC xs)) (hl:ts.length=xs.length) :
  (sortWorldK foL 4 w g 0 n ts.toArray os).ownsRow base e 4 (.slice (some ⟨g,0,none⟩) xs.length cap) xs.length (foC ts):=by
 rcases h.2 with ⟨hv,_⟩ | ⟨g',cap',cur,hv,h1,h2,h3,h4,h5,h6⟩
 ·cases hv
 ·cases hv
  refine ⟨by rw [Qcj,hl],.inr ⟨g,cap,_,rfl,h1,Ql5 _ h2,h3,h4,by simp [putCells,h5],?_⟩⟩
  rw [<-hl];exact Qto cur ts (by rw [h5,hl];omega)
theorem Qjc {w:World} {base g cap:Nat} {e:TypeId} {xs:List Fo} (h:w.ownsRow base e 4 (.slice (some ⟨g,0,none⟩) xs.length cap) xs.length (foC xs)):HoldsK foL 4 w g 0 xs.toArray/\g<w.heap.size:=by
 rcases h.2 with ⟨hv,_⟩ | ⟨g',cap',cur,hv,h1,h2,h3,h4,h5,h6⟩
 ·cases hv
 ·cases hv
  exact ⟨Qsr h2 h6,(Array.getElem?_eq_some_iff.1 h2).1⟩
theorem Qzh {xs:List Fo} {d':Array Fo} (hp:PermIn 0 xs.toArray.size xs.toArray d') (hs:SortedIn (ltOf cfO) 0 xs.toArray.size d'):d'.toList.Perm xs/\d'.toList.Pairwise (λ x y=>ltO y x=false):=by
 obtain ⟨h1,_,h3⟩:=hp;have hsz:d'.size=xs.length:=by simpa using h1
 have e1:(d'.extract 0 xs.toArray.size).toList=d'.toList:=by simp [<-hsz]
 have e2:(xs.toArray.extract 0 xs.toArray.size).toList=xs:=by simp
 rw [e1,e2] at h3;refine ⟨h3,?_⟩
 rw [List.pairwise_iff_getElem];intro i j hi hj hij;have:=hs i j (Nat.zero_le _) hij (by simpa [hsz] using hj);rw [Qp7] at this;have hi':i<d'.size:=by simpa using hi
 have hj':j<d'.size:=by simpa using hj
 rw [getElem!_pos d' i hi',getElem!_pos d' j hj'] at this;simpa using this
theorem Qta (w:World):Calls prog 124 #[.slice none 0 0,.func (.func 125) #[] #[]] w λ e w'=>e=.returned (.tuple #[])/\w'=w:=AnyF.slices_SortFunc_none Tryz.sortO none 0 (.func (.func 125) #[] #[]) w
def Q1h (zs:List Zn) (q:Int) (W:World) (e:Ending) (w':World):Prop:=∃A n C l,e=.returned (.slice A n C)/\FoIn w' A n l/\(l.map foK).Perm (Qa4 zs q zs.length)/\l.Pairwise (λ x y=>ltO y x=false)/\(∀f∈l,ItsIn w' f.a f.m (foX zs f)/\(f.m≠0->∀y,f.a.map (·.block)=some y->W.heap.size<=y))/\(n≠0->∀y,A.map (·.block)=some y->W.heap.size<=y)/\Below W.heap.size W w'
theorem Qd0 (zs:List Zn) (z:Int):∀f i,(Qe6 zs z f i).length<=f
 | 0,_=>Nat.le_refl _
 | f+1,i=>by
  unfold Qe6;split
  ·have:=Qd0 zs z f ‹_›
   simp only [List.length_cons]
   omega
  ·exact Nat.zero_le _
theorem Qvs {s:Sh} {zs:List Zn} (hw:Wf s zs) (k:Nat) (hk:k<zs.length):(Qay zs (k:Nat)).length<=4096:=by
 have h1:=Qd0 zs (k:Nat) (atZ zs (k:Nat)).1.length 0;have hz:=hw.zone (zs[k]) (List.getElem_mem hk);have h3:=hw.right.2.2.2.1;have h5:(atZ zs (k:Int)).1=(zs[k]).1:=by
  unfold atZ;rw [if_pos (by omega)];simp [List.getD,hk]
 have h6:=hz.1;unfold Qay;rw [h5] at h1 ⊢;omega
section
variable {zs:List Zn} {W w:World} {A:Option Addr} {n C:Nat} {l:List Fo} {q:Int}
theorem Qzn (h:NwR zs W.heap.size W w A n C l) (hq:W.heap.size<=w.heap.size) (he:l.map foK=Qa4 zs q zs.length) (hn:n<1000000) :
  Calls prog 124 #[.slice A n C,.func (.func 125) #[] #[]] w λ e w'=>e=.returned (.tuple #[])/\Q1h zs q W (.returned (.slice A n C)) w':=by
 obtain ⟨h1,r1,h2,h3,h4⟩:=h;by_cases h0:n=0
 ·subst h0
  have hl:l=[]:=List.length_eq_zero_iff.1 h1;subst hl;rcases r1.2 with ⟨hv,_⟩ | ⟨g,cap,cur,hv,hb,hg,hc,hcm,hsz,htake⟩
  ·cases hv
   refine (Qta w).mono ?_
   rintro e w' ⟨rfl,rfl⟩;exact ⟨rfl,none,0,0,[],rfl,⟨rfl,by simp,.inl rfl⟩,by rw [he],by simp,by simp,by simp,h4⟩
  ·cases hv
   have ho:=Qjc (xs:=[]) r1;refine (Qqs g C #[] w ho.1 ho.2 (by simp)).mono ?_
   rintro e w' ⟨rfl,d',n',os,hp,hs,rfl⟩;refine ⟨rfl,_,0,_,[],rfl,⟨rfl,by simp,.inl rfl⟩,by rw [he],by simp,by simp,by simp,?_⟩
   exact (Out.refl (λ j=>some g=some j) w).grown (Qfv d') (λ j hj=>.inl hj) |>.below hq (λ j hj=>h3 j hj) |> h4.trans
 ·obtain ⟨g,hA,_⟩:=Qh9 r1 (by omega)
  subst hA;have hls:l.toArray.size=n:=by simpa using h1
  subst h1;have ho:=Qjc r1;have hsO:=Qqs g C l.toArray w ho.1 ho.2 (by simpa using hn);rw [hls] at hsO;refine hsO.mono ?_
  rintro e w' ⟨rfl,d',n',os,hp,hs,rfl⟩;obtain ⟨p1,p2⟩:=Qzh (xs:=l) (by rw [hls];exact hp) (by rw [hls];exact hs);have hout:=(Out.refl (λ j=>some g=some j) w).grown (Qfv (n:=n') (os:=os) d') (λ j hj=>.inl hj);have ow:=Qs5 (n:=n') (os:=os) (ts:=d'.toList) r1 p1.length_eq;rw [Array.toArray_toList] at ow;refine ⟨rfl,_,l.length,_,d'.toList,rfl,⟨p1.length_eq,by unfold maxLen;omega,.inr ⟨g,0,rfl,λ i f hf j v hv=>?_⟩⟩,?_,p2,λ f hf=>?_,λ _ y hy=>h3 y hy,h4.trans (hout.below hq (λ j hj=>h3 j hj))⟩
  ·obtain ⟨g',hg',hc'⟩:=Qh9 ow (by omega)
   cases hg'
   have hj4:j<4:=by
    have:=(List.getElem?_eq_some_iff.1 hv).1;simpa [foL] using this
   rw [Nat.zero_add];exact hc' _ v (by rw [Qob _ i f j hf hj4];exact hv)
  ·rw [<-he]
   exact p1.map foK
  ·have hfl:=h2 f (p1.mem_iff.1 hf)
   exact ⟨hfl.1.outO hout (λ hm y hy e=>(hfl.2 hm y hy).2 e),λ hm y hy=>(hfl.2 hm y hy).1⟩
end
end
section
section
variable {O:Nat->Prop} {W:World} {p:Nat} {s:Sh} {zs:List Zn}
set_option maxHeartbeats 4000000 in
theorem Qwu (q:Int) (hd:Dv 98 O W p s zs) (hw:Wf s zs) (hN:(Qa4 zs q zs.length).length<=100000) :
  Calls prog 58 #[.pointer (some ⟨p,0,none⟩),.int .u64 q] W (Q1h zs q W):=by
 obtain ⟨Z,hZ⟩:∃Z:Nat,s.z=Z:=⟨s.z.toNat,by have:=hw.right.1;omega⟩
 have hZl:zs.length=Z:=by have:=hw.len;omega
 have hZ6:6<=Z/\Z<=256:=by have:=hw.right.1;have:=hw.right.2.1;omega
 have HSh:Hid (∀V,Below W.heap.size W V->Calls prog 72 #[.pointer (some ⟨p,0,none⟩)] V λ e w'=>e=.returned (.agg #[.int .i64 (Z:Nat),.int .i64 s.zb,.int .i64 s.b,.int .i64 s.r])/\Below V.heap.size V w'):=λ V hV=>by rw [<-hZ];exact Qdf (hd.later hV)
 have HSc:Hid (∀V (z:Nat),Below W.heap.size W V->Calls prog 44 #[.pointer (some ⟨p,0,none⟩),.int .i64 (z:Nat)] V (Q2e V zs (z:Nat))):=λ V z hV=>Qqa _ (hd.later hV) hw
 have hfn:=Tryz.shape_o (.int .i64 (Z:Nat)) (.int .i64 s.zb) (.int .i64 s.b) (.int .i64 s.r);have HQ:Hid (∀k:Nat,k<Z->(Qay zs (k:Nat)).length<=4096):=λ k hk=>Qvs hw k (by omega)
 have HN:Hid ((Qa4 zs q Z).length<=100000):=by show _<=_;rw [<-hZl];exact hN
 have HZl:=Jh1 hZl;clear hd hw hZ hZl hN;go_enter func58,ntmps58
 go_wp2_with fail
 go_loopw [5,6] (λ v x wr=>∃(k n C:Nat) (A:Option Addr) (l:List Fo),x=.int .i64 k/\v=.slice A n C/\2<=k/\k<=Z/\NwR zs W.heap.size W wr A n C l/\l.map foK=Qa4 zs q k) (λ _ x _=>Z - (intOf x).toNat)
 case atStart=>exact ⟨2,0,0,none,[],rfl,rfl,Nat.le_refl _,by omega,NwR.start _ _ (Below.refl _ _),by rw [Qi5];rfl⟩
 case round=>
  obtain ⟨k,n,C,A,l,rfl,rfl,h2,hk,nw,he⟩:=hrel;rcases Nat.lt_or_ge k Z with hlt | hge
  ·have hk':(k:Int)<Z:=by omega
   have hwk:IntKind.i64.wrap ((k:Int)+1)=(k:Int)+1:=by rw [IntKind.wrap_i64];omega
   have H0:=Jh4 nw he h2 hlt;clear nw he;go_wp2_with (first
     | (go_at_call 72;refine (HSh.out _ H0.out.1.bel).mono ?_;rintro e w1 ⟨rfl,hb1⟩;have hbW1:=H0.out.1.bel.trans (hb1.mono H0.out.1.bel.size))
     | (go_at_call 44;refine (HSc.out _ k hbW1).mono ?_;rintro e w2 ⟨Ar,Cr,B,cB,nr,rfl,sc⟩))
   have HI0:Hid (NwI zs W.heap.size W w2 A n C l Ar Cr B cB nr (Qay zs (k:Nat)) k):=NwI.start (H0.out.1.below H0.out.1.bel.size hb1) hbW1.size sc;clear sc hb1;go_loopw [5,26] (λ v x wr=>∃(i n' C':Nat) (A':Option Addr) (l':List Fo),x=.int .i64 i/\v=.slice A' n' C'/\i<=nr/\NwI zs W.heap.size W wr A' n' C' l' Ar Cr B cB nr (Qay zs (k:Nat)) k/\l'.map foK=Qa4 zs q k ++ Qb1 zs q k ((Qay zs (k:Nat)).take i)) (λ _ x _=>nr - (intOf x).toNat)
   case atStart=>exact ⟨0,n,C,A,l,rfl,rfl,Nat.zero_le _,HI0.out,by rw [(J2 H0)];simp [Qb1]⟩
   case round=>
    obtain ⟨i,n',C',A',l',rfl,rfl,hi,ni,hl'⟩:=hrel;have hnr:nr<=100000:=by have h1:=HQ.out k (Jz3 H0);have h2:=ni.ln;omega
    have hn':n'+1<=1000000:=by
     have h1:=ni.nw.ln;have h2:l'.length=(l'.map foK).length:=by simp
     have h3:=Qtp zs q k (Qay zs (k:Nat)) i;have h4:=Qxr zs q (k:=k+1) (k':=Z) (by omega);have h5:=HN.out;rw [Qbp (J3 H0),List.length_append] at h4;rw [hl',List.length_append] at h2;omega
    rcases Nat.lt_or_ge i nr with hlt2 | hge2
    ·have hi':(i:Int)<nr:=by omega
     have hwi:IntKind.i64.wrap ((i:Int)+1)=(i:Int)+1:=by rw [IntKind.wrap_i64];omega
     obtain ⟨b,a,m,c,g,g2,hb,rfl,rfl,y0,y1,y2,hit,hfr⟩:=ni.at hlt2;obtain ⟨S,hS⟩:∃S,S=decS (elB zs (k:Nat) b):=⟨_,rfl⟩
     rw [<-hS] at y0;have HB:NwI zs W.heap.size W (wr.alloc (.cells #[.int .u64 S,.slice a m c] 177)) A' n' C' l' (some ⟨g,0,none⟩) Cr (some ⟨g2,0,none⟩) cB nr (Qay zs (k:Nat)) k/\Blk (wr.alloc (.cells #[.int .u64 S,.slice a m c] 177)) wr.heap.size [.int .u64 S,.slice a m c] 177/\ItsIn (wr.alloc (.cells #[.int .u64 S,.slice a m c] 177)) a m (decX (elB zs (k:Nat) b))/\(wr.alloc (.cells #[.int .u64 S,.slice a m c] 177)).cell? ⟨g2,i,none⟩=some (.int .i64 (b:Nat)):=⟨ni.below (Qbg _ _),Blk.new' rfl rfl,hit.below (Qbg _ _),by rw [World.cell?_of_block (w:=wr) ((Qbg wr _).block g2 (Qaa y2))];exact y2⟩
     have HC:Hid (S=decS (elB zs (k:Nat) b)/\(Qay zs (k:Nat))[i]?=some b/\n'+1<=1000000/\l'.map foK=Qa4 zs q k ++ Qb1 zs q k ((Qay zs (k:Nat)).take i)/\(m≠0->∀y,a.map (·.block)=some y->W.heap.size<=y/\¬(Value.slice A' n' C').ownBlock=some y)):=⟨hS,hb,hn',hl',λ hm y hy=>⟨(hfr hm y hy).1,(hfr hm y hy).2.2⟩⟩
     clear hS hb hn' hl' hfr hit ni y2;have HBh:=Jh2 HB.1 HB.2.2.1;have y2:=HB.2.2.2;clear HB;by_cases h0:q<S
     ·have HF:Hid (Qb1 zs q k ((Qay zs (k:Nat)).take (i+1))=Qb1 zs q k ((Qay zs (k:Nat)).take i) ++ [(S,((k:Nat):Int),((b:Nat):Int))]):=by
       show _=_;rw [Qao (J2 HC),Qc7,if_pos (by rw [<-HC.out.1];exact h0),<-HC.out.1]
      have HL:Hid (∀a9 c9 w9,NwI zs W.heap.size W w9 a9 (n'+1) c9 (l' ++ [⟨S,a,m,c,(k:Nat),(b:Nat)⟩]) (some ⟨g,0,none⟩) Cr (some ⟨g2,0,none⟩) cB nr (Qay zs (k:Nat)) k->NwI zs W.heap.size W w9 a9 (n'+1) c9 (l' ++ [⟨S,a,m,c,(k:Nat),(b:Nat)⟩]) (some ⟨g,0,none⟩) Cr (some ⟨g2,0,none⟩) cB nr (Qay zs (k:Nat)) k/\(l' ++ [(⟨S,a,m,c,(k:Nat),(b:Nat)⟩:Fo)]).map foK=Qa4 zs q k ++ Qb1 zs q k ((Qay zs (k:Nat)).take (i+1))):=λ a9 c9 w9 n9=>⟨n9,by rw [HF.out,List.map_append,(J4 HC),List.append_assoc];rfl⟩
      have kY:Blk (wr.alloc (.cells #[.int .u64 S,.slice a m c] 177)) wr.heap.size [.int .u64 S,.slice a m c] 177:=Blk.new' rfl rfl;clear HF;go_wp2_with fail
      generalize World.alloc wr _=Y at HBh y2 kY ⊢;generalize wr.heap.size=ga at kY ⊢;have x0:Y.cell? ⟨ga,0,none⟩=some (.int .u64 S):=kY.cell 0;have x1:Y.cell? ⟨ga,1,none⟩=some (.slice a m c):=kY.cell 1;have d0:Y.drew.cell? ⟨ga,0,none⟩=some (.int .u64 S):=kY.cell 0;have d1:Y.drew.cell? ⟨ga,1,none⟩=some (.slice a m c):=kY.cell 1;have d2:Y.drew.cell? ⟨g2,i,none⟩=some (.int .i64 (b:Nat)):=y2;have bD:Below Y.heap.size Y Y.drew:=(Below.refl _ _).drew;have HD:=Jh2 (HBh.out.1.below bD) (HBh.out.2.below bD);clear bD kY;have HK:Hid (Blk (Y.drew.alloc (.cells #[.int .u64 S,.slice a m c,.int .i64 (k:Nat),.int .i64 (b:Nat)] 179)) Y.drew.heap.size [.int .u64 S,.slice a m c,.int .i64 (k:Nat),.int .i64 (b:Nat)] 179):=Blk.new' rfl rfl;go_region_law (refine Qsj (S:=S) (a:=a) (m:=m) (c:=c) (b:=b) rfl (.tmp 35) (.tmp 44) rfl rfl rfl rfl HD.out.1 (Qbg _ _) HD.out.2 (Jz4 HC) (J3 HC) (λ j u hj=>(HK.out.cell j).trans hj) ?_;intro a9 c9 w9 n9;have HZ:Hid (NwI zs W.heap.size W w9 a9 (n'+1) c9 (l' ++ [⟨S,a,m,c,(k:Nat),(b:Nat)⟩]) (some ⟨g,0,none⟩) Cr (some ⟨g2,0,none⟩) cB nr (Qay zs (k:Nat)) k/\(l' ++ [(⟨S,a,m,c,(k:Nat),(b:Nat)⟩:Fo)]).map foK=Qa4 zs q k ++ Qb1 zs q k ((Qay zs (k:Nat)).take (i+1))):=HL.out _ _ _ n9;clear n9)
      all_goals (
       go_wp2
       exact ⟨⟨i+1,n'+1,c9,a9,_,by simp,rfl,by omega,HZ.out.1,HZ.out.2⟩,by simp [intOf];omega⟩)
     ·have HF:Hid (Qb1 zs q k ((Qay zs (k:Nat)).take (i+1))=Qb1 zs q k ((Qay zs (k:Nat)).take i)):=by
       show _=_;rw [Qao (J2 HC),Qc7,if_neg (by rw [<-HC.out.1];exact h0)]
      go_wp2
      exact ⟨⟨i+1,n',C',A',l',by simp,rfl,by omega,HBh.out.1,by rw [HF.out];exact (J4 HC)⟩,by simp [intOf];omega⟩
    ·obtain rfl:i=nr:=by omega
     have hi':¬(i:Int)<i:=by omega
     have HZ:Hid (NwR zs W.heap.size W wr A' n' C' l'/\l'.map foK=Qa4 zs q (k+1)):=⟨ni.nw,by rw [hl',Qbp (J3 H0),List.take_of_length_le (by have:=ni.ln;omega)]⟩
     clear ni hl';go_wp2
     first
      | exact ⟨⟨k+1,n',C',A',l',by simp,rfl,by omega,by omega,HZ.out.1,HZ.out.2⟩,by simp [intOf];omega⟩
      | (go_roundw
         case rel=>exact ⟨k+1,n',C',A',l',by simp,rfl,by omega,by omega,HZ.out.1,HZ.out.2⟩
         case measure=>simp [intOf];omega)
      | (trace_state;sorry)
  ·obtain rfl:k=Z:=by omega
   have hk':¬(k:Int)<k:=by omega
   have HF:Hid (NwR zs W.heap.size W wr A n C l/\l.map foK=Qa4 zs q zs.length/\n<1000000):=⟨nw,by rw [HZl.out];exact he,by
    have h1:=nw.ln;have h2:l.length=(l.map foK).length:=by simp
    have h3:=HN.out;rw [he] at h2;omega⟩
   clear nw he;go_wp2_with (first
    | (go_at_call 72;refine (HSh.out _ HF.out.1.bel).mono ?_;rintro e w1 ⟨rfl,hb1⟩)
    | (go_at_call 124;refine (Qzn (HF.out.1.below HF.out.1.bel.size hb1) (Nat.le_trans HF.out.1.bel.size hb1.size) (J2 HF) (Jz2 HF)).mono ?_;rintro e w2 ⟨rfl,hg⟩))
   go_ret
   exact hg
end
end
end Go.Proofs.YtcdnjeiamihhbaaGreat
namespace Go.Proofs.YtcdnjeiamihhbaaGreat
open Go.RowKit
def onP2 (s:Sh) (zs:List Zn) (q sl:Int) (l:List Pl):St:={Qfr s zs q sl with S:=l.foldl putS []}
def onG2 (s:Sh) (zs:List Zn) (q sl:Int) (l:List Pl) (f:List Int):St:={onP2 s zs q sl l with L:=(f.foldl (fndS q) (newZ s.z.toNat,List.replicate s.z.toNat 0)).1,la:=(f.foldl (fndS q) (newZ s.z.toNat,List.replicate s.z.toNat 0)).2}
theorem Qlq {s:Sh} {zs:List Zn} {q sl:Int} {l:List Pl} {i:Nat} {x:Pl} (h:l[i]?=some x):onP2 s zs q sl (l.take (i+1))={onP2 s zs q sl (l.take i) with S:=putS (onP2 s zs q sl (l.take i)).S x}:=by
 unfold onP2;rw [Qao h,List.foldl_append];rfl
theorem Qrc {s:Sh} {zs:List Zn} {q sl:Int} {l:List Pl} {f:List Int} {i:Nat} {z:Int} (h:f[i]?=some z):onG2 s zs q sl l (f.take (i+1))={onG2 s zs q sl l (f.take i) with L:=Qcm (onG2 s zs q sl l (f.take i)).L z 1 3,la:=if stZ (onG2 s zs q sl l (f.take i)).L z=1 then (onG2 s zs q sl l (f.take i)).la.set z.toNat q else (onG2 s zs q sl l (f.take i)).la}:=by
 unfold onG2;rw [Qao h,List.foldl_append];rfl
theorem Sv.farP {P D0:Nat->Prop} {W V W':World} {k:Bs} {st:St} {c:Nat} (h:Sv D0 V k st c W') (hb:Below W.heap.size W V) (hB:∀x,W.heap.size<=x->P x) (hD:∀x,D0 x->P x) (hk:∀x,k.has x->P x):Out P W W':=by
 obtain ⟨D,_,_,ho⟩:=h;have h1:Out P W V:=Qab _ hb;exact h1.trans ho (λ j hj=>.inl (by rcases hj with h | h;exact hD j h;exact hk j h))
set_option maxHeartbeats 4000000 in
theorem Q26 {O:Nat->Prop} {W:World} {p:Nat} {s:Sh} {zs:List Zn} (hd:Dv 98 O W p s zs) (hw:Wf s zs) (q:Int) (hq:Qai q) (sl:Int) (P:Nat->Prop) (hB:∀x,W.heap.size<=x->P x) (hO:∀x,O x->P x) (a1:Option Addr) (n1 c1:Nat) (l:List Pl) (hl:∀V,Out P W V->KIn V a1 n1 l) (hn1:n1<=90000) (a2:Option Addr) (n2 c2:Nat) (f:List Int) (hf:∀V,Out P W V->NIn .i64 V a2 n2 f) (hn2:n2<=1000) :
  Calls prog 60 #[.pointer (some ⟨p,0,none⟩),.int .u64 q,.slice a1 n1 c1,.slice a2 n2 c2,.int .i64 sl] W λ e w'=>∃(k:Bs) (V:World),e=.returned (.pointer (some ⟨k.ps,0,none⟩))/\Below W.heap.size W V/\Sv (λ x=>O x/\x<W.heap.size) V k (onG2 s zs q sl l f) n1 w'/\∀x,k.has x->W.heap.size<=x:=by
 obtain ⟨N,hN⟩:∃N:Nat,s.z=N:=⟨s.z.toNat,by have:=hw.right.1;omega⟩
 have hN1:6<=N/\N<=256:=by have:=hw.right.1;have:=hw.right.2.1;omega
 have H:=Jh4 hd hw hN hq;have HL:=Jh4 hl hf hO hB;have hl1:=(hl W (Out.refl _ _)).1;have hf1:=(hf W (Out.refl _ _)).1;have hsh:=Qdf hd;rw [hN] at hsh;have HSh:=Jh1 @hsh;have hmk:=run_make_row' (P:=prog) 46 45 (.int .u64 0) 8 Tryz.underlying46 Tryz.zero_u64s rfl .i64 .i64 N (by omega) (by omega);clear hd hw hN hsh hq hl hf hO hB;go_enter func60,ntmps60
 go_wp2_with (go_at_call 72;refine HSh.out.mono ?_;rintro e W1 ⟨rfl,hb1⟩)
 have HV:Hid (Below W.heap.size W (W1.alloc (.cells #[.int .i64 (N:Int),.int .i64 s.zb,.int .i64 s.b,.int .i64 s.r] 23))/\Blk (W1.alloc (.cells #[.int .i64 (N:Int),.int .i64 s.zb,.int .i64 s.b,.int .i64 s.r] 23)) W1.heap.size [.int .i64 (N:Int),.int .i64 s.zb,.int .i64 s.b,.int .i64 s.r] 23):=⟨hb1.alloc hb1.size _,Blk.new' rfl rfl⟩
 clear hb1;generalize World.alloc W1 _=V at HV ⊢;generalize W1.heap.size=ga at HV ⊢;have x0:V.cell? ⟨ga,0,none⟩=some (.int .i64 (N:Int)):=HV.out.2.cell 0;have x1:V.cell? ⟨ga,1,none⟩=some (.int .i64 s.zb):=HV.out.2.cell 1;have x2:V.cell? ⟨ga,2,none⟩=some (.int .i64 s.b):=HV.out.2.cell 2;have x3:V.cell? ⟨ga,3,none⟩=some (.int .i64 s.r):=HV.out.2.cell 3;have k0:∀o,(V.alloc o).cell? ⟨ga,0,none⟩=some (.int .i64 (N:Int)):=λ o=>(HV.out.2.alloc o).cell 0
 have k1:∀o,(V.alloc o).cell? ⟨ga,1,none⟩=some (.int .i64 s.zb):=λ o=>(HV.out.2.alloc o).cell 1
 have k2:∀o,(V.alloc o).cell? ⟨ga,2,none⟩=some (.int .i64 s.b):=λ o=>(HV.out.2.alloc o).cell 2
 have k3:∀o,(V.alloc o).cell? ⟨ga,3,none⟩=some (.int .i64 s.r):=λ o=>(HV.out.2.alloc o).cell 3
 have HG:Hid (∀Y,Below V.heap.size V Y->Calls prog 127 #[.agg #[.int .i64 (N:Int),.int .i64 s.zb,.int .i64 s.b,.int .i64 s.r]] Y λ e Z=>∃pg gg,e=.returned (.pointer (some ⟨pg,0,none⟩))/\(SegP Z pg gg s.r (newZ s.z.toNat)/\Y.heap.size<=pg/\Y.heap.size<=gg/\Below Y.heap.size Y Z)/\Z.cell? ⟨ga,0,none⟩=some (.int .i64 (N:Int))/\(∀o,(Z.alloc o).cell? ⟨ga,0,none⟩=some (.int .i64 (N:Int)))):=λ Y hY=>by
  have:=Quq s Y (by have:=(J2 H).right.1;omega);rw [show shL s=[.int .i64 (N:Int),.int .i64 s.zb,.int .i64 s.b,.int .i64 s.r] by unfold shL;rw [(J3 H)]] at this;refine this.mono ?_
  rintro e Z (⟨hr,_⟩ | ⟨_,pg,gg,rfl,h1,h2,h3,h4⟩)
  ·exact (hr (J2 H).right).elim
  ·have bg:=HV.out.2.below (hY.trans (h4.mono hY.size)) HV.out.2.lt
   exact ⟨pg,gg,rfl,⟨h1,h2,h3,h4⟩,bg.cell 0,λ o=>(bg.alloc o).cell 0⟩
 have HM:Hid (∀Y,Calls prog 122 #[] Y λ e Z=>∃pm b1 b2,e=.returned (.pointer (some ⟨pm,0,none⟩))/\(LmP Z pm b1 b2 [] 0/\Below Y.heap.size Y Z/\Y.heap.size<=pm/\Y.heap.size<=b1/\Y.heap.size<=b2)/\∀v,Y.cell? ⟨ga,0,none⟩=some v->Z.cell? ⟨ga,0,none⟩=some v/\(∀o,(Z.alloc o).cell? ⟨ga,0,none⟩=some v)):=λ Y=>by
  refine (Qpf Y).mono ?_
  rintro e Z ⟨pm,b1,b2,rfl,h1,h2,h3,h4,h5⟩;refine ⟨pm,b1,b2,rfl,⟨h1,h2,h3,h4,h5⟩,λ v hv=>?_⟩
  have e1:Z.cell? ⟨ga,0,none⟩=some v:=(h2.cell (Qaa hv)).trans hv;exact ⟨e1,λ o=>(((Below.refl _ _).alloc (Nat.le_refl _) o).cell (Qaa e1)).trans e1⟩
 go_cut [12] (λ v X=>∃k:Bs,v=.pointer (some ⟨k.ps,0,none⟩)/\StV (λ x=>O x/\x<W.heap.size) X k (Qfr s zs q sl) 0/\Below W.heap.size W X/\∀x,k.has x->W.heap.size<=x)
 case first=>
  go_region_law (first
   | (go_simp;go_at_call 127;refine (HG.out _ (by first | exact (Below.refl _ _).drew | exact ((Below.refl _ _).alloc (Nat.le_refl _) _).drew)).mono ?_;rintro e V2 ⟨pg,gg,rfl,sg2,y0,y0a⟩)
   | (go_simp;go_at_call 122;refine (HM.out _).mono ?_;rintro e V3 ⟨pm,b1,b2,rfl,lm3,kk⟩;have z0:V3.cell? ⟨ga,0,none⟩=some (.int .i64 (N:Int)):=(kk _ (by first | exact y0 | exact y0a _)).1;have z0a:∀o,(V3.alloc o).cell? ⟨ga,0,none⟩=some (.int .i64 (N:Int)):=(kk _ (by first | exact y0 | exact y0a _)).2;clear kk))
  all_goals (
   have hbV:=HV.out.1;have hz:(s.z.toNat:Int)=s.z:=by rw [(J3 H)];simp
   have hzN:s.z.toNat=N:=by rw [(J3 H)];simp
   have hsV:=hbV.size;first
   | (
    have e2:Below V.heap.size V V2:=(Below.refl _ _).drew.trans sg2.2.2.2;have g1:V.heap.size<=pg:=sg2.2.1;have g2:V.heap.size<=gg:=sg2.2.2.1;have g3:=lm3.2.2.1;have g4:=lm3.2.2.2.1;have g5:=lm3.2.2.2.2;have e3:=e2.trans (lm3.2.1.mono e2.size);have q2:=e2.size;have q3:=lm3.2.1.size;have PK:Hid (StV (λ x=>O x/\x<W.heap.size) ((V3.alloc (.cells (madeCells #[.int .u64 0] N) 45)).alloc (.cells #[.pointer (some ⟨p,0,none⟩),.pointer (some ⟨pg,0,none⟩),.pointer (some ⟨pm,0,none⟩),.int .u64 q,.slice (some ⟨V3.heap.size,0,none⟩) N N,.int .i64 sl] 119)) ⟨V3.heap.size+1,p,pg,gg,pm,b1,b2,V3.heap.size⟩ (Qfr s zs q sl) 0/\Below W.heap.size W ((V3.alloc (.cells (madeCells #[.int .u64 0] N) 45)).alloc (.cells #[.pointer (some ⟨p,0,none⟩),.pointer (some ⟨pg,0,none⟩),.pointer (some ⟨pm,0,none⟩),.int .u64 q,.slice (some ⟨V3.heap.size,0,none⟩) N N,.int .i64 sl] 119))/\∀x,Bs.has ⟨V3.heap.size+1,p,pg,gg,pm,b1,b2,V3.heap.size⟩ x->W.heap.size<=x):=by
     have hb:Below W.heap.size W ((V3.alloc (.cells (madeCells #[.int .u64 0] N) 45)).alloc (.cells #[.pointer (some ⟨p,0,none⟩),.pointer (some ⟨pg,0,none⟩),.pointer (some ⟨pm,0,none⟩),.int .u64 q,.slice (some ⟨V3.heap.size,0,none⟩) N N,.int .i64 sl] 119)):=((hbV.trans (e3.mono hsV)).alloc (by omega) _).alloc (by simp;omega) _;refine ⟨Qfi (k:=⟨V3.heap.size+1,p,pg,gg,pm,b1,b2,V3.heap.size⟩) H.out.1 (J2 H) hb (Jz3 H) rfl hz ?_ ?_ ?_ ?_ (by show W.heap.size<=pg;omega) (by show W.heap.size<=gg;omega) (by show W.heap.size<=pm;omega) (by show W.heap.size<=b1;omega) (by show W.heap.size<=b2;omega) (by show W.heap.size<=V3.heap.size;omega) (by show W.heap.size<=V3.heap.size+1;omega),hb,?_⟩
     ·exact ((sg2.1.under lm3.2.1).under ((Below.refl _ _).alloc (Nat.le_refl _) _)).under ((Below.refl _ _).alloc (Nat.le_refl _) _)
     ·exact (lm3.1.alloc _).alloc _
     ·rw [hzN];exact (Qc3 N V3).alloc _
     ·rw [hzN];exact Blk.new' (by simp) rfl
     ·rintro x (rfl | rfl | rfl | rfl | rfl | rfl | rfl) <;> (try simp only) <;> omega
    try clear g1 g2 g3 g4 g5
    clear e2 e3 q2 q3 hbV hz hzN hsV sg2 lm3 y0 y0a z0 z0a k0 k1 k2 k3 x0 x1 x2 x3;generalize World.alloc (World.alloc V3 _) _=V9 at PK ⊢;generalize V3.heap.size+1=ps at PK ⊢;generalize V3.heap.size=lb at PK ⊢)
   | (
    have e2:Below V.heap.size V V2:=(Below.refl _ _).drew.trans sg2.2.2.2;have g1:V.heap.size<=pg:=sg2.2.1;have g2:V.heap.size<=gg:=sg2.2.2.1;have g3:=lm3.2.2.1;have g4:=lm3.2.2.2.1;have g5:=lm3.2.2.2.2;have lmb:Below (V2.heap.size+1) (V2.alloc (.cells (madeCells #[.int .u64 0] N) 45)) V3:=by have:=lm3.2.1;simpa using this
    have e3:Below V2.heap.size V2 V3:=((Below.refl _ _).alloc (Nat.le_refl _) _).trans (lmb.mono (by omega));have q2:=e2.size;have q3:=e3.size;have q4:V2.heap.size+1<=V3.heap.size:=by have:=lmb.size;simpa using this
    have l3:V2.heap.size+1<=pm/\V2.heap.size+1<=b1/\V2.heap.size+1<=b2:=by have:=lm3.2.2;simpa using this
    have PK:Hid (StV (λ x=>O x/\x<W.heap.size) (V3.alloc (.cells #[.pointer (some ⟨p,0,none⟩),.pointer (some ⟨pg,0,none⟩),.pointer (some ⟨pm,0,none⟩),.int .u64 q,.slice (some ⟨V2.heap.size,0,none⟩) N N,.int .i64 sl] 119)) ⟨V3.heap.size,p,pg,gg,pm,b1,b2,V2.heap.size⟩ (Qfr s zs q sl) 0/\Below W.heap.size W (V3.alloc (.cells #[.pointer (some ⟨p,0,none⟩),.pointer (some ⟨pg,0,none⟩),.pointer (some ⟨pm,0,none⟩),.int .u64 q,.slice (some ⟨V2.heap.size,0,none⟩) N N,.int .i64 sl] 119))/\∀x,Bs.has ⟨V3.heap.size,p,pg,gg,pm,b1,b2,V2.heap.size⟩ x->W.heap.size<=x):=by
     have hb:Below W.heap.size W (V3.alloc (.cells #[.pointer (some ⟨p,0,none⟩),.pointer (some ⟨pg,0,none⟩),.pointer (some ⟨pm,0,none⟩),.int .u64 q,.slice (some ⟨V2.heap.size,0,none⟩) N N,.int .i64 sl] 119)):=((hbV.trans (e2.mono hsV)).trans (e3.mono (by omega))).alloc (by omega) _;refine ⟨Qfi (k:=⟨V3.heap.size,p,pg,gg,pm,b1,b2,V2.heap.size⟩) H.out.1 (J2 H) hb (Jz3 H) rfl hz ?_ ?_ ?_ ?_ (by show W.heap.size<=pg;omega) (by show W.heap.size<=gg;omega) (by show W.heap.size<=pm;omega) (by show W.heap.size<=b1;omega) (by show W.heap.size<=b2;omega) (by show W.heap.size<=V2.heap.size;omega) (by show W.heap.size<=V3.heap.size;omega),hb,?_⟩
     ·exact (sg2.1.under e3).under ((Below.refl _ _).alloc (Nat.le_refl _) _)
     ·exact lm3.1.alloc _
     ·rw [hzN];exact ((Qc3 N V2).below lmb (by omega)).alloc _
     ·rw [hzN];exact Blk.new' rfl rfl
     ·rintro x (rfl | rfl | rfl | rfl | rfl | rfl | rfl) <;> (try simp only) <;> omega
    try clear g1 g2 g3 g4 g5
    clear e2 e3 q2 q3 q4 l3 lmb hbV hz hzN hsV sg2 lm3 y0 y0a z0 z0a k0 k1 k2 k3 x0 x1 x2 x3;generalize World.alloc V3 _=V9 at PK ⊢;generalize V3.heap.size=ps at PK ⊢;generalize V2.heap.size=lb at PK ⊢)
   | (
    have sgb:Below (V.heap.size+1) (V.alloc (.cells (madeCells #[.int .u64 0] N) 45)) V2:=by have:=(Below.refl _ _).drew.trans sg2.2.2.2;simpa using this
    have e2:Below V.heap.size V V2:=((Below.refl _ _).alloc (Nat.le_refl _) _).trans (sgb.mono (by omega));have e3:=lm3.2.1;have g3:=lm3.2.2.1;have g4:=lm3.2.2.2.1;have g5:=lm3.2.2.2.2;have q2:=e2.size;have q3:=e3.size;have q4:V.heap.size+1<=V2.heap.size:=by have:=sgb.size;simpa using this
    have l2:V.heap.size+1<=pg/\V.heap.size+1<=gg:=by have h1:=sg2.2.1;have h2:=sg2.2.2.1;simpa using (And.intro h1 h2)
    have PK:Hid (StV (λ x=>O x/\x<W.heap.size) (V3.alloc (.cells #[.pointer (some ⟨p,0,none⟩),.pointer (some ⟨pg,0,none⟩),.pointer (some ⟨pm,0,none⟩),.int .u64 q,.slice (some ⟨V.heap.size,0,none⟩) N N,.int .i64 sl] 119)) ⟨V3.heap.size,p,pg,gg,pm,b1,b2,V.heap.size⟩ (Qfr s zs q sl) 0/\Below W.heap.size W (V3.alloc (.cells #[.pointer (some ⟨p,0,none⟩),.pointer (some ⟨pg,0,none⟩),.pointer (some ⟨pm,0,none⟩),.int .u64 q,.slice (some ⟨V.heap.size,0,none⟩) N N,.int .i64 sl] 119))/\∀x,Bs.has ⟨V3.heap.size,p,pg,gg,pm,b1,b2,V.heap.size⟩ x->W.heap.size<=x):=by
     have hb:Below W.heap.size W (V3.alloc (.cells #[.pointer (some ⟨p,0,none⟩),.pointer (some ⟨pg,0,none⟩),.pointer (some ⟨pm,0,none⟩),.int .u64 q,.slice (some ⟨V.heap.size,0,none⟩) N N,.int .i64 sl] 119)):=((hbV.trans (e2.mono hsV)).trans (e3.mono (by omega))).alloc (by omega) _;refine ⟨Qfi (k:=⟨V3.heap.size,p,pg,gg,pm,b1,b2,V.heap.size⟩) H.out.1 (J2 H) hb (Jz3 H) rfl hz ?_ ?_ ?_ ?_ (by show W.heap.size<=pg;omega) (by show W.heap.size<=gg;omega) (by show W.heap.size<=pm;omega) (by show W.heap.size<=b1;omega) (by show W.heap.size<=b2;omega) (by show W.heap.size<=V.heap.size;omega) (by show W.heap.size<=V3.heap.size;omega),hb,?_⟩
     ·exact (sg2.1.under e3).under ((Below.refl _ _).alloc (Nat.le_refl _) _)
     ·exact lm3.1.alloc _
     ·rw [hzN];exact (((Qc3 N V).below sgb (by omega)).below e3 (by omega)).alloc _
     ·rw [hzN];exact Blk.new' rfl rfl
     ·rintro x (rfl | rfl | rfl | rfl | rfl | rfl | rfl) <;> (try simp only) <;> omega
    clear g3 g4 g5;clear e2 e3 q2 q3 q4 l2 sgb hbV hz hzN hsV sg2 lm3 y0 y0a z0 z0a k0 k1 k2 k3 x0 x1 x2 x3;generalize World.alloc V3 _=V9 at PK ⊢;generalize V3.heap.size=ps at PK ⊢;generalize V.heap.size=lb at PK ⊢)
   go_wp2_with fail
   go_meet
   case rel=>exact ⟨_,rfl,PK.out.1,(J2 PK),(Jz2 PK)⟩)
 case rest=>
  obtain ⟨k,rfl,hk,hb,hh⟩:=hcut;have PS:=Jh3 (Sv.start hk) hb hh;clear hk hb hh x0 x1 x2 x3 k0 k1 k2 k3 HG HM HV HSh;obtain ⟨V9,hV9⟩:∃V9:World,V9=wc:=⟨_,rfl⟩
  rw [<-hV9] at PS ⊢;clear hV9;obtain ⟨ps,hps⟩:∃ps,ps=k.ps:=⟨_,rfl⟩
  obtain ⟨pm,hpm⟩:∃pm,pm=k.pm:=⟨_,rfl⟩
  obtain ⟨pg,hpg⟩:∃pg,pg=k.pg:=⟨_,rfl⟩
  obtain ⟨lb,hlb⟩:∃lb,lb=k.lb:=⟨_,rfl⟩
  have HK:=Jh4 hps hpm hpg hlb;rw [<-hps];clear hps hpm hpg hlb;go_wp2_with fail
  go_loopw [32] (λ x wr=>∃i:Nat,x=.int .i64 i/\i<=n1/\Sv (λ x=>O x/\x<W.heap.size) V9 k (onP2 s zs q sl (l.take i)) i wr) (λ x _=>n1 - (intOf x).toNat)
  case atStart=>exact ⟨0,rfl,Nat.zero_le _,PS.out.1⟩
  case round=>
   obtain ⟨i,rfl,hi,sv⟩:=hrel;have hfar:Out P W wr:=sv.farP (J2 PS) (Jz3 HL) (λ x hx=>(J3 HL) x hx.1) (λ x hx=>(Jz3 HL) x ((Jz2 PS) x hx));rcases Nat.lt_or_ge i n1 with hlt | hge
   ·have hi':(i:Int)<n1:=by omega
    have hwi:IntKind.i64.wrap ((i:Int)+1)=(i:Int)+1:=by rw [IntKind.wrap_i64];omega
    obtain ⟨x,b,off,hx,hfx,rfl,y0,y1,y2,y3⟩:=(HL.out.1 wr hfar).at4 hlt;have HU:Hid (∀V c' st',Sv (λ x=>O x/\x<W.heap.size) V9 k st' c' V->V.cell? ⟨ps,2,none⟩=some (.pointer (some ⟨pm,0,none⟩))):=λ V c' st' hs=>by
     obtain ⟨D',hv,_,_⟩:=hs;rw [HK.out.1,(J2 HK)];exact hv.cells.2.2.1
    have HP:Hid (∀V g L t,Sv (λ x=>O x/\x<W.heap.size) V9 k (onP2 s zs q sl (l.take i)) i V->Blk V g L t->Calls prog 123 #[.pointer (some ⟨pm,0,none⟩),.agg #[.int .u32 x.1.1,.int .u64 x.1.2,.int .i64 x.2.1,.int .i64 x.2.2]] V λ e w'=>(∃v,e=.returned v)/\Sv (λ x=>O x/\x<W.heap.size) V9 k (onP2 s zs q sl (l.take (i+1))) (i+1) w'/\Blk w' g L t):=λ V g L t hs hg=>by
     obtain ⟨D',hv,hD',ho'⟩:=hs;rw [(J2 HK)];have g1:=hv.mp.m1.no_blk hg;have g2:=hv.mp.m2.no_blk hg;refine (Qmg k.pm k.b1 k.b2 _ i x V hv.mp hfx (by omega)).mono ?_
     rintro e w' ⟨rfl,h1,h2⟩;refine ⟨⟨_,rfl⟩,?_,h2.blk hg (λ h=>by rcases h with h | h;exact g1 h;exact g2 h)⟩
     rw [Qlq hx];exact Sv.next hD' ho' (hv.mpstep h1 h2)
    have HS:=Jh1 sv;clear sv hx hfx hfar;go_wp2_with fail
    have HA:Hid (Sv (λ x=>O x/\x<W.heap.size) V9 k (onP2 s zs q sl (l.take i)) i (wr.alloc (.cells #[.int .u32 x.1.1,.int .u64 x.1.2,.int .i64 x.2.1,.int .i64 x.2.2] 137))/\Blk (wr.alloc (.cells #[.int .u32 x.1.1,.int .u64 x.1.2,.int .i64 x.2.1,.int .i64 x.2.2] 137)) wr.heap.size [.int .u32 x.1.1,.int .u64 x.1.2,.int .i64 x.2.1,.int .i64 x.2.2] 137):=⟨HS.out.under ((Below.refl _ _).alloc (Nat.le_refl _) _),Blk.new' rfl rfl⟩
    clear HS y0 y1 y2 y3;generalize World.alloc wr _=V at HA ⊢;generalize wr.heap.size=ga at HA ⊢;have y0:V.cell? ⟨ga,0,none⟩=some (.int .u32 x.1.1):=HA.out.2.cell 0;have y1:V.cell? ⟨ga,1,none⟩=some (.int .u64 x.1.2):=HA.out.2.cell 1;have y2:V.cell? ⟨ga,2,none⟩=some (.int .i64 x.2.1):=HA.out.2.cell 2;have y3:V.cell? ⟨ga,3,none⟩=some (.int .i64 x.2.2):=HA.out.2.cell 3;have u2:=HU.out _ _ _ HA.out.1;have HP2:=HP.out V.drew ga _ _ (HA.out.1.under (Below.refl _ _).drew) HA.out.2.drew;go_region_held3 (λ Y=>Y.cell? ⟨ps,2,none⟩=some (.pointer (some ⟨pm,0,none⟩))/\Y.cell? ⟨ga,0,none⟩=some (.int .u32 x.1.1)/\Y.cell? ⟨ga,1,none⟩=some (.int .u64 x.1.2)/\Y.cell? ⟨ga,2,none⟩=some (.int .i64 x.2.1)/\Y.cell? ⟨ga,3,none⟩=some (.int .i64 x.2.2)) (first | exact ⟨u2,y0,y1,y2,y3⟩ | exact ⟨HU.out _ _ _ s7,b7.cell 0,b7.cell 1,b7.cell 2,b7.cell 3⟩)
     (first | (go_simp;go_at_call 123;refine HP2.mono ?_;rintro e w7 ⟨⟨v7,rfl⟩,s7,b7⟩))
    have H7:=Jh1 s7;clear s7 b7 y0 y1 y2 y3 u2;go_wp2
    go_roundw
    case rel=>exact ⟨i+1,by simp,by omega,H7.out⟩
    case measure=>simp [intOf];omega
   ·obtain rfl:i=n1:=by omega
    have PT:Hid (Sv (λ x=>O x/\x<W.heap.size) V9 k (onG2 s zs q sl l (f.take 0)) i wr):=by
     rw [List.take_of_length_le (by omega)] at sv;exact sv
    clear sv hfar;go_wp2_with fail
    go_loopw [45] (λ x wr=>∃j:Nat,x=.int .i64 j/\j<=n2/\Sv (λ x=>O x/\x<W.heap.size) V9 k (onG2 s zs q sl l (f.take j)) i wr) (λ x _=>n2 - (intOf x).toNat)
    case atStart=>exact ⟨0,rfl,Nat.zero_le _,PT.out⟩
    case round=>
     obtain ⟨j,rfl,hj,sv⟩:=hrel;have hfar:Out P W wr:=sv.farP (J2 PS) (Jz3 HL) (λ x hx=>(J3 HL) x hx.1) (λ x hx=>(Jz3 HL) x ((Jz2 PS) x hx));rcases Nat.lt_or_ge j n2 with hlt | hge
     ·have hj':(j:Int)<n2:=by omega
      have hwj:IntKind.i64.wrap ((j:Int)+1)=(j:Int)+1:=by rw [IntKind.wrap_i64];omega
      obtain ⟨b,off,rfl,hc⟩:=((J2 HL) wr hfar).2.2.2.resolve_left (by omega);have y0:=hc j hlt;obtain ⟨z,hz⟩:∃z,f[j]?=some z:=⟨f[j],by simp [show j<f.length by omega]⟩
      rw [show f.getD j 0=z by simp [List.getD,hz]] at y0;have u1:wr.cell? ⟨ps,1,none⟩=some (.pointer (some ⟨pg,0,none⟩)):=by obtain ⟨D',hv,_,_⟩:=sv;rw [HK.out.1,(J3 HK)];exact hv.cells.2.1
      have hnx:=Qrc (s:=s) (zs:=zs) (q:=q) (sl:=sl) (l:=l) hz;have hla:(onG2 s zs q sl l (f.take j)).la.length=(onG2 s zs q sl l (f.take j)).L.length:=by obtain ⟨D',hv,_,_⟩:=sv;have:=hv.len;omega
      by_cases h1:stZ (onG2 s zs q sl l (f.take j)).L z=1
      ·rw [if_pos h1] at hnx
       obtain ⟨m,rfl,hm⟩:∃m:Nat,z=m/\m<(onG2 s zs q sl l (f.take j)).L.length:=by
        by_cases h0:z<0\/((onG2 s zs q sl l (f.take j)).L.length:Int)<=z
        ·rw [Qey h0] at h1;cases h1
        ·exact ⟨z.toNat,by omega,by omega⟩
       rw [Int.toNat_natCast] at hnx;obtain ⟨NL,hNL⟩:∃NL,NL=(onG2 s zs q sl l (f.take j)).la.length:=⟨_,rfl⟩
       have hmN:m<NL:=by omega
       have HF:Hid (∀V,Sv (λ x=>O x/\x<W.heap.size) V9 k (onG2 s zs q sl l (f.take j)) i V->Calls prog 128 #[.pointer (some ⟨pg,0,none⟩),.int .i64 (m:Nat)] V λ e w'=>e=.returned (.bool true)/\(∃old,w'.cell? ⟨lb,m,none⟩=some (.int .u64 old))/\w'.frozen? ⟨lb,m,none⟩=false/\w'.cell? ⟨ps,4,none⟩=some (.slice (some ⟨lb,0,none⟩) NL NL)/\Sv (λ x=>O x/\x<W.heap.size) V9 k (onG2 s zs q sl l (f.take (j+1))) i (w'.setCell ⟨lb,m,none⟩ (.int .u64 q))):=λ V hs=>by
        obtain ⟨D',hv,hD',ho'⟩:=hs;rw [HK.out.1,(J3 HK),(Jz3 HK)];refine (Qnb k.pg k.gg _ _ m V hv.sg).mono ?_
        rintro e w' ⟨rfl,k1,k2⟩;rw [decide_eq_true h1];obtain ⟨D5,hv5,hD5,ho5⟩:=Sv.next hD' ho' (hv.sgstep k1 k2 (Qbz _ _ _ _));refine ⟨rfl,⟨(onG2 s zs q sl l (f.take j)).la[m],?_⟩,hv5.hl.frozen _,by rw [hNL];exact hv5.cells.2.2.2.2.1,?_⟩
        ·have:=hv5.hl.cell m
         rw [this];show (Qaj .u64 (onG2 s zs q sl l (f.take j)).la)[m]?=_;simp [Qaj,show m<(onG2 s zs q sl l (f.take j)).la.length by omega]
        ·rw [hnx]
         exact Sv.next hD5 ho5 (hv5.setLa m q)
       have HS:=Jh1 sv;clear sv hfar hc hz h1 hm hla hnx hNL;go_wp2_with (go_at_call 128;refine (HF.out _ HS.out).mono ?_;rintro e w7 ⟨rfl,⟨old,g1⟩,g2,g3,s7⟩;have H7:=Jh1 s7;clear s7)
       all_goals (
        go_roundw
        case rel=>exact ⟨j+1,by simp,by omega,H7.out⟩
        case measure=>simp [intOf];omega)
      ·rw [if_neg h1] at hnx
       have HF:Hid (∀V,Sv (λ x=>O x/\x<W.heap.size) V9 k (onG2 s zs q sl l (f.take j)) i V->Calls prog 128 #[.pointer (some ⟨pg,0,none⟩),.int .i64 z] V λ e w'=>e=.returned (.bool false)/\Sv (λ x=>O x/\x<W.heap.size) V9 k (onG2 s zs q sl l (f.take (j+1))) i w'):=λ V hs=>by
        obtain ⟨D',hv,hD',ho'⟩:=hs;rw [(J3 HK)];refine (Qnb k.pg k.gg _ _ z V hv.sg).mono ?_
        rintro e w' ⟨rfl,k1,k2⟩;rw [decide_eq_false h1];refine ⟨rfl,?_⟩
        rw [hnx];exact Sv.next hD' ho' (hv.sgstep k1 k2 (Qbz _ _ _ _))
       have HS:=Jh1 sv;clear sv hfar hc hz h1 hla hnx;go_wp2_with (go_at_call 128;refine (HF.out _ HS.out).mono ?_;rintro e w7 ⟨rfl,s7⟩;have H7:=Jh1 s7;clear s7)
       all_goals (
        go_roundw
        case rel=>exact ⟨j+1,by simp,by omega,H7.out⟩
        case measure=>simp [intOf];omega)
     ·obtain rfl:j=n2:=by omega
      have PU:Hid (Sv (λ x=>O x/\x<W.heap.size) V9 k (onG2 s zs q sl l f) i wr):=by
       rw [List.take_of_length_le (by omega)] at sv;exact sv
      clear sv hfar;go_wp2
      go_ret
      exact ⟨k,V9,by rw [<-HK.out.1];rfl,(J2 PS),PU.out,(Jz2 PS)⟩
end Go.Proofs.YtcdnjeiamihhbaaGreat
namespace Go.Proofs.YtcdnjeiamihhbaaGreat
open Go.RowKit Go.Sort Go.Lib Go.Shelf
theorem Qz4 (bs:List Int):(decX bs).length<=214:=by
 unfold decX;split
 ·rename_i h
  exact h.1.bounds.2.2.2.1
 ·simp
theorem Qgs {zs:List Zn} {z:Int}:∀(f i j:Nat),j∈Qe6 zs z f i->j<(atZ zs z).1.length/\∃e,Qbe zs z j=some e
 | 0,i,j,h=>by simp [Qe6] at h
 | f+1,i,j,h=>by
  cases he:Qbe zs z i with
  | none=>rw [Qga he] at h;simp at h
  | some e=>
   rw [Qfn he] at h;rcases List.mem_cons.1 h with rfl | h
   ·obtain ⟨_,_,_,_,h4⟩:=Qdj he
    exact ⟨h4,e,he⟩
   ·exact Qgs f e j h
theorem Qgd {zs:List Zn} {q:Int}:∀{k:Nat} {x:Int × Int × Int},x∈Qa4 zs q k->∃z b:Nat,x=(decS (elB zs (z:Nat) b),(z:Int),(b:Int))/\2<=z/\z<k/\b∈Qay zs (z:Nat)/\q<decS (elB zs (z:Nat) b):=by
 intro k x hx;induction k with
 | zero=>simp [Qa4] at hx
 | succ k ih=>
  by_cases h2:2<=k
  ·rw [Qbp h2] at hx
   rcases List.mem_append.1 hx with h | h
   ·obtain ⟨z,b,e,h1,h3,h4⟩:=ih h
    exact ⟨z,b,e,h1,by omega,h4⟩
   ·unfold Qb1 at h
    obtain ⟨b,hb,rfl⟩:=List.mem_map.1 h;obtain ⟨hb1,hb2⟩:=List.mem_filter.1 hb;exact ⟨k,b,rfl,h2,by omega,hb1,by simpa using hb2⟩
  ·have e:Qa4 zs q (k+1)=Qa4 zs q k:=by
    show (if _ then _ else _)=_;rw [if_neg h2]
   rw [e] at hx;obtain ⟨z,b,e,h1,h3,h4⟩:=ih hx;exact ⟨z,b,e,h1,by omega,h4⟩
theorem Q3n {s:Sh} {zs:List Zn} {q:Int} (hw:Wf s zs) {W:World} {b1 b2:Nat} {l:List Fo} (hp:(l.map foK).Perm (Qa4 zs q zs.length)) {f:Fo} (hf:f∈l) (hi:ItsIn W f.a f.m (foX zs f)) (hne:f.m≠0->∀y,f.a.map (·.block)=some y->y≠b1/\y≠b2):FoOk W b1 b2 (foX zs) f:=by
 obtain ⟨z,b,e,h1,h2,h3,h4⟩:=Qgd (hp.mem_iff.1 (List.mem_map_of_mem hf));have hz6:zs.length<=256:=by have h1:=hw.len;have h2:=hw.right.2.1;omega
 have hl:=Qgs _ _ _ h3;have hzz:=hw.zone (zs[z]) (List.getElem_mem h2);have h5:(atZ zs (z:Int)).1=(zs[z]).1:=by
  unfold atZ;rw [if_pos (by omega)];simp [List.getD,h2]
 have h6:=hzz.1;have h7:=hw.right.2.2.2.1;rw [h5] at hl;obtain ⟨fs,fa,fm,fc,fz,fb⟩:=f;simp only [foK,Prod.mk.injEq] at e
 obtain ⟨e1,rfl,rfl⟩:=e;exact ⟨⟨z,rfl,by omega⟩,⟨b,rfl,by have:=hl.1;omega⟩,by have h8:(foX zs ⟨fs,fa,fm,fc,z,b⟩).length=fm:=hi.1;have h9:(foX zs ⟨fs,fa,fm,fc,z,b⟩).length<=214:=Qz4 _;show fm<=220;omega,hi,hne⟩
theorem Dv.bytes {T:TypeId} {O:Nat->Prop} {W:World} {p:Nat} {s:Sh} {zs:List Zn} (h:Dv T O W p s zs):∀z∈zs,∀D∈z.1,∀b∈D,Qaf b:=by
 intro z hz D hD b hb;obtain ⟨g,c,vs,h⟩:=h;obtain ⟨i,hi⟩:=List.getElem?_of_mem hz;obtain ⟨j,hj⟩:=List.getElem?_of_mem hD;have hil:=(List.getElem?_eq_some_iff.1 hi).1;obtain ⟨u,hu⟩:∃u,vs[i]?=some u:=⟨vs[i]'(by rw [h.vl];exact hil),by simp [h.vl,hil]⟩
 obtain ⟨ws,_,_,hb2,_⟩:=h.rows i u z hu hi;have hjl:=(List.getElem?_eq_some_iff.1 hj).1;obtain ⟨y,hy⟩:∃y,ws[j]?=some y:=⟨ws[j]'(by rw [hb2.1];exact hjl),by simp [hb2.1,hjl]⟩
 exact (hb2.2 j y D hy hj).2.2.1 b hb
theorem Dv.blk_bytes {T:TypeId} {O:Nat->Prop} {W:World} {p:Nat} {s:Sh} {zs:List Zn} (h:Dv T O W p s zs) {a:Pr} {E:List Int} (he:blkZ zs a=some E):∀b∈E,Qaf b:=by
 obtain ⟨i,j,z,rfl,hz,hj⟩:=Qct he;exact h.bytes z (List.mem_of_getElem? hz) E (List.mem_of_getElem? hj)
theorem Qmz {T:TypeId} {O:Nat->Prop} {W:World} {p:Nat} {s:Sh} {zs:List Zn} (h:Dv T O W p s zs) (z:Int) (i:Nat):∀b∈elB zs z i,Qaf b:=by
 unfold elB;cases hr:recB zs (z,(i:Int)) with
 | none=>simp
 | some E=>exact h.blk_bytes (Qgc hr).1
theorem Qhr {T:TypeId} {O:Nat->Prop} {W:World} {p:Nat} {s:Sh} {zs:List Zn} (h:Dv T O W p s zs):∀k,Qai (Qa2 s zs k).1
 | 0=>by show Qai 0;unfold Qai;omega
 | k+1=>by
  show Qai (Qbo s (Qa2 s zs k) (zs.getD k ([],0)).1 (k:Int)).1;unfold Qbo;split
  ·refine Qec _ (λ b hb=>?_)
   rcases Nat.lt_or_ge k zs.length with hk | hk
   ·rw [show zs.getD k ([],0)=zs[k] by simp [List.getD,hk]] at hb
    exact h.bytes _ (List.getElem_mem hk) b hb
   ·rw [show zs.getD k ([],0)=([],0) by simp [List.getD,List.getElem?_eq_none hk]] at hb
    simp at hb
  ·exact Qhr h k
theorem Qg5 (s:Sh) (zs:List Zn):∀k,(Qa2 s zs k).2.2.2=0->∃j:Nat,j<k/\(Qa2 s zs k).2.2.1=j
 | 0,h=>by exact absurd h (by show ¬(142:Int)=0;omega)
 | k+1,h=>by
  have e:Qa2 s zs (k+1)=Qbo s (Qa2 s zs k) (zs.getD k ([],0)).1 (k:Int):=rfl;rw [e] at h ⊢;unfold Qbo at h ⊢;split
  ·exact ⟨k,by omega,rfl⟩
  ·rename_i hn
   rw [if_neg hn] at h;obtain ⟨j,hj,he⟩:=Qg5 s zs k h;exact ⟨j,by omega,he⟩
theorem Qjm:∀(l P:List Pl),Good P->(∀x∈l,Qdu x)->Good (l.foldl putS P)/\(l.foldl putS P).length<=P.length+l.length
 | [],P,h,_=>⟨h,Nat.le_refl _⟩
 | x :: l,P,h,hf=>by
  obtain ⟨h1,h2⟩:=Qjm l (putS P x) (h.put (hf x (by simp))) (λ y hy=>hf y (by simp [hy]));have h3:=Qgx h x;refine ⟨h1,?_⟩
  show (l.foldl putS (putS P x)).length<=_;rw [List.length_cons];omega
theorem Qgj (zs:List Zn) (l:List Pl) (hf:∀x∈l,Qdu x):Good (Qbn zs l)/\(Qbn zs l).length<=l.length:=by
 have:∀(l P:List Pl),Good P->(∀x∈l,Qdu x)->Good (l.foldl (λ S x=>if (blkZ zs x.2).isSome=true then putS S x else S) P)/\(l.foldl (λ S x=>if (blkZ zs x.2).isSome=true then putS S x else S) P).length<=P.length+l.length:=by
  intro l;induction l with
  | nil=>intro P h _;exact ⟨h,Nat.le_refl _⟩
  | cons x l ih=>
   intro P h hf;rw [List.length_cons,List.foldl_cons];split
   ·obtain ⟨h1,h2⟩:=ih (putS P x) (h.put (hf x (by simp))) (λ y hy=>hf y (by simp [hy]))
    have h3:=Qgx h x;exact ⟨h1,by omega⟩
   ·obtain ⟨h1,h2⟩:=ih P h (λ y hy=>hf y (by simp [hy]))
    exact ⟨h1,by omega⟩
 have:=this l [] good_nil hf;unfold Qbn;refine ⟨this.1,?_⟩
 have h2:=this.2;simp only [List.length_nil] at h2
 omega
theorem Qi4 {z:Nat} (hz:z<=10000):∀(X:List It) (b:Nat) (P:List Pl),Good P->(∀x∈X,x.Fits)->b+X.length<=20000->Good (entS (z:Int) P (b:Int) X)/\(entS (z:Int) P (b:Int) X).length<=P.length+X.length
 | [],b,P,h,_,_=>⟨h,Nat.le_refl _⟩
 | x :: X,b,P,h,hf,hb=>by
  have hx:=hf x (by simp);rw [List.length_cons] at hb ⊢;by_cases hk:x.k=2
  ·rw [Qip hk]
   obtain ⟨h1,h2⟩:=Qi4 hz X b (Qax P (x.t,x.b)) (h.drop _) (λ y hy=>hf y (by simp [hy])) (by omega);have h3:(Qax P (x.t,x.b)).length<=P.length:=List.length_filter_le _ _;exact ⟨h1,by omega⟩
  ·rw [Qmi hk]
   have hp:Qdu ((x.t,x.b),((z:Int),(b:Int)+1)):=⟨⟨hx.1,hx.2.1⟩,by show Qj8 _;unfold Qj8 I64;constructor <;> simp only <;> constructor <;> omega⟩
   obtain ⟨h1,h2⟩:=Qi4 hz X (b+1) (putS P ((x.t,x.b),((z:Int),(b:Int)+1))) (h.put hp) (λ y hy=>hf y (by simp [hy])) (by omega);have h3:=Qgx h ((x.t,x.b),((z:Int),(b:Int)+1));push_cast at h1 h2
   exact ⟨h1,by omega⟩
theorem Qis {X:Fo->List It} {N:Nat} (hN:N<=220):∀(l:List Fo) (q:Int) (P:List Pl),Good P->(∀f∈l,(∃z:Nat,f.z=z/\z<=10000)/\(∃b:Nat,f.b=b/\b<=10000)/\(X f).length<=N/\∀x∈X f,x.Fits)->Good (folS X q P l)/\(folS X q P l).length<=P.length+N*l.length
 | [],q,P,h,_=>⟨h,by show P.length<=_;omega⟩
 | f :: l,q,P,h,hf=>by
  rw [List.length_cons];by_cases h1:f.s=q
  ·rw [Qex h1]
   obtain ⟨a,b⟩:=Qis hN l q P h (λ y hy=>hf y (by simp [hy]));exact ⟨a,by rw [Nat.mul_add];omega⟩
  ·by_cases h2:f.s=IntKind.u64.wrap (q+1)
   ·rw [Qdz h1 h2]
    obtain ⟨⟨z,hz,hz2⟩,⟨b,hb,hb2⟩,hl,hx⟩:=hf f (by simp);rw [hz,hb];obtain ⟨g1,g2⟩:=Qi4 hz2 (X f) b P h hx (by omega);obtain ⟨a,c⟩:=Qis hN l (IntKind.u64.wrap (q+1)) _ g1 (λ y hy=>hf y (by simp [hy]));exact ⟨a,by rw [Nat.mul_add];omega⟩
   ·rw [Qe8 h1 h2]
    exact ⟨h,by omega⟩
theorem Qfd (zs:List Zn):∀k,∀z∈Qal zs k,∃i:Nat,z=i/\2<=i/\i<k
 | 0,z,h=>by simp [Qal] at h
 | k+1,z,h=>by
  by_cases h2:2<=k
  ·by_cases h3:0<(atZ zs (k:Nat)).1.length
   ·rw [Qhc h2 h3] at h
    rcases List.mem_append.1 h with h | h
    ·obtain ⟨i,a,b,c⟩:=Qfd zs k z h
     exact ⟨i,a,b,by omega⟩
    ·simp at h
     exact ⟨k,h,h2,by omega⟩
   ·rw [Qjd (by omega)] at h
    obtain ⟨i,a,b,c⟩:=Qfd zs k z h;exact ⟨i,a,b,by omega⟩
  ·have e:Qal zs (k+1)=[]:=by
    rcases (show k=0\/k=1 by omega) with rfl | rfl
    ·have:=Qdb zs 2
     show (if _ then _ else _)=_;simp [Qal]
    ·exact Qfg zs
   rw [e] at h;simp at h
theorem Qkw {q:Int} (hq:Qai q) {l:List Fo} (hl:∀f∈l,Qai f.s):Qai (Qcc q l):=by
 unfold Qcc;cases h:l.getLast? with
 | none=>exact hq
 | some f=>exact hl f (List.mem_of_getLast? h)
section
theorem NIn.cells {k:IntKind} {w w':World} {a:Option Addr} {n:Nat} {xs:List Int} (h:NIn k w a n xs) (hc:∀b o v,a.map (·.block)=some b->w.cell? ⟨b,o,none⟩=some v->w'.cell? ⟨b,o,none⟩=some v):NIn k w' a n xs:=by
 obtain ⟨h1,h2,h3,h4⟩:=h;refine ⟨h1,h2,h3,?_⟩
 rcases h4 with h4 | ⟨b,off,rfl,h4⟩
 ·exact .inl h4
 ·exact .inr ⟨b,off,rfl,λ i hi=>hc b _ _ rfl (h4 i hi)⟩
def SmD (s:Sh):Prop:=s.z<=12/\s.zb<=16/\s.b<=128
instance (s:Sh):Decidable (SmD s):=by unfold SmD;infer_instance
variable {s:Sh} {zs:List Zn}
theorem Qj0 (hw:Wf s zs) (hs:SmD s) (z:Int):(atZ zs z).1.length<=16:=by
 unfold atZ;split
 ·rcases Nat.lt_or_ge z.toNat zs.length with h | h
  ·rw [show zs.getD z.toNat ([],0)=zs[z.toNat] by simp [List.getD,h]]
   have:=(hw.zone _ (List.getElem_mem h)).1;have:=hs.2.1;omega
  ·rw [show zs.getD z.toNat ([],0)=([],0) by simp [List.getD,List.getElem?_eq_none h]]
   simp
 ·simp
theorem Qgt (hw:Wf s zs) (hs:SmD s) (q:Int):∀k,(Qa4 zs q k).length<=16*k
 | 0=>by simp [Qa4]
 | k+1=>by
  have h1:=Qgt hw hs q k;by_cases h2:2<=k
  ·rw [Qbp h2,List.length_append]
   have h3:(Qb1 zs q k (Qay zs (k:Nat))).length<=(Qay zs (k:Nat)).length:=by
    unfold Qb1;rw [List.length_map];exact List.length_filter_le _ _
   have h4:(Qay zs (k:Nat)).length<=(atZ zs (k:Nat)).1.length:=Qd0 zs (k:Nat) _ _;have h5:=Qj0 hw hs (k:Nat);omega
  ·have e:Qa4 zs q (k+1)=Qa4 zs q k:=by
    show (if _ then _ else _)=_;rw [if_neg h2]
   rw [e];omega
theorem Qno (hw:Wf s zs) (hs:SmD s) (q:Int):(Qa4 zs q zs.length).length<=192:=by
 have h1:=Qgt hw hs q zs.length;have h2:=hw.len;have h3:=hs.1;omega
theorem Qjv (hw:Wf s zs) (hs:SmD s):∀k,(Qa2 s zs k).2.1.length<=112
 | 0=>by show ([]:List Pl).length<=112;simp
 | k+1=>by
  show (Qbo s (Qa2 s zs k) (zs.getD k ([],0)).1 (k:Int)).2.1.length<=112;unfold Qbo;split
  ·rename_i h
   obtain ⟨⟨h1,h2⟩,_⟩:=h;obtain ⟨hg,hm⟩:=Qb2.1 h1;have hr:0<Qbl s/\Qbl s<=7:=by
    have hp:=hw.right.2.2.2.2.1;have hb:=hs.2.2;unfold Qbl Qdx;rw [if_pos (by simp [Powers,PowR] at hp ⊢;omega)];have:=Qbd hp;omega
   have h3:=Qen (r:=Qbl s) (n:=(Qaw (zs.getD k ([],0)).1).length) hr.1;have h4:mK s (Qaw (zs.getD k ([],0)).1)<=16:=by have:=hs.2.1;omega
   have h5:mK s (Qaw (zs.getD k ([],0)).1)*Qbl s<=16*7:=Nat.mul_le_mul h4 hr.2;have h6:Qd4 (Qbl s) (Qaw (zs.getD k ([],0)).1).length=mK s (Qaw (zs.getD k ([],0)).1):=rfl;rw [h6] at h3;exact Nat.le_trans h3 (Nat.le_trans h5 (by decide))
  ·exact Qjv hw hs k
theorem Qnz {bs:List Int} (h:bs.length<=128):(decX bs).length<=5:=by
 unfold decX;split
 ·rename_i hr
  have h1:=hr.bounds;have hl:(Qb8 bs).length=(rdN bs).toNat:=Qff _ _;omega
 ·simp
theorem Qu6 (hw:Wf s zs) (hs:SmD s) (z:Int) (i:Nat):(elB zs z i).length<=128:=by
 unfold elB;cases hr:recB zs (z,(i:Int)) with
 | none=>simp
 | some E=>
  obtain ⟨i',j,zn,e1,hz,hj⟩:=Qct (Qgc hr).1;have h1:=(hw.zone zn (List.mem_of_getElem? hz)).2.2.2 E (List.mem_of_getElem? hj);have h2:=hs.2.2;show E.length<=128;omega
end
end Go.Proofs.YtcdnjeiamihhbaaGreat
