/- P3 -/
import Derived.Test.YtcdnjeiamihhbaaGreatP2
set_option linter.unusedVariables false
set_option maxRecDepth 4000
open Go.Proofs.Tryz
namespace Go.Proofs.YtcdnjeiamihhbaaGreat
open Go.RowKit Go.Shelf
section
attribute [local go_sem] Oper.semAt_some
def Qf4 (a:Option Addr) (c k:Nat):Option Addr:=if c=k then a else a.map (·.add k)
def Qji (a:Option Addr):Nat->Prop:=λ x=>∃ad,a=some ad/\ad.block=x
structure CrSt (w:World) (O:Nat->Prop) (q:Nat) (a:Option Addr) (n c dn:Nat) (vs rest:List Value) (bs:List (List Int)) (k t:Int) (j s:Nat) (W:World):Prop where
 out:Out (Qji a) w W
 z:Blk W q [.slice a n c,.int .i64 dn] 91
 r:Blk W (q+2) [.slice none 0 0,.int .i64 0] 91
 g:Blk W (q+3) [.slice a (dn+j) c] 74
 l:Blk W (q+4) [.int .i64 (kst k t s).1,.int .i64 (kst k t s).2] 121
 b1:Blk W (q+5) [.slice (Qf4 a c dn) (n - dn) (c - dn)] 74
 b2:Blk W (q+6) [.func (.func 188) #[] #[.pointer (some ⟨q+4,0,none⟩)]] 172
 row:∃hs,hs.length=dn+j/\Arr W a c (hs ++ (vs.drop (dn+j) ++ rest))/\BsAt O W hs (bs.take dn ++ kRes (bs.drop dn) k t j)
 old:BsAt O W vs bs
section
variable {w:World} {O:Nat->Prop} {q:Nat} {a:Option Addr} {n c dn:Nat} {vs rest:List Value} {bs:List (List Int)} {k t:Int} {j s:Nat} {W W':World}
theorem Arr.out {S:Nat->Prop} {L:List Value} (h:Arr W a c L) (ho:Out S W W') (hS:∀x,S x->¬Qji a x):Arr W' a c L:=by
 rcases h with h | ⟨r,rfl,hr,h⟩
 ·exact .inl h
 ·exact .inr ⟨r,rfl,ho.blk hr (λ e=>hS r e ⟨_,rfl,rfl⟩),h⟩
theorem CrSt.under (h:CrSt w O q a n c dn vs rest bs k t j s W) (hb:Below W.heap.size W W'):CrSt w O q a n c dn vs rest bs k t j s W':=by
 have ho:=Qab Non hb;obtain ⟨hs,h1,h2,h3⟩:=h.row;exact ⟨h.out.under hb,ho.blk h.z id,ho.blk h.r id,ho.blk h.g id,ho.blk h.l id,ho.blk h.b1 id,ho.blk h.b2 id,⟨hs,h1,h2.out ho (λ _ e=>e.elim),h3.out ho (λ _ _ _ _=>id)⟩,h.old.out ho (λ _ _ _ _=>id)⟩
theorem CrSt.calm {l:Nat} (h:CrSt w O q a n c dn vs rest bs k t j s W) (hc:Calm l W W') (hl:w.heap.size<=l):CrSt w O q a n c dn vs rest bs k t j s W':=by
 obtain ⟨hs,h1,h2,h3⟩:=h.row;refine ⟨hc.out h.out hl,hc.blk h.z,hc.blk h.r,hc.blk h.g,hc.blk h.l,hc.blk h.b1,hc.blk h.b2,⟨hs,h1,?_,hc.bs h3⟩,hc.bs h.old⟩
 rcases h2 with h2 | ⟨r,rfl,hr,h2⟩
 ·exact .inl h2
 ·exact .inr ⟨r,rfl,hc.blk hr,h2⟩
theorem Qmk {V:World} {g:Nat} {L:List Value} {t:TypeId} (hg:Blk V g L t) (h2:t≠5) {S:Nat->Prop} {V':World} (ho:Out S V V') (hS:∀x,S x->x=g) {us:List Value} {bs:List (List Int)} (h:BsAt O V us bs):BsAt O V' us bs:=
 h.out ho (λ c cur _ hc e=>by
  have:=hS c e;subst this;have:some (Obj.cells L.toArray t (0,0))=some (Obj.cells cur 5 (0,0)):=(show V.heap[c]?=_ from hg).symm.trans hc;simp at this
  exact h2 this.2)
theorem Qp1 {V:World} {g:Nat} {L L':List Value} {t:TypeId} (hg:Blk V g L t) (ht:t≠71) (h:Arr V a c L'):¬Qji a g:=by
 rintro ⟨ad,rfl,e⟩;rcases h with ⟨h,_⟩ | ⟨r,h,hr,_⟩
 ·cases h
 ·cases h
  subst e;exact Qbq hg hr ht rfl
theorem CrSt.loss (h:CrSt w O q a n c dn vs rest bs k t j s W) (hw:w.heap.size<=q) (ho:Out (λ x=>x=q+4) W W') (hl:Blk W' (q+4) [.int .i64 (kst k t (s+1)).1,.int .i64 (kst k t (s+1)).2] 121):CrSt w O q a n c dn vs rest bs k t j (s+1) W':=by
 obtain ⟨hs,h1,h2,h3⟩:=h.row;refine ⟨h.out.trans ho (λ x e=>.inr (by omega)),ho.blk h.z (by omega),ho.blk h.r (by omega),ho.blk h.g (by omega),hl,ho.blk h.b1 (by omega),ho.blk h.b2 (by omega),⟨hs,h1,h2.out ho (λ x e=>?_),Qmk h.l (by decide) ho (λ _ e=>e) h3⟩,Qmk h.l (by decide) ho (λ _ e=>e) h.old⟩
 subst e;exact Qp1 h.l (by decide) h2
theorem Q1w {α:Type} (hs:List α) (x v:α) (ds:List α) {m:Nat} (hm:hs.length=m):(hs ++ v :: ds).set m x=(hs ++ [x]) ++ ds:=by
 subst hm;rw [List.set_append_right _ _ (Nat.le_refl _)];simp
theorem CrSt.app {R:Loop} {l:Nat} {D:List Int} {x:Value} (h:CrSt w O q a n c dn vs rest bs k t j s W) (hw:w.heap.size<=q) (hbk:Book R l W) (hvs:vs.length=n) (hbs:bs.length=n) (hj:dn+j<n) (hnc:n<=c) (hD:(bs.drop dn)[j]?=some D)
  (hx:BkAt O W x (Qft D (kFit (bs.drop dn) k t j))) (h1:x.oneCell'=true) :
  ∃r,a=some ⟨r,0,none⟩/\Blk (W.alloc (.cells #[x] 71)) (q+3) [.slice a (dn+j) c] 74/\
   (Builtin.append_ #[74,74] 74 #[.slice a (dn+j) c,.slice (some ⟨W.heap.size,0,none⟩) 1 1]).run prog (W.alloc (.cells #[x] 71))=.ok (.slice a (dn+(j+1)) c) ((W.alloc (.cells #[x] 71)).setCell ⟨r,dn+j,none⟩ x)/\
   (((W.alloc (.cells #[x] 71)).setCell ⟨r,dn+j,none⟩ x).cell? ⟨q+3,0,none⟩=some (.slice a (dn+j) c))/\(((W.alloc (.cells #[x] 71)).setCell ⟨r,dn+j,none⟩ x).frozen? ⟨q+3,0,none⟩=false)/\
   CrSt w O q a n c dn vs rest bs k t (j+1) s ((((W.alloc (.cells #[x] 71)).setCell ⟨r,dn+j,none⟩ x)).setCell ⟨q+3,0,none⟩ (.slice a (dn+(j+1)) c))/\
   Book R l ((((W.alloc (.cells #[x] 71)).setCell ⟨r,dn+j,none⟩ x)).setCell ⟨q+3,0,none⟩ (.slice a (dn+(j+1)) c)):=by
 have h':=h.under (((Below.refl _ _).alloc (Nat.le_refl _) (.cells #[x] 71)):Below W.heap.size W (W.alloc (.cells #[x] 71)));have hx':BkAt O (W.alloc (.cells #[x] 71)) x _:=hx.out (Qab Non ((Below.refl _ _).alloc (Nat.le_refl _) _)) (λ _ _ _ _=>id);have hc0:(W.alloc (.cells #[x] 71)).cell? ⟨W.heap.size,0,none⟩=some x:=by rw [World.cell?_alloc_mark];rfl
 have hb':=hbk.below ((Below.refl _ _).alloc (Nat.le_refl _) (.cells #[x] 71));generalize hV:W.alloc (.cells #[x] 71)=V at *;obtain ⟨hs,e1,e2,e3⟩:=h'.row;obtain ⟨v0,hv0⟩:∃v,vs.drop (dn+j)=v :: vs.drop (dn+(j+1)):=⟨vs[dn+j]'(by omega),by rw [List.drop_eq_getElem_cons (by omega)];rfl⟩
 rcases e2 with ⟨_,hc,_⟩ | ⟨r,rfl,hr,hlen,hcm⟩
 ·omega
 have hrq:r≠q+3:=Qbq hr h'.g (by decide);obtain ⟨i0,hi,hz0,hz1,hz2⟩:=info_parts Tryz.zero_bytes;have hrun:=run_append_room_cells (P:=prog) V 74 74 71 i0 Tryz.underlying74 hi r 0 (dn+j) c ⟨W.heap.size,0,none⟩ 1 1 [x] (by rw [hz1];rfl) (by
  intro i u hi;match i,hi with
  | 0,hi=>
   simp at hi
   subst hi;exact hc0) (by intro u hu;simp at hu;subst hu;exact h1) (by omega) (by
  intro i hi;have:i=0:=by simpa using hi
  subst this;rw [hz1,hr.cell];simp
  simp [hv0] at hlen
  omega) (by intro i hi;exact hr.frozen _)
 rw [hz1] at hrun;have eset:V.setCells r (0+(dn+j)*1) [x]=V.setCell ⟨r,dn+j,none⟩ x:=by simp [World.setCells]
 rw [eset] at hrun;have hr2:=hr.set (dn+j) x;rw [hv0,List.cons_append,Q1w hs x v0 _ e1] at hr2;have g2:=h'.g.set_other (a:=⟨r,dn+j,none⟩) (λ e=>hrq e.symm) x;have hr3:=hr2.set_other (a:=⟨q+3,0,none⟩) hrq (.slice (some ⟨r,0,none⟩) (dn+(j+1)) c);have ho2:Out (λ y=>y=r) V (V.setCell ⟨r,dn+j,none⟩ x):=Qc1 _ _ _ _;have ho3:Out (λ y=>y=q+3) (V.setCell ⟨r,dn+j,none⟩ x) ((V.setCell ⟨r,dn+j,none⟩ x).setCell ⟨q+3,0,none⟩ (.slice (some ⟨r,0,none⟩) (dn+(j+1)) c)):=Qc1 _ _ _ _;have keep:∀{g:Nat} {L:List Value} {ty:TypeId},Blk V g L ty->ty≠71->g≠q+3->Blk ((V.setCell ⟨r,dn+j,none⟩ x).setCell ⟨q+3,0,none⟩ (.slice (some ⟨r,0,none⟩) (dn+(j+1)) c)) g L ty:=λ hb ht hn=>ho3.blk (ho2.blk hb (Qbq hb hr ht)) hn
 have kb:∀{us:List Value} {cs:List (List Int)},BsAt O V us cs->BsAt O ((V.setCell ⟨r,dn+j,none⟩ x).setCell ⟨q+3,0,none⟩ (.slice (some ⟨r,0,none⟩) (dn+(j+1)) c)) us cs:=λ hb=>Qmk g2 (by decide) ho3 (λ _ e=>e) (Qmk hr (by decide) ho2 (λ _ e=>e) hb)
 have gd:(bs.drop dn).getD j []=D:=by simp [List.getD,hD]
 refine ⟨r,rfl,h'.g,hrun,g2.cell 0,g2.frozen 0,⟨?_,keep h'.z (by decide) (by omega),keep h'.r (by decide) (by omega),g2.set 0 _,keep h'.l (by decide) (by omega),keep h'.b1 (by decide) (by omega),keep h'.b2 (by decide) (by omega),⟨hs ++ [x],by simp [e1];omega,.inr ⟨r,rfl,hr3,?_,hcm⟩,?_⟩,kb h'.old⟩,Qg2 (Qg2 hb' hr _ _) g2 _ _⟩
 ·exact (h'.out.trans ho2 (λ y e=>.inl ⟨_,rfl,e.symm⟩)).trans ho3 (λ y e=>.inr (by omega))
 ·rw [<-hlen,hv0];simp
 ·rw [Qnd,gd,<-List.append_assoc]
  exact kb (e3.snoc hx')
end
theorem Tryz.zeroValue_bytes:∀w,(zeroValue 71).run prog w=.ok (.slice none 0 0) w:=λ _=>by kernel_rfl
theorem Qwp {W:World} {a:Option Addr} {n c m:Nat} {L:List Value} (h:Arr W a c L) (hm:m<=n) (hn:n<=c) :
  ∃W',(∀ty,(Builtin.clear_ #[74] ty #[.slice (Qf4 a c m) (n - m) (c - m)]).run prog W=.ok (.tuple #[]) W')/\Out (Qji a) W W'/\∃L',Arr W' a c (L.take m ++ L'):=by
 rcases Nat.eq_zero_or_pos (n - m) with h0 | h0
 ·refine ⟨W,λ ty=>?_,Out.refl _ _,L.drop m,by rw [List.take_append_drop];exact h⟩
  rw [h0];cases Qf4 a c m <;> simp [Builtin.clear_,run_underlying Tryz.underlying74]
 ·rcases h with ⟨_,hc,_⟩ | ⟨r,rfl,hr,hl,hcm⟩
  ·omega
  ·have hb:Qf4 (some ⟨r,0,none⟩) c m=some ⟨r,m,none⟩:=by
    unfold Qf4;rw [if_neg (by omega)];show some ((⟨r,0,none⟩:Addr).add m)=_;rw [Addr.add_mid,Nat.zero_add]
   rw [hb];refine ⟨_,λ ty=>Lib.run_clear_slice W 74 71 ty (.slice none 0 0) Tryz.underlying74 Tryz.zeroValue_bytes rfl rfl r m (n - m) (c - m) h0 (λ j hj=>?_) (λ j _=>hr.frozen _),?_,?_⟩
   ·rw [hr.cell,List.getElem?_eq_getElem (by omega)];rfl
   ·have:∀(xs:List Value) (o:Nat) (V:World),Out (Qji (some ⟨r,0,none⟩)) W V->Out (Qji (some ⟨r,0,none⟩)) W (V.setCells r o xs):=by
     intro xs;induction xs with
     | nil=>intro o V h;exact h
     | cons x xs ih=>intro o V h;exact ih (o+1) _ (h.setCell (p:=⟨r,o,none⟩) (.inl ⟨_,rfl,rfl⟩) x)
    exact this _ _ _ (Out.refl _ _)
   ·have hs:=Blk.setCells (List.replicate (n - m) (Value.slice none 0 0)) m W L hr (by simp;omega)
    refine ⟨List.replicate (n - m) (Value.slice none 0 0) ++ L.drop (m+(n - m)),.inr ⟨r,rfl,?_,?_,hcm⟩⟩
    ·rw [splice,List.length_replicate] at hs;exact hs
    ·simp;omega
theorem BIn.other {W W':World} {S:Nat->Prop} {a:Option Addr} {n:Nat} {D:List Int} (h:BIn W a n D) (ho:Out S W W') (hS:∀x,S x->∀i z,W.cell? ⟨x,i,none⟩≠some (.int .u8 z)):BIn W' a n D:=by
 obtain ⟨h1,h2,h3,h4⟩:=h;refine ⟨h1,h2,h3,?_⟩
 rcases h4 with h4 | ⟨b,off,ha,hc⟩
 ·exact .inl h4
 ·exact .inr ⟨b,off,ha,λ i hi=>ho.cell (hc i hi) (λ e=>hS b e _ _ (hc i hi))⟩
end
attribute [local go_sem] Oper.semAt_some
def Qwt (w:World) (O:Nat->Prop) (a:Option Addr) (c:Nat) (bs:List (List Int)) (dn:Nat) (k t:Int) (e:Ending) (w':World):Prop:=
 e=.returned (.agg #[.slice a (Qck bs dn k t).length c,.int .i64 ((Qck bs dn k t).length:Nat)])/\RowAt (λ x=>O x\/w.heap.size<=x) w' (.slice a (Qck bs dn k t).length c) (Qck bs dn k t)/\Out (Qji a) w w'
set_option maxHeartbeats 4000000 in
theorem Qsv (O:Nat->Prop) (a:Option Addr) (n c dn:Nat) (k t:Int) (bs:List (List Int)) (w:World) (hb:RowAt O w (.slice a n c) bs) (hs:Qtq bs) (hpos:∀D∈bs,0<D.length) (hd:dn<=n) (hk:k<9223372036854775808) :
  Calls prog 55 #[.agg #[.slice a n c,.int .i64 dn],.agg #[.int .i64 k,.int .i64 t]] w (Qwt w O a c bs dn k t):=by
 obtain ⟨q,hq⟩:∃q,q=w.heap.size:=⟨_,rfl⟩
 obtain ⟨vs,rest,harr,hbs,hvn,hnb,hnc⟩:=hb.arr;have hO:∀r,a=some r->O r.block:=by
  intro r e;obtain ⟨_,_,h2,_⟩:=hb;exact h2 r.block (by rw [e];rfl)
 have hsf:=Qee Tryz.underlying74 Tryz.one_blocks a n c dn (by omega);have hsb:=Qc6 Tryz.underlying74 Tryz.one_blocks a n c dn hd;rw [show (if c=dn then a else a.map (·.add dn))=Qf4 a c dn from rfl] at hsb;refine (callsIn_wide (n:=5)).1 (callsIn_of_wp_marks func55 rfl trivial (wpIn_wide.2 ?_))
 simp only [ntmps55,List.size_toArray,List.length_cons,List.length_nil,Nat.reduceAdd,Nat.reduceSub,Array.replicate_succ,Array.replicate_zero,List.push_toArray,List.append_toArray,List.nil_append,List.cons_append]
 have HB:=Jh6 hb hs hpos hd hk hq;have HA:=Jh6 harr hbs hvn hnb hnc hO;clear hb hs hpos hd hk harr hbs hvn hnb hnc hO;go_upto_region 2 with fail
 rw [<-hq];have HW:Hid (Blk ((((w.alloc (.cells #[.slice a n c,.int .i64 dn] 91)).alloc (.cells #[.int .i64 k,.int .i64 t] 121)).alloc (.cells #[.slice none 0 0,.int .i64 0] 91)).alloc (.cells #[.slice a dn c] 74)) q [.slice a n c,.int .i64 dn] 91/\Blk ((((w.alloc (.cells #[.slice a n c,.int .i64 dn] 91)).alloc (.cells #[.int .i64 k,.int .i64 t] 121)).alloc (.cells #[.slice none 0 0,.int .i64 0] 91)).alloc (.cells #[.slice a dn c] 74)) (q+1) [.int .i64 k,.int .i64 t] 121/\Blk ((((w.alloc (.cells #[.slice a n c,.int .i64 dn] 91)).alloc (.cells #[.int .i64 k,.int .i64 t] 121)).alloc (.cells #[.slice none 0 0,.int .i64 0] 91)).alloc (.cells #[.slice a dn c] 74)) (q+2) [.slice none 0 0,.int .i64 0] 91/\Blk ((((w.alloc (.cells #[.slice a n c,.int .i64 dn] 91)).alloc (.cells #[.int .i64 k,.int .i64 t] 121)).alloc (.cells #[.slice none 0 0,.int .i64 0] 91)).alloc (.cells #[.slice a dn c] 74)) (q+3) [.slice a dn c] 74/\Below q w ((((w.alloc (.cells #[.slice a n c,.int .i64 dn] 91)).alloc (.cells #[.int .i64 k,.int .i64 t] 121)).alloc (.cells #[.slice none 0 0,.int .i64 0] 91)).alloc (.cells #[.slice a dn c] 74))/\((((w.alloc (.cells #[.slice a n c,.int .i64 dn] 91)).alloc (.cells #[.int .i64 k,.int .i64 t] 121)).alloc (.cells #[.slice none 0 0,.int .i64 0] 91)).alloc (.cells #[.slice a dn c] 74)).heap.size=q+4):=
  ⟨(((Blk.new' hq.symm rfl).alloc _).alloc _).alloc _,((Blk.new' (by simp [hq]) rfl).alloc _).alloc _,(Blk.new' (by simp [hq]) rfl).alloc _,Blk.new' (by simp [hq]) rfl,((((Below.refl q w).alloc (by omega) _).alloc (by simp [hq]) _).alloc (by simp [hq];omega) _).alloc (by simp [hq];omega) _,by simp [hq]⟩
 generalize hW:World.alloc _ _=W1 at HW ⊢;have c0:W1.cell? ⟨q,0,none⟩=some (.slice a n c):=HW.out.1.cell 0;have c1:W1.cell? ⟨q,1,none⟩=some (.int .i64 dn):=HW.out.1.cell 1;have c2:W1.cell? ⟨q+1,0,none⟩=some (.int .i64 k):=(J2 HW).cell 0;have c3:W1.cell? ⟨q+1,1,none⟩=some (.int .i64 t):=(J2 HW).cell 1;have hsz:W1.heap.size=q+4:=(Jz5 HW)
 have d0:∀o,(W1.alloc o).cell? ⟨q,0,none⟩=some (.slice a n c):=λ o=>(HW.out.1.alloc o).cell 0
 have d1:∀o,(W1.alloc o).cell? ⟨q,1,none⟩=some (.int .i64 dn):=λ o=>(HW.out.1.alloc o).cell 1
 have d2:∀o,(W1.alloc o).cell? ⟨q+1,0,none⟩=some (.int .i64 k):=λ o=>((J2 HW).alloc o).cell 0
 have d3:∀o,(W1.alloc o).cell? ⟨q+1,1,none⟩=some (.int .i64 t):=λ o=>((J2 HW).alloc o).cell 1
 have g0:∀o o' o'',(((W1.alloc o).alloc o').alloc o'').cell? ⟨q,0,none⟩=some (.slice a n c):=λ o o' o''=>(((HW.out.1.alloc o).alloc o').alloc o'').cell 0
 have g1:∀o o' o'',(((W1.alloc o).alloc o').alloc o'').cell? ⟨q,1,none⟩=some (.int .i64 dn):=λ o o' o''=>(((HW.out.1.alloc o).alloc o').alloc o'').cell 1
 have g2:∀o o' o'',(((W1.alloc o).alloc o').alloc o'').cell? ⟨q+1,0,none⟩=some (.int .i64 k):=λ o o' o''=>((((J2 HW).alloc o).alloc o').alloc o'').cell 0
 have g3:∀o o' o'',(((W1.alloc o).alloc o').alloc o'').cell? ⟨q+1,1,none⟩=some (.int .i64 t):=λ o o' o''=>((((J2 HW).alloc o).alloc o').alloc o'').cell 1
 clear hW hq;go_region_held3 (λ w'=>w'.cell? ⟨q,0,none⟩=some (.slice a n c)/\w'.cell? ⟨q,1,none⟩=some (.int .i64 dn)/\w'.cell? ⟨q+1,0,none⟩=some (.int .i64 k)/\w'.cell? ⟨q+1,1,none⟩=some (.int .i64 t)) (first | exact ⟨c0,c1,c2,c3⟩ | exact ⟨d0 _,d1 _,d2 _,d3 _⟩ | exact ⟨g0 _ _ _,g1 _ _ _,g2 _ _ _,g3 _ _ _⟩)
  (first
  | (go_at_call 119;refine (Q2j k t _).mono ?_;rintro e w2 ⟨rfl,rfl⟩)
  | (go_at_call 92;refine (Q05 (Qf4 a c dn) (n - dn) (c - dn) 188 _ _).mono ?_;rintro e w2 ⟨rfl,rfl⟩))
 have HV:Hid (CrSt w (λ x=>O x\/w.heap.size<=x) q a n c dn vs rest bs k t 0 0 ((((W1.alloc (.cells #[.int .i64 k,.int .i64 t] 121)).alloc (.cells #[.slice (Qf4 a c dn) (n - dn) (c - dn)] 74)).alloc (.cells #[.func (.func 188) #[] #[.pointer (some ⟨q+4,0,none⟩)]] 172)).drew)/\((((W1.alloc (.cells #[.int .i64 k,.int .i64 t] 121)).alloc (.cells #[.slice (Qf4 a c dn) (n - dn) (c - dn)] 74)).alloc (.cells #[.func (.func 188) #[] #[.pointer (some ⟨q+4,0,none⟩)]] 172)).drew).heap.size=q+7):=by
  obtain ⟨h1,h2,h3,h4,h5,h6⟩:=HW.out;obtain ⟨a1,a2,a3,a4,a5,a6⟩:=HA.out;have hbel:Below w.heap.size w ((((W1.alloc (.cells #[.int .i64 k,.int .i64 t] 121)).alloc (.cells #[.slice (Qf4 a c dn) (n - dn) (c - dn)] 74)).alloc (.cells #[.func (.func 188) #[] #[.pointer (some ⟨q+4,0,none⟩)]] 172)).drew):=by
   rw [<-(Jz5 HB)];exact (((h5.alloc (by omega) _).alloc (by simp;omega) _).alloc (by simp;omega) _).drew
  have hoN:=Qab Non hbel;refine ⟨⟨Qab _ hbel,((h1.alloc _).alloc _).alloc _,((h3.alloc _).alloc _).alloc _,((h4.alloc _).alloc _).alloc _,((Blk.new' h6 rfl).alloc _).alloc _,(Blk.new' (by simp [h6]) rfl).alloc _,Blk.new' (by simp [h6]) rfl,⟨vs.take dn,by simp [a3];have:=(J4 HB);omega,?_,?_⟩,?_⟩,by simp [h6]⟩
  ·rw [<-List.append_assoc,show dn+0=dn from rfl,List.take_append_drop]
   exact a1.out hoN (λ _ e=>e.elim)
  ·have hw:=(a2.mono (O':=λ x=>O x\/w.heap.size<=x) (λ c h _=>.inl h)).out hoN (λ _ _ _ _=>id)
   refine ⟨by simp [kRes,a2.1],λ i h D e1 e2=>?_⟩
   have hi:i<dn:=by have:=(List.getElem?_eq_some_iff.1 e1).1;simp at this;omega
   rw [List.getElem?_take_of_lt hi] at e1;rw [List.getElem?_append_left (by simp;have:=(J4 HB);omega),List.getElem?_take_of_lt hi] at e2;exact hw.2 i h D e1 e2
  ·exact (a2.mono (O':=λ x=>O x\/w.heap.size<=x) (λ c h _=>.inl h)).out hoN (λ _ _ _ _=>id)
 generalize hW2:World.drew _=W2 at HV ⊢;have hsz2:W2.heap.size=q+7:=HV.out.2;clear hW2 c0 c1 c2 c3 d0 d1 d2 d3 g0 g1 g2 g3 hsz HW;simp only [Nat.add_assoc,Nat.reduceAdd]
 go_wp2
 refine wpIn_wide.1 (Qg7 (n:=5) (gf:=152) (lb:=#[.pointer (some ⟨q+5,0,none⟩),.pointer (some ⟨q+6,0,none⟩)]) rfl (enters_of func152 (by kernel_rfl) rfl)
   (λ j W=>CrSt w (λ x=>O x\/w.heap.size<=x) q a n c dn vs rest bs k t j j W)
   (λ j x W=>CrSt w (λ x=>O x\/w.heap.size<=x) q a n c dn vs rest bs k t j (j+1) W/\∃D,(bs.drop dn)[j]?=some D/\BkAt (λ x=>O x\/w.heap.size<=x) W x (Qft D (kFit (bs.drop dn) k t j))/\∃gx m,x=.slice (some ⟨gx,0,none⟩) m m)
   (λ W=>∃j s,CrSt w (λ x=>O x\/w.heap.size<=x) q a n c dn vs rest bs k t j s W/\kRes (bs.drop dn) k t j=Qi2 (bs.drop dn) k t/\j<=n - dn)
   (λ j W W' h hc=>h.calm hc (by have:=(Jz5 HB);omega)) (λ j x W W' h hc=>⟨h.1.calm hc (by have:=(Jz5 HB);omega),by obtain ⟨D,h1,h2,h3⟩:=h.2;exact ⟨D,h1,hc.bk h2,h3⟩⟩) (λ W W' h hc=>by obtain ⟨j,s,h1,h2⟩:=h;exact ⟨j,s,h1.calm hc (by have:=(Jz5 HB);omega),h2⟩)
   (λ o o'=>HV.out.1.under (((Below.refl _ _).alloc (Nat.le_refl _) _).alloc (by simp) _))
   (λ x=>{tmps:=#[.agg #[.slice a n c,.int .i64 dn],.agg #[.int .i64 k,.int .i64 t],.pointer (some ⟨q,0,none⟩),.pointer (some ⟨q+1,0,none⟩),.pointer (some ⟨q+2,0,none⟩),.pointer (some ⟨q+3,0,none⟩),x,.pointer (some ⟨q,0,none⟩),.slice a n c,.pointer (some ⟨q,1,none⟩),.int .i64 dn,.slice a dn c,.pointer (some ⟨q,0,none⟩),.slice a n c,.pointer (some ⟨q,1,none⟩),.int .i64 dn,
     .slice (Qf4 a c dn) (n - dn) (c - dn),.agg #[.int .i64 k,.int .i64 t],.func (.func 188) #[] #[.pointer (some ⟨q+4,0,none⟩)],.func (.func 152) #[] #[.pointer (some ⟨q+5,0,none⟩),.pointer (some ⟨q+6,0,none⟩)],x,undef,undef,undef,undef,undef,undef,undef,undef,undef,undef,undef,undef,undef],defers:=[]}) ?assign ?body ?iter ?done)
 case assign=>
  rintro l k x W K ⟨_,D,_,_,gx,m,rfl⟩ hK;gi_wp2
  exact hK
 case body=>
  rintro l R j x W hbk ⟨hst,D,hD,hx,gx,m,rfl⟩;have hj:=(List.getElem?_eq_some_iff.1 hD).1;obtain ⟨r,ha,g0,hrun,gc,gf,hs2,hbk2⟩:=hst.app (by have:=(Jz5 HB);omega) hbk (J3 HA) (J4 HA).symm (by simp at hj;have:=(J4 HA);omega) (J5 HA) hD hx rfl;subst ha;have c0:W.cell? ⟨q+3,0,none⟩=some (.slice (some ⟨r,0,none⟩) (dn+j) c):=hst.g.cell 0;have HS:=Jh2 hs2 hbk2;have HR:=Jh1 hrun;clear hrun hs2 hbk2 hst hx g0 hbk;generalize hV:World.setCell (World.alloc _ _) _ _=V at HS HR gc gf;clear hV;gi_wp2_with (gi_at_builtin;refine Qdk rfl (.tmp 21) (.tmp 23) 74 74 rfl _ _ rfl rfl _ _ HR.out ?_)
  exact ⟨by rw [<-hsz2];exact HS.out.2,HS.out.1⟩
 case iter=>
  intro R W hY hbk h0;have hus:(bs.drop dn).length=n - dn:=by simp [<-(J4 HA)]
  refine (Qw7 (n:=5 - 1) (J:=λ j W=>CrSt w (λ x=>O x\/w.heap.size<=x) q a n c dn vs rest bs k t j j W) (JF:=λ j W=>CrSt w (λ x=>O x\/w.heap.size<=x) q a n c dn vs rest bs k t j (j+1) W) (gf:=188) (lb:=#[.pointer (some ⟨q+4,0,none⟩)]) (fit:=kFit (bs.drop dn) k t) (a:=Qf4 a c dn) (nb:=n - dn) (c:=c - dn) (bs:=bs.drop dn)
    ⟨hus,by have:=HB.out.1;obtain ⟨_,_,_,_,h4⟩:=this;have:=(J4 HA);omega,λ k W h=>⟨h.b1.cell 0,h.b2.cell 0⟩,?rd,?fits,?le,?torn⟩ (enters_of func188 (by kernel_rfl) rfl) hY W hbk h0).mono ?_
  case rd=>
   intro j W D h hD;have hj:=(List.getElem?_eq_some_iff.1 hD).1;rw [hus] at hj;obtain ⟨hs,e1,e2,e3⟩:=h.row;rcases e2 with ⟨_,hc,_⟩ | ⟨r,ha,hr,hlen,hcm⟩
   ·have:=(J5 HA);omega
   subst ha;have hb:Qf4 (some ⟨r,0,none⟩) c dn=some ⟨r,dn,none⟩:=by
    unfold Qf4;rw [if_neg (by have:=(J5 HA);omega)];show some ((⟨r,0,none⟩:Addr).add dn)=_;rw [Addr.add_mid,Nat.zero_add]
   have hv:∃v,vs[dn+j]?=some v:=⟨vs[dn+j]'(by rw [(J3 HA)];omega),by simp⟩
   obtain ⟨v,hv⟩:=hv;have hD':bs[dn+j]?=some D:=by rw [List.getElem?_drop] at hD;exact hD
   have hbk:=h.old.2 (dn+j) v D hv hD';obtain ⟨A,L,C,rfl,h2,h3,h4,h5⟩:=hbk.bkin ((J2 HB) D (List.mem_of_getElem? hD'));refine ⟨r,dn,A,L,C,hb,?_,h2,h4,h5⟩
   rw [hr.cell,List.getElem?_append_right (by omega),e1,Nat.sub_self,List.getElem?_append_left (by simp [(J3 HA)];omega),List.getElem?_drop];exact hv
  case fits=>
   intro j W D A L C h hD hin hb;refine (Qxd (kst k t j).1 (kst k t j).2 (q+4) A L C W h.l (by have:=Q1e k t j;have:=(J5 HB);omega)).mono ?_
   rintro e w' ⟨rfl,e2,e3,e4⟩;have hgd:(bs.drop dn).getD j []=D:=by simp only [List.getD,hD];rfl
   refine ⟨by rw [kFit,hgd,hin.1],h.loss (by have:=(Jz5 HB);omega) e3 e2,hb.out e3 (λ x e=>by subst e;exact ⟨_,_,_,h.l⟩),hin.other e3 (λ x e i z hc=>?_)⟩
   subst e;rw [h.l.cell] at hc;match i,hc with
   | 0,hc=>cases hc
   | 1,hc=>cases hc
   | i+2,hc=>cases hc
  case le=>
   intro j D hD;have hgd:(bs.drop dn).getD j []=D:=by simp only [List.getD,hD];rfl
   rw [kFit,hgd];exact Qyp _ _ _
  case torn=>
   intro j W D x W' h hD hp hb hx hg;obtain ⟨gx,rfl⟩:=hg;refine ⟨h.under hb,D,hD,hx.mono (λ c hc _=>.inr (by have:=h.out.size;omega)),gx,_,rfl⟩
  rintro e W' ⟨hv,hb,j,hj,hp,he⟩;refine ⟨hv,hb,j,?_⟩
  have hl:∀D∈bs.drop dn,0<D.length:=λ D h=>(J3 HB) D (List.mem_of_mem_drop h)
  rcases he with ⟨h1,h2⟩ | ⟨h1,h2,h3⟩
  ·exact ⟨j,h2,Qwy hl (by rw [hus];exact hj) hp (.inl (by rw [hus];exact h1)),hj⟩
  ·exact ⟨j+1,h3,Qwy hl (by rw [hus];exact hj) hp (.inr ⟨by rw [hus];exact h1,h2⟩),hj⟩
 case done=>
  rintro W ⟨j,s,hst,he,hj⟩ hK;obtain ⟨hs,e1,e2,e3⟩:=hst.row;rw [he,show bs.take dn ++ Qi2 (bs.drop dn) k t=Qck bs dn k t from rfl] at e3;have hm:dn+j=(Qck bs dn k t).length:=by rw [<-e3.1,e1]
  obtain ⟨m,hmm⟩:∃m,m=dn+j:=⟨_,rfl⟩
  have hmn:m<=n:=by have:=(J4 HB);omega
  obtain ⟨W3,hcl,ho3,L',ha3⟩:=Qwp e2 hmn (J5 HA);rw [List.take_left' (by rw [e1,hmm])] at ha3;have hsm:=Qc6 Tryz.underlying74 Tryz.one_blocks a n c m hmn;rw [show (if c=m then a else a.map (·.add m))=Qf4 a c m from rfl] at hsm;rw [<-hmm] at hm;have hg:=hst.g;rw [<-hmm] at hg;have z3:Blk W3 q _ _:=ho3.blk hst.z (Qp1 hst.z (by decide) e2);have r3:Blk W3 (q+2) _ _:=ho3.blk hst.r (Qp1 hst.r (by decide) e2);have g3:Blk W3 (q+3) _ _:=ho3.blk hg (Qp1 hg (by decide) e2);have b3:BsAt (λ x=>O x\/w.heap.size<=x) W3 hs (Qck bs dn k t):=e3.out ho3 (λ y cur _ hc hy=>by
   obtain ⟨ad,ha,hb⟩:=hy;rcases e2 with ⟨h,_⟩ | ⟨r,h,hr,_⟩
   ·rw [ha] at h;cases h
   ·rw [ha] at h;cases h
    subst hb;have hr':W.heap[r]?=_:=hr;rw [hr'] at hc;simp at hc)
  have k3:W3.heap[W2.heap.size]?=some (.deferred (some [])):=by
   rw [ho3.block _ (Array.getElem?_eq_some_iff.1 hK).1 (λ hy=>?_)];exact hK;obtain ⟨ad,ha,hb⟩:=hy;rcases e2 with ⟨h,_⟩ | ⟨r,h,hr,_⟩
   ·rw [ha] at h;cases h
   ·rw [ha] at h;cases h
    have hr':W.heap[r]?=_:=hr;rw [<-hb,hr'] at hK;cases hK
  have HO:Hid (Arr W3 a c (hs ++ L')/\BsAt (λ x=>O x\/w.heap.size<=x) W3 hs (Qck bs dn k t)/\Blk W3 (q+2) [.slice none 0 0,.int .i64 0] 91/\W3.heap[W2.heap.size]?=some (.deferred (some []))/\Out (Qji a) w W3/\m=(Qck bs dn k t).length/\m<=n):=⟨ha3,b3,r3,k3,hst.out.trans ho3 (λ _ e=>.inl e),hm,hmn⟩
  have c0:W.cell? ⟨q,0,none⟩=some (.slice a n c):=hst.z.cell 0;have c1:W.cell? ⟨q+3,0,none⟩=some (.slice a m c):=hg.cell 0;have c2:W3.cell? ⟨q+3,0,none⟩=some (.slice a m c):=g3.cell 0;have e0:W3.cell? ⟨q+2,0,none⟩=some (.slice none 0 0):=r3.cell 0;have e1':W3.cell? ⟨q+2,1,none⟩=some (.int .i64 0):=r3.cell 1;have f0:=r3.frozen 0;have f1:=r3.frozen 1;have HK:=Jh1 hj;clear hst hK he e1 e2 e3 hm hmm hmn ho3 ha3 hg z3 r3 g3 b3 k3 hj;go_wp2
  obtain ⟨ha3,b3,r3,k3,ho3,hm,hmn⟩:=HO.out;have r4:=((r3.set 0 (.slice a m c)).set 1 (.int .i64 m))
  have hK':((W3.setCell ⟨q+2,0,none⟩ (.slice a m c)).setCell ⟨q+2,1,none⟩ (.int .i64 m)).heap[W2.heap.size]?=some (.deferred (some [])):=by
   rw [Below.heap_setCell _ _ _ _ (by show W2.heap.size≠q+2;omega),Below.heap_setCell _ _ _ _ (by show W2.heap.size≠q+2;omega)];exact k3
  have hcm:=Qiv hK' (.deferred none);have rw3:RowAt (λ x=>O x\/w.heap.size<=x) W3 (.slice a (Qck bs dn k t).length c) (Qck bs dn k t):=ha3.row b3 (by obtain ⟨_,_,_,_,h4⟩:=HB.out.1;have:=(J4 HA);omega) (λ r e=>.inl ((Jz5 HA) r e));have hrow:=hcm.row (Qdh (r3.set 0 (.slice a m c)) (by decide) (by decide) 1 (.int .i64 m) (Qdh r3 (by decide) (by decide) 0 (.slice a m c) rw3));have hq:q=w.heap.size:=(Jz5 HB)
  have hbel:Out (Qji a) w ((W3.setCell ⟨q+2,0,none⟩ (.slice a m c)).setCell ⟨q+2,1,none⟩ (.int .i64 m)):=(ho3.setCell (p:=⟨q+2,0,none⟩) (.inr (by show w.heap.size<=q+2;omega)) _).setCell (p:=⟨q+2,1,none⟩) (.inr (by show w.heap.size<=q+2;omega)) _;refine ⟨by simp,.inl ⟨_,_,rfl,run_takeDeferred hK',?_⟩⟩
  refine ⟨_,Qap (p:=4) (ty:=91) rfl _ _ (q+2) _ _ _ rfl (hcm.blk r4) Tryz.underlying91 rfl Tryz.info_zone,by rw [<-hm];rfl,hrow,hcm.out hbel (by omega)⟩
section
structure Sh where
 z:Int
 zb:Int
 b:Int
 r:Int
def shL (s:Sh):List Value:=[.int .i64 s.z,.int .i64 s.zb,.int .i64 s.b,.int .i64 s.r]
def Powers:List Int:=[64,128,256,512,1024,2048,4096]
def Qat (s:Sh):Prop:=6<=s.z/\s.z<=256/\8<=s.zb/\s.zb<=4096/\s.b∈Powers/\2<=s.r/\s.r<=s.z - 4
instance (s:Sh):Decidable (Qat s):=by unfold Qat;infer_instance
theorem Qbd {b:Int} (h:b∈Powers):64<=b/\b<=4096:=by
 simp [Powers] at h
 omega
structure Wf (s:Sh) (zs:List Zn):Prop where
 right:Qat s
 len:(zs.length:Int)=s.z
 zone:∀z∈zs,(z.1.length:Int)<=s.zb/\0<=z.2/\z.2<=z.1.length/\∀D∈z.1,(D.length:Int)=s.b
structure DvV (T:TypeId) (O:Nat->Prop) (W:World) (p:Nat) (s:Sh) (zs:List Zn) (g c:Nat) (vs:List Value):Prop where
 hp:Blk W p [.int .i64 s.z,.int .i64 s.zb,.int .i64 s.b,.int .i64 s.r,.slice (some ⟨g,0,none⟩) zs.length c] T
 hg:W.ownsRow 0 91 2 (.slice (some ⟨g,0,none⟩) zs.length c) zs.length (Qbk vs zs)
 op:O p
 og:O g
 vl:vs.length=zs.length
 rows:∀(i:Nat) (u:Value) (z:Zn),vs[i]?=some u->zs[i]?=some z->RowAt O W u z.1
 ap:Q3h vs
 small:zs.length<=1000
 ty:T≠91/\T≠71/\T≠5
def Dv (T:TypeId) (O:Nat->Prop) (W:World) (p:Nat) (s:Sh) (zs:List Zn):Prop:=∃g c vs,DvV T O W p s zs g c vs
section
variable {T:TypeId} {O S:Nat->Prop} {W W':World} {p:Nat} {s:Sh} {zs:List Zn} {g c:Nat} {vs:List Value}
theorem DvV.all (h:DvV T O W p s zs g c vs):ZsAt O W (.slice (some ⟨g,0,none⟩) zs.length c) zs:=⟨vs,h.hg,λ r e=>by cases e;exact h.og,h.vl,h.rows,h.ap,h.small⟩
theorem DvV.out (h:DvV T O W p s zs g c vs) (ho:Out S W W') (hS:∀x,O x->¬S x):DvV T O W' p s zs g c vs:=by
 refine ⟨ho.blk h.hp (hS p h.op),ho.own h.hg (λ r e=>by cases e;exact hS g h.og),h.op,h.og,h.vl,λ i u z h1 h2=>?_,h.ap,h.small,h.ty⟩
 have:=h.rows i u z h1 h2;exact this.out ho (λ r hr=>by obtain ⟨_,_,hb,_⟩:=this;exact hS r (hb r hr)) (λ c _ hc _=>hS c hc)
theorem DvV.mono {O':Nat->Prop} (h:DvV T O W p s zs g c vs) (hO:∀x,O x->x<W.heap.size->O' x):DvV T O' W p s zs g c vs:=
 ⟨h.hp,h.hg,hO p h.op h.hp.lt,hO g h.og (h.hg.lt g rfl).2,h.vl,λ i u z h1 h2=>(h.rows i u z h1 h2).mono hO,h.ap,h.small,h.ty⟩
theorem DvV.under (h:DvV T O W p s zs g c vs) (hb:Below W.heap.size W W'):DvV T O W' p s zs g c vs:=h.out (Qab Non hb) (λ _ _ e=>e)
theorem DvV.lt (h:DvV T O W p s zs g c vs):p<W.heap.size/\g<W.heap.size:=⟨h.hp.lt,(h.hg.lt g rfl).2⟩
theorem DvV.pcell (h:DvV T O W p s zs g c vs):W.cell? ⟨p,0,none⟩=some (.int .i64 s.z)/\W.cell? ⟨p,1,none⟩=some (.int .i64 s.zb)/\W.cell? ⟨p,2,none⟩=some (.int .i64 s.b)/\W.cell? ⟨p,3,none⟩=some (.int .i64 s.r)/\W.cell? ⟨p,4,none⟩=some (.slice (some ⟨g,0,none⟩) zs.length c):=
 ⟨h.hp.cell 0,h.hp.cell 1,h.hp.cell 2,h.hp.cell 3,h.hp.cell 4⟩
theorem DvV.at (h:DvV T O W p s zs g c vs) {i:Nat} {z:Zn} (hz:zs[i]?=some z):∃a cc,vs[i]?=some (.slice a z.1.length cc)/\RowAt O W (.slice a z.1.length cc) z.1/\W.cell? ⟨g,i*2,none⟩=some (.slice a z.1.length cc)/\W.cell? ⟨g,i*2+1,none⟩=some (.int .i64 z.2):=by
 rw [Nat.mul_comm i 2];have hi:=(List.getElem?_eq_some_iff.1 hz).1;obtain ⟨u,hu⟩:∃u,vs[i]?=some u:=⟨vs[i]'(by rw [h.vl];exact hi),by simp [h.vl,hi]⟩
 have hr:=h.rows i u z hu hz;obtain ⟨a,cc,rfl⟩:=hr.slice;obtain ⟨h1,h2⟩:=Qd1 vs zs i _ z hu hz;have hl:=Qcl vs zs h.vl;exact ⟨a,cc,hu,hr,by rw [h.hg.cellAt (2*i) (by omega)];exact h1,by rw [h.hg.cellAt (2*i+1) (by omega)];exact h2⟩
theorem DvV.free (h:DvV T O W p s zs g c vs) (j:Nat):W.frozen? ⟨g,j,none⟩=false:=h.hg.frozenAt j
theorem Qdv {e:TypeId} {sz n cap:Nat} {g:Nat} {xs:List Value} (h:W.ownsRow 0 e sz (.slice (some ⟨g,0,none⟩) n cap) n xs):∃L,Blk W g L e:=by
 obtain ⟨cur,hc⟩:=Qaz h rfl;exact ⟨cur.toList,by unfold Blk;rw [hc]⟩
theorem DvV.setD (h:DvV T O W p s zs g c vs) {i:Nat} {z:Zn} (hz:zs[i]?=some z) (d:Int):DvV T O (W.setCell ⟨g,i*2+1,none⟩ (.int .i64 d)) p s (zs.set i (z.1,d)) g c vs:=by
 rw [Nat.mul_comm i 2];obtain ⟨L,hL⟩:=Qdv h.hg;have hl:(zs.set i (z.1,d)).length=zs.length:=by simp
 obtain ⟨s1,s2⟩:=h.hg.stored (2*i+1) (.int .i64 d);rw [Qje vs zs i (z.1,d) h.vl] at s1;refine ⟨by rw [hl];exact h.hp.set_other (Qbq h.hp hL h.ty.1) _,by rw [hl];exact s1,h.op,h.og,by rw [hl];exact h.vl,λ j u y h1 h2=>?_,h.ap,by rw [hl];exact h.small,h.ty⟩
 refine Qdh hL (by decide) (by decide) _ _ ?_
 by_cases e:i=j
 ·subst e
  have hi:=(List.getElem?_eq_some_iff.1 hz).1;rw [List.getElem?_set_self hi] at h2;cases h2
  exact h.rows i u z h1 hz
 ·rw [List.getElem?_set_ne e] at h2
  exact h.rows j u y h1 h2
theorem DvV.upd {O1:Nat->Prop} {W1:World} {i:Nat} {z:Zn} {u u':Value} {bs':List (List Int)} (h:DvV T O W p s zs g c vs) (hz:zs[i]?=some z) (hu:vs[i]?=some u) (ho:Out (λ x=>u.ownBlock=some x) W W1)
  (hO:∀x,O x->O1 x) (hr:RowAt O1 W1 u' bs') (hf:u'.ownBlock=u.ownBlock\/∀r,u'.ownBlock=some r->W.heap.size<=r) :
  W1.cell? ⟨g,i*2,none⟩=some u/\W1.cell? ⟨g,i*2+1,none⟩=some (.int .i64 z.2)/\(∀j,W1.frozen? ⟨g,j,none⟩=false)/\DvV T O1 (W1.setCell ⟨g,i*2,none⟩ u') p s (zs.set i (bs',z.2)) g c (vs.set i u'):=by
 rw [Nat.mul_comm i 2];have hi:=(List.getElem?_eq_some_iff.1 hz).1;have hru:=h.rows i u z hu hz;obtain ⟨uv,u1,u2,u3,_⟩:=id hru;obtain ⟨L,hL⟩:=Qdv h.hg;have hgu:u.ownBlock≠some g:=Qcd hL (by decide) u1;have hpu:u.ownBlock≠some p:=Qcd h.hp h.ty.2.1 u1;have hg1:W1.ownsRow 0 91 2 (.slice (some ⟨g,0,none⟩) zs.length c) zs.length (Qbk vs zs):=ho.own h.hg (λ r e=>by cases e;exact hgu);have hp1:=ho.blk h.hp hpu;obtain ⟨L1,hL1⟩:=Qdv hg1;have hl:(zs.set i (bs',z.2)).length=zs.length:=by simp
 obtain ⟨g1,g2⟩:=Qd1 vs zs i _ z hu hz;have hzl:=Qcl vs zs h.vl;obtain ⟨s1,s2⟩:=hg1.stored (2*i) u';rw [Qin vs zs i u' h.vl] at s1;have hsame:Qbk (vs.set i u') zs=Qbk (vs.set i u') (zs.set i (bs',z.2)):=Qoz _ _ _ (by
  rw [List.map_set];apply List.ext_getElem?
  intro j;by_cases e:i=j
  ·subst e;rw [List.getElem?_set_self (by simp;exact hi)];simp [hz]
  ·rw [List.getElem?_set_ne e])
 rw [hsame] at s1;refine ⟨by rw [hg1.cellAt _ (by omega)];exact g1,by rw [hg1.cellAt _ (by omega)];exact g2,λ j=>hg1.frozenAt j,⟨by rw [hl];exact hp1.set_other (Qbq hp1 hL1 h.ty.1) _,by rw [hl];exact s1,hO p h.op,hO g h.og,by simp [h.vl],λ j v y h1 h2=>?_,?_,by rw [hl];exact h.small,h.ty⟩⟩
 ·refine Qdh hL1 (by decide) (by decide) _ _ ?_
  by_cases e:i=j
  ·subst e
   rw [List.getElem?_set_self hi] at h2;rw [List.getElem?_set_self (by rw [h.vl];exact hi)] at h1;cases h1;cases h2
   exact hr
  ·rw [List.getElem?_set_ne e] at h1 h2
   have hrj:=h.rows j v y h1 h2;refine (hrj.out ho (λ r e1 e2=>e (h.ap i j u v r hu h1 e2 e1)) (λ x cur _ hc e2=>?_)).mono (λ x hx _=>hO x hx)
   obtain ⟨cur',hc'⟩:=Qaz u1 e2;rw [hc] at hc';cases hc'
 ·intro j k v y r h1 h2 e1 e2
  have hb:∀(j:Nat) (v:Value) (r:Nat),j≠i->vs[j]?=some v->v.ownBlock=some r->u'.ownBlock=some r->False:=by
   intro j v r hj hv er eu;rcases hf with hf | hf
   ·rw [hf] at eu
    exact hj (h.ap j i v u r hv hu er eu)
   ·have:=hf r eu
    have hlt:j<zs.length:=by rw [<-h.vl];exact (List.getElem?_eq_some_iff.1 hv).1
    obtain ⟨_,q1,_⟩:=h.rows j v zs[j] hv (by simp [hlt]);have:=(q1.lt r er).2;omega
  by_cases ej:i=j
  ·by_cases ek:i=k
   ·omega
   ·subst ej
    rw [List.getElem?_set_self (by rw [h.vl];exact hi)] at h1;rw [List.getElem?_set_ne ek] at h2;cases h1
    exact (hb k y r (by omega) h2 e2 e1).elim
  ·rw [List.getElem?_set_ne ej] at h1
   by_cases ek:i=k
   ·subst ek
    rw [List.getElem?_set_self (by rw [h.vl];exact hi)] at h2;cases h2
    exact (hb j v r (by omega) h1 e1 e2).elim
   ·rw [List.getElem?_set_ne ek] at h2
    exact h.ap j k v y r h1 h2 e1 e2
end
end
end Go.Proofs.YtcdnjeiamihhbaaGreat
namespace Go.Proofs.YtcdnjeiamihhbaaGreat
open Go.RowKit
section
abbrev Pr:=Int × Int
abbrev Pl:=Pr × Pr
def I64 (z:Int):Prop:=-9223372036854775808<=z/\z<9223372036854775808
def Qel (x:Pr):Prop:=Qas x.1/\Qai x.2
def Qj8 (x:Pr):Prop:=I64 x.1/\I64 x.2
def Qdu (p:Pl):Prop:=Qel p.1/\Qj8 p.2
def ltP (x y:Pr):Bool:=decide (x.1<y.1\/(x.1=y.1/\x.2<y.2))
theorem Qov (x y:Pr):ltP x y=true↔(x.1<y.1\/(x.1=y.1/\x.2<y.2)):=by unfold ltP;simp
def hkW:List Int:=[4,4,4,4,8,2]
def plW:List Int:=[4,8,2,2]
def plV (p:Pl):List Int:=[p.1.1,p.1.2,p.2.1,p.2.2]
def hkV (i m seq n:Int):List Int:=[1129009236,0,i,m,seq,n]
def plB (p:Pl):List Int:=Qan plW (plV p)
def hkB (i m seq n:Int):List Int:=Qan hkW (hkV i m seq n)
theorem Q1d (p:Pl):plB p=bigI 4 p.1.1 ++ (bigI 8 p.1.2 ++ (bigI 2 p.2.1 ++ bigI 2 p.2.2)):=by simp [plB,plW,plV,Qan,wd]
theorem Q0s (i m seq n:Int):hkB i m seq n=bigI 4 1129009236 ++ (bigI 4 0 ++ (bigI 4 i ++ (bigI 4 m ++ (bigI 8 seq ++ bigI 2 n)))):=by simp [hkB,hkW,hkV,Qan,wd]
theorem Qd2 (p:Pl):(plB p).length=16:=by simp [Q1d,Qac]
theorem Qfk (i m seq n:Int):(hkB i m seq n).length=26:=by simp [Q0s,Qac]
theorem Qqr (p:Pl):∀z∈plB p,Qaf z:=Qc9 _ _
theorem Qrn (i m seq n:Int):∀z∈hkB i m seq n,Qaf z:=Qc9 _ _
def plsB (ps:List Pl):List Int:=ps.flatMap plB
theorem Qur (ps:List Pl) (p:Pl):plsB (ps ++ [p])=plsB ps ++ plB p:=by simp [plsB]
theorem Qpw (ps:List Pl):(plsB ps).length=16*ps.length:=by
 induction ps with
 | nil=>rfl
 | cons p r ih=>
  have e:plsB (p :: r)=plB p ++ plsB r:=by simp [plsB]
  rw [e,List.length_append,Qd2,ih,List.length_cons];omega
theorem Qm1 (ps:List Pl):∀z∈plsB ps,Qaf z:=by
 intro z hz;obtain ⟨p,_,hp⟩:=List.mem_flatMap.1 hz;exact Qqr p z hp
def Qk5 (i m seq:Int) (ps:List Pl):List Int:=hkB i m seq ps.length ++ plsB ps
theorem Qgn (i m seq:Int) (ps:List Pl):(Qk5 i m seq ps).length=26+16*ps.length:=by rw [Qk5,List.length_append,Qfk,Qpw]
def ckP (N:Nat) (i m seq:Int) (ps:List Pl):List Int:=Qk5 i m seq ps ++ List.replicate (N - 1 - (26+16*ps.length)) 0 ++ [231]
def ckB (N:Nat) (i m seq:Int) (ps:List Pl):List Int:=Qek (ckP N i m seq ps)
section
variable {N:Nat} {i m seq:Int} {ps:List Pl}
theorem Qt8:ckP N i m seq ps=bigI 4 1129009236 ++ (bigI 4 0 ++ (bigI 4 i ++ (bigI 4 m ++ (bigI 8 seq ++ (bigI 2 ps.length ++ (plsB ps ++ (List.replicate (N - 1 - (26+16*ps.length)) 0 ++ [231]))))))):=by simp [ckP,Qk5,Q0s]
theorem Qkn (h:27+16*ps.length<=N):(ckP N i m seq ps).length=N:=by
 simp only [ckP,List.length_append,Qgn,List.length_replicate,List.length_singleton];omega
theorem Qql:∀z∈ckP N i m seq ps,Qaf z:=by
 intro z hz;simp only [ckP,Qk5,List.mem_append,List.mem_replicate,List.mem_singleton] at hz
 rcases hz with ((h | h) | ⟨_,h⟩) | h
 ·exact Qrn _ _ _ _ z h
 ·exact Qm1 _ z h
 ·subst h;unfold Qaf;omega
 ·subst h;unfold Qaf;omega
theorem Qxt:((ckP N i m seq ps).drop 4).take 4=[0,0,0,0]:=by
 rw [Qt8,List.drop_left' (Qac _ _),List.take_left' (Qac _ _),Q4j]
theorem Qgg:8<=(ckP N i m seq ps).length:=by
 simp only [ckP,List.length_append,Qgn];omega
theorem Qd3 (h:27+16*ps.length<=N):(ckB N i m seq ps).length=N:=by rw [ckB,Qiq Qgg,Qkn h]
theorem Qpx:∀z∈ckB N i m seq ps,Qaf z:=Qnf Qql
theorem Qy8:Qnp (ckB N i m seq ps)=ckP N i m seq ps:=Qsh Qgg Qxt
theorem Qyb:ckB N i m seq ps=Qek (Qnp (ckB N i m seq ps)):=by rw [Qy8];rfl
theorem Qgr {j:Nat} (hj:8<=j):(ckB N i m seq ps).drop j=(ckP N i m seq ps).drop j:=by
 obtain ⟨k,rfl⟩:∃k,j=8+k:=⟨j - 8,by omega⟩
 rw [<-List.drop_drop,<-List.drop_drop,ckB,Qj7 Qgg]
theorem Qn0:(ckP N i m seq ps).drop 8=bigI 4 i ++ (bigI 4 m ++ (bigI 8 seq ++ (bigI 2 ps.length ++ (plsB ps ++ (List.replicate (N - 1 - (26+16*ps.length)) 0 ++ [231]))))):=by
 rw [Qt8,show (8:Nat)=4+4 from rfl,<-List.drop_drop,List.drop_left' (Qac _ _),List.drop_left' (Qac _ _)]
theorem Qkc:(ckP N i m seq ps).drop 12=bigI 4 m ++ (bigI 8 seq ++ (bigI 2 ps.length ++ (plsB ps ++ (List.replicate (N - 1 - (26+16*ps.length)) 0 ++ [231])))):=by
 rw [show (12:Nat)=8+4 from rfl,<-List.drop_drop,Qn0,List.drop_left' (Qac _ _)]
theorem Qke:(ckP N i m seq ps).drop 16=bigI 8 seq ++ (bigI 2 ps.length ++ (plsB ps ++ (List.replicate (N - 1 - (26+16*ps.length)) 0 ++ [231]))):=by
 rw [show (16:Nat)=12+4 from rfl,<-List.drop_drop,Qkc,List.drop_left' (Qac _ _)]
theorem Qkx:(ckP N i m seq ps).drop 24=bigI 2 ps.length ++ (plsB ps ++ (List.replicate (N - 1 - (26+16*ps.length)) 0 ++ [231])):=by
 rw [show (24:Nat)=16+8 from rfl,<-List.drop_drop,Qke,List.drop_left' (Qac _ _)]
theorem Qs7:(ckP N i m seq ps).drop 26=plsB ps ++ (List.replicate (N - 1 - (26+16*ps.length)) 0 ++ [231]):=by
 rw [show (26:Nat)=24+2 from rfl,<-List.drop_drop,Qkx,List.drop_left' (Qac _ _)]
end
def rkM (bs:List Int):Int:=numI (bs.take 4)
def rkS (bs:List Int):Int:=numI ((bs.drop 4).take 4)
def rkI (bs:List Int):Int:=numI ((bs.drop 8).take 4)
def rkH (bs:List Int):Int:=numI ((bs.drop 12).take 4)
def Qfp (bs:List Int):Int:=numI ((bs.drop 16).take 8)
def rkN (bs:List Int):Int:=numI ((bs.drop 24).take 2)
def rkP (ys:List Int):Pl:=((numI (ys.take 4),numI ((ys.drop 4).take 8)),(numI ((ys.drop 12).take 2),numI ((ys.drop 14).take 2)))
def rkL:Nat->List Int->List Pl
 | 0,_=>[]
 | n+1,ys=>rkP ys :: rkL n (ys.drop 16)
theorem Qsz:∀(n:Nat) (ys:List Int),(rkL n ys).length=n
 | 0,_=>rfl
 | n+1,ys=>by simp [rkL,Qsz n]
theorem Qmf:∀(n:Nat) (ys:List Int),rkL (n+1) ys=rkL n ys ++ [rkP (ys.drop (16*n))]
 | 0,ys=>by simp [rkL]
 | n+1,ys=>by
  show rkP ys :: rkL (n+1) (ys.drop 16)=_;rw [Qmf n,List.drop_drop];have e:16*(n+1)=16+16*n:=by omega
  rw [e];rfl
def rkPs (bs:List Int):List Pl:=rkL (rkN bs).toNat (bs.drop 26)
theorem Q0q (bs:List Int):valL bs hkW=[rkM bs,rkS bs,rkI bs,rkH bs,Qfp bs,rkN bs]:=by
 simp [valL,hkW,wd,rkM,rkS,rkI,rkH,Qfp,rkN,List.drop_drop]
theorem Q1b (ys:List Int):valL ys plW=plV (rkP ys):=by
 simp [valL,plW,wd,rkP,plV,List.drop_drop]
theorem off_hk:offL hkW=26:=by decide
theorem off_pl:offL plW=16:=by decide
def Fit2 (p:Pl):Prop:=Qel p.1/\Qb4 p.2.1/\Qb4 p.2.2
theorem Fit2.fits {p:Pl} (h:Fit2 p):Qdu p:=by
 obtain ⟨h1,h2,h3⟩:=h;unfold Qb4 at h2 h3;exact ⟨h1,by unfold I64;omega,by unfold I64;omega⟩
theorem Qme {ys:List Int} (h:∀z∈ys,Qaf z):Fit2 (rkP ys):=by
 have a:=Qa8 (n:=4) (Qb3 ys 0 4) (Qbr h 0 4);have b:=Qa8 (n:=8) (Qb3 ys 4 8) (Qbr h 4 8);have c:=Qa8 (n:=2) (Qb3 ys 12 2) (Qbr h 12 2);have d:=Qa8 (n:=2) (Qb3 ys 14 2) (Qbr h 14 2);exact ⟨⟨a,b⟩,c,d⟩
theorem Qie:∀(n:Nat) {ys:List Int},(∀z∈ys,Qaf z)->∀x∈rkL n ys,Fit2 x
 | 0,_,_,x,hx=>by simp [rkL] at hx
 | n+1,ys,h,x,hx=>by
  simp only [rkL,List.mem_cons] at hx
  rcases hx with rfl | hx
  ·exact Qme h
  ·exact Qie n (λ z hz=>h z (List.mem_of_mem_drop hz)) x hx
theorem Qse {bs:List Int} (h:∀z∈bs,Qaf z):Qai (Qfp bs):=Qa8 (n:=8) (Qb3 bs 16 8) (Qbr h 16 8)
theorem Qqv {bs:List Int} (h:∀z∈bs,Qaf z):Qb4 (rkN bs):=Qa8 (n:=2) (Qb3 bs 24 2) (Qbr h 24 2)
theorem Q3a {p:Pl} (h:Fit2 p) (more:List Int):rkP (plB p ++ more)=p:=by
 obtain ⟨⟨h1,h2⟩,h3,h4⟩:=h;have e:plB p ++ more=bigI 4 p.1.1 ++ (bigI 8 p.1.2 ++ (bigI 2 p.2.1 ++ (bigI 2 p.2.2 ++ more))):=by rw [Q1d];simp
 have d4:(plB p ++ more).drop 4=bigI 8 p.1.2 ++ (bigI 2 p.2.1 ++ (bigI 2 p.2.2 ++ more)):=by rw [e,List.drop_left' (Qac _ _)]
 have d12:(plB p ++ more).drop 12=bigI 2 p.2.1 ++ (bigI 2 p.2.2 ++ more):=by
  rw [show (12:Nat)=4+8 from rfl,<-List.drop_drop,d4,List.drop_left' (Qac _ _)]
 have d14:(plB p ++ more).drop 14=bigI 2 p.2.2 ++ more:=by
  rw [show (14:Nat)=12+2 from rfl,<-List.drop_drop,d12,List.drop_left' (Qac _ _)]
 unfold rkP;rw [d4,d12,d14,e];simp only [List.take_left' (Qac _ _)]
 rw [Qce h1.1 h1.2,Qce h2.1 h2.2,Qce h3.1 h3.2,Qce h4.1 h4.2]
theorem Qvh:∀(ps:List Pl) (more:List Int),(∀x∈ps,Fit2 x)->rkL ps.length (plsB ps ++ more)=ps
 | [],_,_=>rfl
 | p :: ps,more,h=>by
  have e:plsB (p :: ps) ++ more=plB p ++ (plsB ps ++ more):=by simp [plsB]
  show rkP _ :: rkL ps.length _=_;rw [e,Q3a (h p (by simp)),List.drop_left' (Qd2 _),Qvh ps more (λ y hy=>h y (by simp [hy]))]
theorem Q4g {N:Nat} {i m seq:Int} {ps:List Pl} (hi:Qas i) (hm:Qas m) (hs:Qai seq) (hp:∀x∈ps,Fit2 x) (hn:ps.length<=60000) :
  rkM (ckB N i m seq ps)=1129009236/\rkI (ckB N i m seq ps)=i/\rkH (ckB N i m seq ps)=m/\Qfp (ckB N i m seq ps)=seq/\rkN (ckB N i m seq ps)=ps.length/\rkPs (ckB N i m seq ps)=ps:=by
 have hN:rkN (ckB N i m seq ps)=ps.length:=by
  unfold rkN;have h2:(256:Int) ^ 2=65536:=by decide
  rw [Qgr (by omega),Qkx,List.take_left' (Qac _ _),Qce (by omega) (by omega)]
 refine ⟨?_,?_,?_,?_,hN,?_⟩
 ·unfold rkM
  rw [ckB,Qgu Qgg,Qt8,List.take_left' (Qac _ _)];decide
 ·unfold rkI
  rw [Qgr (by omega),Qn0,List.take_left' (Qac _ _),Qce hi.1 hi.2]
 ·unfold rkH
  rw [Qgr (by omega),Qkc,List.take_left' (Qac _ _),Qce hm.1 hm.2]
 ·unfold Qfp
  rw [Qgr (by omega),Qke,List.take_left' (Qac _ _),Qce hs.1 hs.2]
 ·unfold rkPs
  rw [hN,Qgr (by omega),Qs7,Int.toNat_natCast,Qvh _ _ hp]
def Qdx (b:Int):Int:=if b∈PowR then (b - 27) / 16 else 0
theorem Qgl {b:Int} (h:b∈PowR):2<=Qdx b/\27+16*Qdx b<=b/\Qdx b<=254:=by
 have:=Qar h;unfold Qdx;rw [if_pos h];omega
def Qpl (ps:List Pl):Prop:=∀i p q,ps[i]?=some p->ps[i+1]?=some q->ltP p.1 q.1=true
def InSh (s:Sh) (p:Pl):Prop:=2<=p.2.1/\p.2.1<s.z/\0<=p.2.2/\p.2.2<s.zb
def Qm8 (s:Sh) (ps:List Pl):Prop:=Qat s/\Qpl ps/\∀p∈ps,InSh s p
def Qbl (s:Sh):Nat:=(Qdx s.b).toNat
def Qd4 (r n:Nat):Nat:=max 1 ((n+r - 1) / r)
def Qb7 (r i:Nat) (ps:List Pl):List Pl:=(ps.drop (i*r)).take r
def mK (s:Sh) (ps:List Pl):Nat:=Qd4 (Qbl s) ps.length
def ckL (s:Sh) (seq:Int) (ps:List Pl):List (List Int):=(List.range (mK s ps)).map λ i:Nat=>ckB s.b.toNat i (mK s ps:Nat) seq (Qb7 (Qbl s) i ps)
open Classical in
noncomputable def ckE (s:Sh) (ps:List Pl):Int:=if Qm8 s ps then (if (mK s ps:Int)<=s.zb then 0 else 140) else 141
open Classical in
noncomputable def ckO (s:Sh) (seq:Int) (ps:List Pl):List (List Int):=if ckE s ps=0 then ckL s seq ps else []
theorem Qb2 {s:Sh} {ps:List Pl}:ckE s ps=0↔Qm8 s ps/\(mK s ps:Int)<=s.zb:=by
 unfold ckE;split
 ·split
  ·simp [*]
  ·simp [*]
 ·simp [*]
theorem Qcv {s:Sh} (h:Qat s):2<=Qbl s/\27+16*Qbl s<=s.b.toNat/\Qbl s<=254:=by
 have hb:s.b∈PowR:=h.2.2.2.2.1;have h1:=Qgl hb;have h2:=Qar hb;unfold Qbl;omega
theorem Q3v (s:Sh) (ps:List Pl):1<=mK s ps:=by unfold mK Qd4;omega
theorem Qen {r n:Nat} (hr:0<r):n<=Qd4 r n*r:=by
 have h1:=Nat.div_add_mod (n+r - 1) r;have h2:=Nat.mod_lt (n+r - 1) hr;have h3:(n+r - 1) / r<=Qd4 r n:=by unfold Qd4;omega
 have h4:(n+r - 1) / r*r<=Qd4 r n*r:=Nat.mul_le_mul_right r h3;rw [Nat.mul_comm] at h1;omega
theorem Qby (r i:Nat) (ps:List Pl):(Qb7 r i ps).length<=r:=by unfold Qb7;rw [List.length_take];omega
theorem Qm4 (r:Nat) (ps:List Pl):∀m:Nat,(List.range m).flatMap (λ i=>Qb7 r i ps)=ps.take (m*r)
 | 0=>by simp
 | m+1=>by
  rw [List.range_succ,List.flatMap_append,Qm4 r ps m];have e:(m+1)*r=m*r+r:=Nat.succ_mul m r;rw [e,List.take_add];simp [Qb7]
theorem Qbt (s:Sh) (seq:Int) (ps:List Pl):(ckL s seq ps).length=mK s ps:=by simp [ckL]
theorem Qu3 {s:Sh} {seq:Int} {ps:List Pl} {i:Nat} (h:i<mK s ps):(ckL s seq ps)[i]?=some (ckB s.b.toNat i (mK s ps:Nat) seq (Qb7 (Qbl s) i ps)):=by
 unfold ckL;rw [List.getElem?_map,List.getElem?_range h];rfl
theorem Qwg {s:Sh} {seq:Int} {ps:List Pl} {b:List Int} (h:b∈ckL s seq ps):∃i,i<mK s ps/\b=ckB s.b.toNat (i:Nat) (mK s ps:Nat) seq (Qb7 (Qbl s) i ps):=by
 unfold ckL at h;obtain ⟨i,hi,rfl⟩:=List.mem_map.1 h;exact ⟨i,List.mem_range.1 hi,rfl⟩
theorem Qi1 {s:Sh} {ps:List Pl} (h:Qm8 s ps) (hn:∀p∈ps,Qel p.1):∀p∈ps,Fit2 p:=by
 intro p hp;have h1:=h.2.2 p hp;have h2:=h.1;unfold InSh at h1;unfold Qat at h2;exact ⟨hn p hp,by unfold Qb4;omega,by unfold Qb4;omega⟩
theorem Qqd {r i:Nat} {ps:List Pl} {p:Pl} (h:p∈Qb7 r i ps):p∈ps:=List.mem_of_mem_drop (List.mem_of_mem_take h)
def Qaw (l:List (List Int)):List Pl:=l.flatMap rkPs
def Qa0 (l:List (List Int)):Int:=l.foldl (λ _ b=>Qfp b) 0
theorem Qkb (l:List (List Int)) (b:List Int):Qaw (l ++ [b])=Qaw l ++ rkPs b:=by simp [Qaw]
theorem Qeb (l:List (List Int)) (b:List Int):Qa0 (l ++ [b])=Qfp b:=by simp [Qa0]
def IsK (s:Sh) (l:List (List Int)):Prop:=ckE s (Qaw l)=0/\ckL s (Qa0 l) (Qaw l)=l
theorem Qk6 {l:List (List Int)} (h:∀b∈l,∀z∈b,Qaf z):∀p∈Qaw l,Fit2 p:=by
 intro p hp;obtain ⟨b,hb,hp⟩:=List.mem_flatMap.1 hp;exact Qie _ (λ z hz=>h b hb z (List.mem_of_mem_drop hz)) p hp
theorem Qec:∀(l:List (List Int)) (_:∀b∈l,∀z∈b,Qaf z),Qai (Qa0 l):=by
 intro l h;rcases List.eq_nil_or_concat l with rfl | ⟨r,b,rfl⟩
 ·unfold Qa0 Qai;simp
 ·rw [List.concat_eq_append,Qeb]
  exact Qse (h b (by simp))
theorem flatMap_congr' {α β:Type} {f g:α->List β} {l:List α} (h:∀x∈l,f x=g x):l.flatMap f=l.flatMap g:=by
 induction l with
 | nil=>rfl
 | cons a r ih=>rw [List.flatMap_cons,List.flatMap_cons,h a (by simp),ih (λ x hx=>h x (by simp [hx]))]
theorem Qox {s:Sh} {seq:Int} {ps:List Pl} (hs:Qai seq) (hn:∀p∈ps,Qel p.1) (hz:ckE s ps=0) {i:Nat} (hi:i<mK s ps) :
  let b:=ckB s.b.toNat (i:Nat) (mK s ps:Nat) seq (Qb7 (Qbl s) i ps)
  rkM b=1129009236/\rkI b=i/\rkH b=(mK s ps:Nat)/\Qfp b=seq/\rkN b=((Qb7 (Qbl s) i ps).length:Nat)/\rkPs b=Qb7 (Qbl s) i ps/\b.length=s.b.toNat:=by
 obtain ⟨hg,hm⟩:=Qb2.1 hz;have hr:=Qcv hg.1;have hzb:s.zb<=4096:=hg.1.2.2.2.1;have hl:=Qby (Qbl s) i ps;obtain ⟨h1,h2,h3,h4,h5,h6⟩:=Q4g (N:=s.b.toNat) (i:=(i:Nat)) (m:=(mK s ps:Nat)) (seq:=seq) (ps:=Qb7 (Qbl s) i ps) (by unfold Qas;omega) (by unfold Qas;omega) hs (λ p hp=>Qi1 hg hn p (Qqd hp)) (by omega);exact ⟨h1,h2,h3,h4,h5,h6,Qd3 (by omega)⟩
theorem Q14 {s:Sh} {seq:Int} {ps:List Pl} (hs:Qai seq) (hn:∀p∈ps,Qel p.1) (hz:ckE s ps=0):IsK s (ckL s seq ps)/\Qa0 (ckL s seq ps)=seq/\Qaw (ckL s seq ps)=ps:=by
 obtain ⟨hg,hm⟩:=Qb2.1 hz;have hr:=Qcv hg.1;have e1:Qaw (ckL s seq ps)=ps:=by
  unfold Qaw ckL;rw [List.flatMap_map,flatMap_congr' (g:=λ i=>Qb7 (Qbl s) i ps) (λ i hi=>(Qox hs hn hz (List.mem_range.1 hi)).2.2.2.2.2.1),Qm4];exact List.take_of_length_le (Qen (r:=Qbl s) (n:=ps.length) (by omega))
 have e2:Qa0 (ckL s seq ps)=seq:=by
  have h1:=Q3v s ps;obtain ⟨k,hk⟩:∃k,mK s ps=k+1:=⟨mK s ps - 1,by omega⟩
  have e:ckL s seq ps=(List.range k).map (λ i:Nat=>ckB s.b.toNat i (mK s ps:Nat) seq (Qb7 (Qbl s) i ps)) ++ [ckB s.b.toNat (k:Nat) (mK s ps:Nat) seq (Qb7 (Qbl s) k ps)]:=by
   unfold ckL;conv=>lhs;rw [show List.range (mK s ps)=List.range k ++ [k] from by rw [hk,List.range_succ]]
   rw [List.map_append];rfl
  rw [e,Qeb];exact (Qox hs hn hz (by omega)).2.2.2.1
 exact ⟨⟨by rw [e1];exact hz,by rw [e1,e2]⟩,e2,e1⟩
section
variable {s:Sh} {l:List (List Int)}
theorem IsK.each (h:IsK s l) (hf:∀b∈l,∀z∈b,Qaf z) {i:Nat} {b:List Int} (hb:l[i]?=some b) :
  rkM b=1129009236/\rkI b=i/\rkH b=(l.length:Nat)/\Qfp b=Qa0 l/\(rkN b).toNat<=Qbl s/\rkPs b=Qb7 (Qbl s) i (Qaw l)/\b.length=s.b.toNat/\b=Qek (Qnp b):=by
 have hlen:l.length=mK s (Qaw l):=by
  have:=congrArg List.length h.2;rw [Qbt] at this;exact this.symm
 have hi:i<mK s (Qaw l):=by rw [<-hlen];exact (List.getElem?_eq_some_iff.1 hb).1
 have hr:=Qox (Qec l hf) (λ p hp=>(Qk6 hf p hp).1) h.1 hi;have hbe:b=ckB s.b.toNat (i:Nat) (mK s (Qaw l):Nat) (Qa0 l) (Qb7 (Qbl s) i (Qaw l)):=by
  have:=Qu3 (seq:=Qa0 l) hi;rw [h.2,hb] at this;exact Option.some.inj this
 obtain ⟨h1,h2,h3,h4,h5,h6,h7⟩:=hr;rw [<-hbe] at h1 h2 h3 h4 h5 h6 h7;refine ⟨h1,h2,by rw [h3,hlen],h4,?_,h6,h7,by rw [hbe];exact Qyb⟩
 rw [h5];have:=Qby (Qbl s) i (Qaw l);omega
theorem IsK.length (h:IsK s l):l.length=mK s (Qaw l):=by
 have:=congrArg List.length h.2;rw [Qbt] at this;exact this.symm
end
end
end Go.Proofs.YtcdnjeiamihhbaaGreat
