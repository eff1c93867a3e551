/- P15 -/
import Derived.Test.YtcdnjeiamihhbaaGreatP14
set_option linter.unusedVariables false
set_option maxRecDepth 4000
open Go.Proofs.Tryz
namespace Go.Proofs.YtcdnjeiamihhbaaGreat
open Go.RowKit
theorem Qo4 (p q:Addr) (w:World) :
  CallsD prog 208 #[.pointer (some p),.pointer (some q)] .returning w λ e u' w'=>e=.returned (.tuple #[])/\u'=.returning/\w'=w:=by
 refine callsD_of_wpS func208 rfl λ c₀ cs hu=>?_
 apply wpS_seq
 apply wpS_region
 simp [wpOpsS,go_sem,recoverD,hu,ntmps208,Exit.thenS]
 refine wpS_cond (t:=false) (by simp [Act.eval,Array.replicate]) ?_
 simp only [Bool.false_eq_true,if_false]
 refine wpS_of_wp (wp_skip ?_)
 cases c₀
 simp_all [bodyPostS,results,Tryz.results208]
theorem Qh5 (p q:Nat) (u:TypeId) (pv:Value) (older:List PanicEntry) (w:World) (v0 v1:Value)
  (hp:w.cell? ⟨p,0,none⟩=some v0) (hq:w.cell? ⟨q,0,none⟩=some v1) (zp:w.frozen? ⟨p,0,none⟩=false) (zq:w.frozen? ⟨q,0,none⟩=false) (hne:q≠p) :
  CallsD prog 208 #[.pointer (some ⟨p,0,none⟩),.pointer (some ⟨q,0,none⟩)] (.panicking ({v:=.iface u pv,recovered:=false} :: older)) w λ e u' w'=>
   e=.returned (.tuple #[])/\u'=.panicking ({v:=.iface u pv,recovered:=true} :: older)/\w'=(w.setCell ⟨p,0,none⟩ (.slice none 0 0)).setCell ⟨q,0,none⟩ (.int .u16 110):=by
 refine callsD_of_wpS func208 rfl λ c₀ cs hu=>?_
 apply wpS_seq
 apply wpS_region
 simp [wpOpsS,go_sem,recoverD,hu,ntmps208,Exit.thenS]
 refine wpS_cond (t:=true) (by simp [Act.eval,Array.replicate]) ?_
 simp only [if_true]
 apply wpS_region
 simp [wpOpsS,go_sem,hp,hq,zp,zq,bodyPostS,results,Tryz.results208]
def Qpm (w:World) (seq:Int) (xs:List It) (b:Int) (e:Ending) (w':World):Prop:=
 ∃A n C,e=.returned (.tuple #[.slice A n C,.int .u16 (encE xs b)])/\w'.ownsRow w.heap.size 5 1 (.slice A n C) n (u8s (encB seq xs b))/\Below w.heap.size w w'/\C=n
def Q34 (q:Nat):List Deferred:=[{target:=.fn (.func 208) #[.pointer (some ⟨q+1,0,none⟩),.pointer (some ⟨q+2,0,none⟩)],args:=#[]}]
theorem Qi6 (q:Nat) (tmps:Array Value) (w:World) (v1 v2:Value) (h4:tmps.getD 4 undef=.pointer (some ⟨q+1,0,none⟩)) (h5:tmps.getD 5 undef=.pointer (some ⟨q+2,0,none⟩)) (c1:w.cell? ⟨q+1,0,none⟩=some v1) (c2:w.cell? ⟨q+2,0,none⟩=some v2) :
  (results Tryz.f139 tmps).run prog w=.ok (.tuple #[v1,v2]) w:=by
 have k4:tmps[4]?.getD undef=.pointer (some ⟨q+1,0,none⟩):=by simpa using h4
 have k5:tmps[5]?.getD undef=.pointer (some ⟨q+2,0,none⟩):=by simpa using h5
 simp [results,Tryz.results139,go_sem,k4,k5,c1,c2]
theorem Qyy {q:Nat} {w V:World} {seq:Int} {xs:List It} {b:Int} (hq:q=w.heap.size) (hb:Blk V (q+1) [.slice none 0 0] 71) (he:Blk V (q+2) [.int .u16 0] 51) (bel:Below w.heap.size w V) (hno:¬GoodR xs b) (tmps:Array Value) (h4:tmps.getD 4 undef=.pointer (some ⟨q+1,0,none⟩)) (h5:tmps.getD 5 undef=.pointer (some ⟨q+2,0,none⟩)) :
  Leaves prog Tryz.f139 tmps (Qpm w seq xs b) (Q34 q) (.panicking [{v:=.iface 9 (.string Qw2),recovered:=false}]) V:=by
 refine leaves_cons (f:=208) (args:=#[.pointer (some ⟨q+1,0,none⟩),.pointer (some ⟨q+2,0,none⟩)]) (by simp) (by simp [go_sem]) ?_
 refine (Qh5 (q+1) (q+2) 9 _ [] _ _ _ (hb.cell 0) (he.cell 0) (hb.frozen 0) (he.frozen 0) (by omega)).mono ?_
 rintro e u' w'' ⟨rfl,rfl,rfl⟩;have k1:=(hb.set 0 (.slice none 0 0)).set_other (a:=⟨q+2,0,none⟩) (by show q+1≠q+2;omega) (.int .u16 110);have k2:=(he.set_other (a:=⟨q+1,0,none⟩) (by show q+2≠q+1;omega) (.slice none 0 0)).set 0 (.int .u16 110);refine ⟨_,Qi6 q tmps _ _ _ h4 h5 (k1.cell 0) (k2.cell 0),none,0,0,?_⟩
 unfold encE encB;rw [if_neg hno,if_neg hno];exact ⟨rfl,World.ownsRow_nil _ _ _ _,(bel.setCell (by show w.heap.size<=q+1;omega) _).setCell (by show w.heap.size<=q+2;omega) _,rfl⟩
theorem Qxn {q:Nat} {w V:World} {seq:Int} {xs:List It} {b:Int} {pb N:Nat} (hq:q=w.heap.size) (hb:Blk V (q+1) [.slice (some ⟨pb,0,none⟩) N N] 71) (he:Blk V (q+2) [.int .u16 0] 51) (bel:Below w.heap.size w V) (hg:GoodR xs b) (hN:b=N) (ow:V.ownsRow w.heap.size 5 1 (.slice (some ⟨pb,0,none⟩) N N) N (u8s (encL seq xs N))) (tmps:Array Value) (h4:tmps.getD 4 undef=.pointer (some ⟨q+1,0,none⟩)) (h5:tmps.getD 5 undef=.pointer (some ⟨q+2,0,none⟩)) :
  Leaves prog Tryz.f139 tmps (Qpm w seq xs b) (Q34 q) .returning V:=by
 refine leaves_cons (f:=208) (args:=#[.pointer (some ⟨q+1,0,none⟩),.pointer (some ⟨q+2,0,none⟩)]) (by simp) (by simp [go_sem]) ?_
 refine (Qo4 _ _ _).mono ?_
 rintro e u' w'' ⟨rfl,rfl,rfl⟩;refine ⟨_,Qi6 q tmps _ _ _ h4 h5 (hb.cell 0) (he.cell 0),some ⟨pb,0,none⟩,N,N,?_⟩
 unfold encE encB;rw [if_pos hg,if_pos hg,hN];exact ⟨rfl,ow,bel,rfl⟩
set_option maxHeartbeats 2000000 in
theorem Qwf (seq:Int) (A:Option Addr) (n C:Nat) (xs:List It) (b:Int) (w:World) (hs:Qai seq) (hi:ItsIn w A n xs) :
  Calls prog 139 #[.agg #[.int .u64 seq,.slice A n C],.int .i64 b] w (Qpm w seq xs b):=by
 have hmf:∀(fn:Fn) (first cap:Array Value) (w:World),(Instr.makeFunc fn first cap).run prog w=.ok (.func fn first cap) w:=λ _ _ _ _=>rfl
 obtain ⟨q,hq⟩:∃q,q=w.heap.size:=⟨_,rfl⟩
 have r0:Blk (((w.alloc (.cells #[.int .u64 seq,.slice A n C] 177)).alloc (.cells #[.slice none 0 0] 71)).alloc (.cells #[.int .u16 0] 51)) q [.int .u64 seq,.slice A n C] 177:=((Blk.new' hq.symm rfl).alloc _).alloc _;have r1:Blk (((w.alloc (.cells #[.int .u64 seq,.slice A n C] 177)).alloc (.cells #[.slice none 0 0] 71)).alloc (.cells #[.int .u16 0] 51)) (q+1) [.slice none 0 0] 71:=(Blk.new' (by simp [hq]) rfl).alloc _;have r2:Blk (((w.alloc (.cells #[.int .u64 seq,.slice A n C] 177)).alloc (.cells #[.slice none 0 0] 71)).alloc (.cells #[.int .u16 0] 51)) (q+2) [.int .u16 0] 51:=Blk.new' (by simp [hq]) rfl;have bw:Below w.heap.size w (((w.alloc (.cells #[.int .u64 seq,.slice A n C] 177)).alloc (.cells #[.slice none 0 0] 71)).alloc (.cells #[.int .u16 0] 51)):=(((Below.refl _ _).alloc (Nat.le_refl _) _).alloc (by simp) _).alloc (by simp;omega) _;have H:=Jh3 hs hi hq;clear hs hi;go_enter_defers func139,ntmps139
 go_upto_region 2 with fail
 rw [<-hq];have e2:q+1+1=q+2:=rfl;rw [e2];clear hq e2;generalize hW:World.alloc (World.alloc (World.alloc w _) _) _=W at r0 r1 r2 bw ⊢;have HW:=Jh3 r1 r2 bw;have c0:W.cell? ⟨q,0,none⟩=some (.int .u64 seq):=r0.cell 0;have c1:W.cell? ⟨q,1,none⟩=some (.slice A n C):=r0.cell 1;clear r0 r1 r2 bw hW;go_wp2_with fail
 refine (Qki seq A n C xs b W H.out.1 ((J2 H).below (Jz2 HW))).mono ?_
 rintro e W2 ⟨b2,(⟨hno,he⟩ | ⟨hg,pb,N,hN,rfl,ow⟩)⟩
 ·unfold Qdm at he
  subst he;exact Qyy (Jz2 H) (HW.out.1.below b2 HW.out.1.lt) ((J2 HW).below b2 (J2 HW).lt) ((Jz2 HW).trans (b2.mono (Jz2 HW).size)) hno _ rfl rfl
 ·have k1:=HW.out.1.below b2 HW.out.1.lt
  have k2:=(J2 HW).below b2 (J2 HW).lt;have d1:W2.cell? ⟨q+1,0,none⟩=some (.slice none 0 0):=k1.cell 0;have d2:W2.cell? ⟨q+2,0,none⟩=some (.int .u16 0):=k2.cell 0;have z1:=k1.frozen 0;have z2:=k2.frozen 0;have hlt:=(J2 HW).lt;have HZ:Hid (Blk ((W2.setCell ⟨q+1,0,none⟩ (.slice (some ⟨pb,0,none⟩) N N)).setCell ⟨q+2,0,none⟩ (.int .u16 0)) (q+1) [.slice (some ⟨pb,0,none⟩) N N] 71/\Blk ((W2.setCell ⟨q+1,0,none⟩ (.slice (some ⟨pb,0,none⟩) N N)).setCell ⟨q+2,0,none⟩ (.int .u16 0)) (q+2) [.int .u16 0] 51/\
    Below w.heap.size w ((W2.setCell ⟨q+1,0,none⟩ (.slice (some ⟨pb,0,none⟩) N N)).setCell ⟨q+2,0,none⟩ (.int .u16 0))/\((W2.setCell ⟨q+1,0,none⟩ (.slice (some ⟨pb,0,none⟩) N N)).setCell ⟨q+2,0,none⟩ (.int .u16 0)).ownsRow w.heap.size 5 1 (.slice (some ⟨pb,0,none⟩) N N) N (u8s (encL seq xs N))/\GoodR xs b/\b=N):=
   ⟨(k1.set 0 _).set_other (by show q+1≠q+2;omega) _,(k2.set_other (by show q+2≠q+1;omega) _).set 0 _,(((Jz2 HW).trans (b2.mono (Jz2 HW).size)).setCell (by show w.heap.size<=q+1;have:=(Jz2 H);omega) _).setCell (by show w.heap.size<=q+2;have:=(Jz2 H);omega) _,
    Qa3 (ownsRow_setCell_below (ownsRow_setCell_below ow (by show q+1<W.heap.size;omega) _) (by show q+2<W.heap.size;omega) _) (Jz2 HW).size,hg,hN⟩
  clear k1 k2 b2 ow hg hN hlt;go_wp2
  exact Qxn (Jz2 H) HZ.out.1 (J2 HZ) (J3 HZ) (J5 HZ) (Jz5 HZ) (J4 HZ) _ rfl rfl
theorem Qpp (p q:Addr) (w:World) :
  CallsD prog 226 #[.pointer (some p),.pointer (some q)] .returning w λ e u' w'=>e=.returned (.tuple #[])/\u'=.returning/\w'=w:=by
 refine callsD_of_wpS func226 rfl λ c₀ cs hu=>?_
 apply wpS_seq
 apply wpS_region
 simp [wpOpsS,go_sem,recoverD,hu,ntmps226,Exit.thenS]
 refine wpS_cond (t:=false) (by simp [Act.eval,Array.replicate]) ?_
 simp only [Bool.false_eq_true,if_false]
 refine wpS_of_wp (wp_skip ?_)
 cases c₀
 simp_all [bodyPostS,results,Tryz.results226]
theorem Qh4 (p q:Nat) (u:TypeId) (pv:Value) (older:List PanicEntry) (w:World) (v0 v1 v2:Value)
  (hp:Blk w p [v0,v1] 177) (hq:w.cell? ⟨q,0,none⟩=some v2) (zq:w.frozen? ⟨q,0,none⟩=false) (hne:q≠p) :
  CallsD prog 226 #[.pointer (some ⟨p,0,none⟩),.pointer (some ⟨q,0,none⟩)] (.panicking ({v:=.iface u pv,recovered:=false} :: older)) w λ e u' w'=>
   e=.returned (.tuple #[])/\u'=.panicking ({v:=.iface u pv,recovered:=true} :: older)/\w'=((w.setCell ⟨p,0,none⟩ (.int .u64 0)).setCell ⟨p,1,none⟩ (.slice none 0 0)).setCell ⟨q,0,none⟩ (.int .u16 111):=by
 have e0:w.cell? ⟨p,0,none⟩=some v0:=hp.cell 0;have e1:w.cell? ⟨p,1,none⟩=some v1:=hp.cell 1;have z0:=hp.frozen 0;have z1:=hp.frozen 1;refine callsD_of_wpS func226 rfl λ c₀ cs hu=>?_
 apply wpS_seq
 apply wpS_region
 simp [wpOpsS,go_sem,recoverD,hu,ntmps226,Exit.thenS]
 refine wpS_cond (t:=true) (by simp [Act.eval,Array.replicate]) ?_
 simp only [if_true]
 apply wpS_region
 simp [wpOpsS,go_sem,e0,e1,z0,z1,hq,zq,bodyPostS,results,Tryz.results226]
def Qku (w:World) (bs:List Int) (e:Ending) (w':World):Prop:=
 ∃A n C,e=.returned (.tuple #[.agg #[.int .u64 (decS bs),.slice A n C],.int .u16 (decE bs)])/\ItsIn w' A n (decX bs)/\Below w.heap.size w w'/\Qii w.heap.size A n
def defD (q:Nat):List Deferred:=[{target:=.fn (.func 226) #[.pointer (some ⟨q,0,none⟩),.pointer (some ⟨q+1,0,none⟩)],args:=#[]}]
theorem Qjr (q:Nat) (tmps:Array Value) (w:World) (v0 v1 v2:Value) (h2:tmps.getD 2 undef=.pointer (some ⟨q,0,none⟩)) (h3:tmps.getD 3 undef=.pointer (some ⟨q+1,0,none⟩)) (hb:Blk w q [v0,v1] 177) (c2:w.cell? ⟨q+1,0,none⟩=some v2) :
  (results Tryz.f155 tmps).run prog w=.ok (.tuple #[.agg #[v0,v1],v2]) w:=by
 have hl:=run_loadVar_row (P:=prog) w q 177 177 [v0,v1].toArray (0,0) _ hb Tryz.underlying177 rfl (by rw [Tryz.info_record];simp);have l2:(loadVar 51 ⟨q+1,0,none⟩).run prog w=.ok v2 w:=by simp [go_sem,c2]
 have:(results Tryz.f155 tmps).run prog w=((asAddr (tmps.getD 2 undef)).run prog w).andThen λ a w₁=>((loadVar 177 a).run prog w₁).andThen λ z w₂=>((asAddr (tmps.getD 3 undef)).run prog w₂).andThen λ a w₃=>((loadVar 51 a).run prog w₃).andThen λ y w₄=>.ok (.tuple #[z,y]) w₄:=by
  simp only [results,Tryz.results155]
  simp [Sem.run_bind,Result.andThen]
 rw [this,h2,h3];simp [asAddr,hl,l2,Result.andThen]
theorem Qlr {q:Nat} {w V:World} {bs:List Int} {v0 v1:Value} {s:ByteArray} (hq:q=w.heap.size) (hb:Blk V q [v0,v1] 177) (he:Blk V (q+1) [.int .u16 0] 51) (bel:Below w.heap.size w V) (hno:¬IsR bs) (tmps:Array Value) (h2:tmps.getD 2 undef=.pointer (some ⟨q,0,none⟩)) (h3:tmps.getD 3 undef=.pointer (some ⟨q+1,0,none⟩)) :
  Leaves prog Tryz.f155 tmps (Qku w bs) (defD q) (.panicking [{v:=.iface 9 (.string s),recovered:=false}]) V:=by
 refine leaves_cons (f:=226) (args:=#[.pointer (some ⟨q,0,none⟩),.pointer (some ⟨q+1,0,none⟩)]) (by simp) (by simp [go_sem]) ?_
 refine (Qh4 q (q+1) 9 _ [] _ _ _ _ hb (he.cell 0) (he.frozen 0) (by omega)).mono ?_
 rintro e u' w'' ⟨rfl,rfl,rfl⟩;have k1:=((hb.set 0 (.int .u64 0)).set 1 (.slice none 0 0)).set_other (a:=⟨q+1,0,none⟩) (by show q≠q+1;omega) (.int .u16 111);have k2:=((he.set_other (a:=⟨q,0,none⟩) (by show q+1≠q;omega) (.int .u64 0)).set_other (a:=⟨q,1,none⟩) (by show q+1≠q;omega) (.slice none 0 0)).set 0 (.int .u16 111);refine ⟨_,Qjr q tmps _ _ _ _ h2 h3 k1 (k2.cell 0),none,0,0,?_⟩
 unfold decS decE decX;rw [if_neg hno,if_neg hno,if_neg hno];exact ⟨rfl,Qkv _,((bel.setCell (by show w.heap.size<=q;omega) _).setCell (by show w.heap.size<=q;omega) _).setCell (by show w.heap.size<=q+1;omega) _,λ h=>(h rfl).elim⟩
theorem Qxi {q:Nat} {w V:World} {bs:List Int} {A:Option Addr} {n C:Nat} (hb:Blk V q [.int .u64 (Qd6 bs),.slice A n C] 177) (he:Blk V (q+1) [.int .u16 0] 51) (bel:Below w.heap.size w V) (hg:IsR bs) (hi:ItsIn V A n (Qb8 bs)) (hfr:Qii w.heap.size A n) (tmps:Array Value) (h2:tmps.getD 2 undef=.pointer (some ⟨q,0,none⟩)) (h3:tmps.getD 3 undef=.pointer (some ⟨q+1,0,none⟩)) :
  Leaves prog Tryz.f155 tmps (Qku w bs) (defD q) .returning V:=by
 refine leaves_cons (f:=226) (args:=#[.pointer (some ⟨q,0,none⟩),.pointer (some ⟨q+1,0,none⟩)]) (by simp) (by simp [go_sem]) ?_
 refine (Qpp _ _ _).mono ?_
 rintro e u' w'' ⟨rfl,rfl,rfl⟩;refine ⟨_,Qjr q tmps _ _ _ _ h2 h3 hb (he.cell 0),A,n,C,?_⟩
 unfold decS decE decX;rw [if_pos hg,if_pos hg,if_pos hg];exact ⟨rfl,hi,bel,hfr⟩
theorem Q3r {bs:List Int} (h:IsR bs):RdOk bs:=by
 have:=h.bounds;exact ⟨by omega,h.magic,by omega⟩
theorem ItsIn.set {W:World} {A:Option Addr} {m:Nat} {xs:List It} (h:ItsIn W A m xs) {q:Nat} (hq:∀j t,W.cell? ⟨q,j,none⟩≠some (.int .u32 t)) (i:Nat) (v:Value):ItsIn (W.setCell ⟨q,i,none⟩ v) A m xs:=by
 obtain ⟨h1,h2,h3,h4⟩:=h;refine ⟨h1,h2,h3,?_⟩
 rcases h4 with h4 | ⟨b,off,ha,hc⟩
 ·exact .inl h4
 ·refine .inr ⟨b,off,ha,λ k x hx j u hu=>?_⟩
  have hne:b≠q:=by
   rintro rfl;exact hq _ _ (hc k x hx 0 _ rfl)
  exact Qa1 (hc k x hx j u hu) hne
theorem Qlc {W:World} {q:Nat} {v:Int} {a:Option Addr} {n c:Nat} {t:TypeId} (h:Blk W q [.int .u64 v,.slice a n c] t):∀j t,W.cell? ⟨q,j,none⟩≠some (.int .u32 t):=by
 intro j t e;rw [h.cell] at e;match j,e with
 | 0,e=>cases e
 | 1,e=>cases e
 | j+2,e=>simp at e
set_option maxHeartbeats 2000000 in
theorem Qtz (a:Option Addr) (n c:Nat) (bs:List Int) (w:World) (hx:BIn w a n bs) (hnil:a=none->n=0/\c=0) (hnc:n<=c) (hn:n<=100000) :
  Calls prog 155 #[.slice a n c] w (Qku w bs):=by
 have hmf:∀(fn:Fn) (first cap:Array Value) (w:World),(Instr.makeFunc fn first cap).run prog w=.ok (.func fn first cap) w:=λ _ _ _ _=>rfl
 obtain ⟨q,hq⟩:∃q,q=w.heap.size:=⟨_,rfl⟩
 have r0:Blk ((w.alloc (.cells #[.int .u64 0,.slice none 0 0] 177)).alloc (.cells #[.int .u16 0] 51)) q [.int .u64 0,.slice none 0 0] 177:=(Blk.new' hq.symm rfl).alloc _;have r1:Blk ((w.alloc (.cells #[.int .u64 0,.slice none 0 0] 177)).alloc (.cells #[.int .u16 0] 51)) (q+1) [.int .u16 0] 51:=Blk.new' (by simp [hq]) rfl;have bw:Below w.heap.size w ((w.alloc (.cells #[.int .u64 0,.slice none 0 0] 177)).alloc (.cells #[.int .u16 0] 51)):=((Below.refl _ _).alloc (Nat.le_refl _) _).alloc (by simp) _;have H:=Jh4 hx hnil hnc hq;clear hx hnil hnc;go_enter_defers func155,ntmps155
 go_upto_region 2 with fail
 rw [<-hq];clear hq;generalize hW:World.alloc (World.alloc w _) _=W at r0 r1 bw ⊢;have HW:=Jh3 r0 r1 bw;clear r0 r1 bw hW;go_wp2_with fail
 refine (Qz7 a n c bs W (H.out.1.below (Jz2 HW)) (J2 H) (J3 H) hn).mono ?_
 rintro e W2 ⟨b2,(⟨hno,he⟩ | ⟨hok,A,m,C,rfl,it2,fr2⟩)⟩
 ·unfold Qdm at he
  subst he;exact Qlr (Jz3 H) (HW.out.1.below b2 HW.out.1.lt) ((J2 HW).below b2 (J2 HW).lt) ((Jz2 HW).trans (b2.mono (Jz2 HW).size)) (λ h=>hno (Q3r h)) _ rfl rfl
 ·have k1:=HW.out.1.below b2 HW.out.1.lt
  have k2:=(J2 HW).below b2 (J2 HW).lt;have hlt:=(J2 HW).lt;have d0:W2.cell? ⟨q,0,none⟩=some (.int .u64 0):=k1.cell 0;have d1:W2.cell? ⟨q,1,none⟩=some (.slice none 0 0):=k1.cell 1;have z0:=k1.frozen 0;have z1:=k1.frozen 1;obtain ⟨S,hS⟩:∃S,S=Qd6 bs:=⟨_,rfl⟩
  rw [<-hS];have k1a:Blk (W2.setCell ⟨q,0,none⟩ (.int .u64 S)) q [.int .u64 S,.slice none 0 0] 177:=k1.set 0 _;have k1b:Blk ((W2.setCell ⟨q,0,none⟩ (.int .u64 S)).setCell ⟨q,1,none⟩ (.slice A m C)) q [.int .u64 S,.slice A m C] 177:=k1a.set 1 _;have k2b:=(k2.set_other (a:=⟨q,0,none⟩) (by show q+1≠q;omega) (.int .u64 S)).set_other (a:=⟨q,1,none⟩) (by show q+1≠q;omega) (.slice A m C);have it3:=(it2.set (Qlc k1) 0 (.int .u64 S)).set (Qlc k1a) 1 (.slice A m C);have bel3:=(((Jz2 HW).trans (b2.mono (Jz2 HW).size)).setCell (p:=⟨q,0,none⟩) (by show w.heap.size<=q;have:=(Jz3 H);omega) (.int .u64 S)).setCell (p:=⟨q,1,none⟩) (by show w.heap.size<=q;have:=(Jz3 H);omega) (.slice A m C);have HFr:Hid (Qii w.heap.size A m):=λ hn y hy=>by
   have h1:=fr2 hn y hy;have h2:=(Jz2 HW).size;omega
  have HS:=Jh1 hS;clear k1 k2 k1a it2 hS fr2;go_upto_region 3 with fail
  generalize hW3:World.setCell (World.setCell W2 _ _) _ _=W3 at k1b k2b it3 bel3 ⊢;have H3:=Jh6 k1b k2b it3 bel3 HS.out H.out.1.1;have c0:W3.cell? ⟨q,0,none⟩=some (.int .u64 S):=k1b.cell 0;have c1:W3.cell? ⟨q,1,none⟩=some (.slice A m C):=k1b.cell 1;clear k1b k2b it3 bel3 d0 d1 z0 z1 b2 hlt hW3 hok;go_wp2_with fail
  refine (Qki S A m C (Qb8 bs) (n:Int) W3 (by rw [(J5 H3)];exact Qha H.out.1.2.2.1) (J3 H3)).mono ?_
  rintro e W4 ⟨b4,(⟨hno,he⟩ | ⟨hg,pb,N,hN,rfl,ow⟩)⟩
  ·unfold Qdm at he
   subst he;exact Qlr (Jz3 H) (H3.out.1.below b4 H3.out.1.lt) ((J2 H3).below b4 (J2 H3).lt) ((J4 H3).trans (b4.mono (J4 H3).size)) (λ h=>hno (by have:=h.1;rw [(Jz5 H3)] at this;exact this)) _ rfl rfl
  ·obtain rfl:n=N:=by omega
   have k1:=H3.out.1.below b4 H3.out.1.lt;have k2:=(J2 H3).below b4 (J2 H3).lt;have H4:=Jh5 k1 k2 ((J3 H3).below b4) ((J4 H3).trans (b4.mono (J4 H3).size)) hg;have cE:=Qr0 (some ⟨pb,0,none⟩) n n (encL S (Qb8 bs) n) a n c bs W4 (Qcf ow (by unfold maxLen;omega) (Qk9 _ _ _)) (H.out.1.below (J4 H4));have hiff:IsR bs↔encL S (Qb8 bs) n=bs:=by
    unfold IsR;rw [(Jz5 H3),(J5 H3)];exact ⟨λ h=>h.2,λ h=>⟨(Jz4 H4),h⟩⟩
   have c0:W4.cell? ⟨q,0,none⟩=some (.int .u64 S):=k1.cell 0;have c1:W4.cell? ⟨q,1,none⟩=some (.slice A m C):=k1.cell 1;have z0:=k1.frozen 0;have z1:=k1.frozen 1;have d2:W4.cell? ⟨q+1,0,none⟩=some (.int .u16 0):=k2.cell 0;have z2:=k2.frozen 0;clear k1 k2 ow hg b4 hN;by_cases hr:IsR bs
   ·have HR:=Jh1 hr
    rw [decide_eq_true (hiff.1 hr)] at cE;clear hr hiff;go_upto_region 5 with (go_at_call 192;refine cE.mono ?_;rintro e W5 ⟨rfl,hw5⟩;replace hw5:=hw5.symm;subst hw5)
    have HZ:Hid (Blk (((W4.setCell ⟨q,0,none⟩ (.int .u64 S)).setCell ⟨q,1,none⟩ (.slice A m C)).setCell ⟨q+1,0,none⟩ (.int .u16 0)) q [.int .u64 (Qd6 bs),.slice A m C] 177/\Blk (((W4.setCell ⟨q,0,none⟩ (.int .u64 S)).setCell ⟨q,1,none⟩ (.slice A m C)).setCell ⟨q+1,0,none⟩ (.int .u16 0)) (q+1) [.int .u16 0] 51/\
      Below w.heap.size w (((W4.setCell ⟨q,0,none⟩ (.int .u64 S)).setCell ⟨q,1,none⟩ (.slice A m C)).setCell ⟨q+1,0,none⟩ (.int .u16 0))/\ItsIn (((W4.setCell ⟨q,0,none⟩ (.int .u64 S)).setCell ⟨q,1,none⟩ (.slice A m C)).setCell ⟨q+1,0,none⟩ (.int .u16 0)) A m (Qb8 bs)):=by
     have e1:Blk (W4.setCell ⟨q,0,none⟩ (.int .u64 S)) q [.int .u64 S,.slice A m C] 177:=H4.out.1.set 0 _;have e2:Blk ((W4.setCell ⟨q,0,none⟩ (.int .u64 S)).setCell ⟨q,1,none⟩ (.slice A m C)) q [.int .u64 S,.slice A m C] 177:=e1.set 1 _;have e3:=((J2 H4).set_other (a:=⟨q,0,none⟩) (by show q+1≠q;omega) (.int .u64 S)).set_other (a:=⟨q,1,none⟩) (by show q+1≠q;omega) (.slice A m C);have hq:=(Jz3 H)
     refine ⟨by rw [<-(J5 H3)];exact e2.set_other (by show q≠q+1;omega) _,e3.set 0 _,(((J4 H4).setCell (by show w.heap.size<=q;omega) _).setCell (by show w.heap.size<=q;omega) _).setCell (by show w.heap.size<=q+1;omega) _,(((J3 H4).set (Qlc H4.out.1) 0 _).set (Qlc e1) 1 _).set (Qot e3) 0 _⟩
    clear cE;go_wp2
    exact Qxi HZ.out.1 (J2 HZ) (J3 HZ) HR.out (Jz3 HZ) HFr.out _ rfl rfl
   ·have HR:=Jh1 hr
    rw [decide_eq_false (λ h=>hr (hiff.2 h))] at cE;clear hr hiff;go_wp2_with (go_at_call 192;refine cE.mono ?_;rintro e W5 ⟨rfl,hw5⟩;replace hw5:=hw5.symm;subst hw5)
    exact Qlr (Jz3 H) H4.out.1 (J2 H4) (J4 H4) HR.out _ rfl rfl
end Go.Proofs.YtcdnjeiamihhbaaGreat
namespace Go.Proofs.YtcdnjeiamihhbaaGreat
open Go.RowKit Go.Sort
theorem Qn5 {w:World} (a:Option Addr) (n c:Nat) (zs:List Int) (h:BIn w a n zs) (d:Nat) (os:Array Obj):Calls prog 207 #[.slice a n c] (grow (redrawn w d) os) λ e w''=>e=.returned (.int .i64 (Qdl zs:Nat))/\∃p:Regrown,w''=grow (redrawn w p.d) p.os:=
 Calls.regrown_of ((Qo5 a n c zs _ (h.below (below_regrown w d os))).mono λ e w' h=>⟨h.1,by rw [h.2];exact Below.refl _ _⟩)
set_option maxHeartbeats 2000000 in
theorem Qx0 (x:It) (a:Option Addr) (n c:Nat) (zs:List Int) (w:World) (hf:x.Fits) (h:BIn w a n zs) :
  Calls prog 156 #[.agg #[.int .u32 x.t,.int .u64 x.b,.int .u8 x.k,.int .u32 x.s,.int .u16 x.e],.slice a n c] w λ e w'=>e=.returned (.bool (Qb9 x zs))/\Below w.heap.size w w':=by
 obtain ⟨q,hq⟩:∃q,q=w.heap.size:=⟨_,rfl⟩
 have kb:Blk (w.alloc (.cells #[.int .u32 x.t,.int .u64 x.b,.int .u8 x.k,.int .u32 x.s,.int .u16 x.e] 190)) q (itL x) 190:=Blk.new' hq.symm rfl;have bw:Below w.heap.size w (w.alloc (.cells #[.int .u32 x.t,.int .u64 x.b,.int .u8 x.k,.int .u32 x.s,.int .u16 x.e] 190)):=(Below.refl _ _).alloc (Nat.le_refl _) _;obtain ⟨B,hB⟩:∃B,B=Qb9 x zs:=⟨_,rfl⟩
 have HB:=Jh1 hB;rw [<-hB];clear hB;have ue:IntKind.i64.wrap x.e=x.e:=by have:=hf.2.2.2.2;unfold Qb4 at this;rw [IntKind.wrap_i64];omega
 clear hf;go_enter func156,ntmps156
 go_upto_region 1 with fail
 rw [<-hq];generalize hW:World.alloc w _=W at kb bw ⊢;have H:=Jh3 kb bw (h.below bw);have c2:W.cell? ⟨q,2,none⟩=some (.int .u8 x.k):=kb.cell 2;have c3:W.cell? ⟨q,3,none⟩=some (.int .u32 x.s):=kb.cell 3;have c4:W.cell? ⟨q,4,none⟩=some (.int .u16 x.e):=kb.cell 4;obtain ⟨E,hE⟩:∃E,E=Qdl zs:=⟨_,rfl⟩
 obtain ⟨K,hK⟩:∃K,K=crI 0 zs:=⟨_,rfl⟩
 by_cases hk:x.k=1
 ·have hkb:(x.k == 1)=true:=by simp [hk]
  by_cases he:x.e=(E:Int)
  ·have heb:(x.e == (E:Int))=true:=by simp [he]
   have hf:B=(x.s == K):=by
    rw [HB.out];unfold Qb9;rw [<-hE,<-hK];by_cases hs:x.s=K <;> simp [hk,he,hs]
   have HBB:=Jh1 hf;have cE:=λ V hV=>Qo5 a n c zs V hV
   have cK:=λ g V hg hV=>Qge g a n c 1 zs V hg hV
   simp only [<-hE] at cE
   simp only [<-hK] at cK
   have g2:∀o,(W.alloc o).cell? ⟨q,2,none⟩=some (.int .u8 x.k):=λ o=>(kb.alloc o).cell 2
   have g3:∀o,(W.alloc o).cell? ⟨q,3,none⟩=some (.int .u32 x.s):=λ o=>(kb.alloc o).cell 3
   have g4:∀o,(W.alloc o).cell? ⟨q,4,none⟩=some (.int .u16 x.e):=λ o=>(kb.alloc o).cell 4
   rw [hk] at c2 g2;clear hf HB hE hK hk he kb bw hW h hq;go_region_held3 (λ V=>V.cell? ⟨q,2,none⟩=some (.int .u8 1)/\V.cell? ⟨q,3,none⟩=some (.int .u32 x.s)/\V.cell? ⟨q,4,none⟩=some (.int .u16 x.e)) (first | exact ⟨c2,c3,c4⟩ | exact ⟨g2 _,g3 _,g4 _⟩)
    (first
    | (go_simp;go_at_call 207;refine (cE _ (by first | exact (Jz2 H) | exact (Jz2 H).alloc _)).mono ?_;rintro e w2 ⟨rfl,hw2⟩;replace hw2:=hw2.symm;subst hw2)
    | (go_simp;go_at_call 206;refine (cK _ _ (by show (W.alloc _).cell? _=_;rw [World.cell?_alloc_mark];rfl) (by exact (Jz2 H).alloc _)).mono ?_;rintro e w2 ⟨rfl,hw2⟩;replace hw2:=hw2.symm;subst hw2))
   all_goals (
    go_wp2
    go_ret
    exact ⟨by rw [HBB.out];rfl,((J2 H).alloc (J2 H).size _).drew⟩)
  ·have heb:(x.e == (E:Int))=false:=by simp [he]
   have hf:B=false:=by rw [HB.out];unfold Qb9;rw [<-hE];simp [he]
   have cE:=λ d os=>Qn5 (c:=c) a n zs (Jz2 H) d os
   simp only [<-hE] at cE
   have k2:=λ d os=>cell_regrown c2 d os
   have k3:=λ d os=>cell_regrown c3 d os
   have k4:=λ d os=>cell_regrown c4 d os
   clear HB hE hK hk he kb bw hW h hq;subst hf;refine wp_region_quiet_below (by kernel_rfl) (by kernel_rfl) ?_
   iterate 8 (quiet_step (fail))
   quiet_step (exact cE _ _)
   iterate 11 (quiet_step (fail))
   refine wpQuiet_nil ?_
   intro _ hw';obtain ⟨⟨dq,osq⟩,hw''⟩:=hw';subst hw'';go_wp2
   go_ret
   exact ⟨rfl,(J2 H).trans ((below_regrown W dq osq).mono (J2 H).size)⟩
 ·have hkb:(x.k == 1)=false:=by simp [hk]
  have hf:B=false:=by rw [HB.out];unfold Qb9;simp [hk]
  clear HB hE hK hk kb bw hW h hq;subst hf;go_quiet (fail)
  go_wp2
  go_ret
  exact ⟨rfl,Go.below_drewN (J2 H) _⟩
end Go.Proofs.YtcdnjeiamihhbaaGreat
namespace Go.Proofs.YtcdnjeiamihhbaaGreat
open Go.RowKit
theorem Qrm {w:World} {base:Nat} {a:Option Addr} {n c:Nat} {zs:List Value} (h:w.ownsRow base 5 1 (.slice a n c) n zs):a=none->n=0/\c=0:=by
 intro e;subst e;rcases h.2 with ⟨hv,hn⟩ | ⟨g,cap,cur,hv,_⟩
 ·cases hv;exact ⟨hn,rfl⟩
 ·cases hv
theorem Q2g {seq:Int} {xs:List It} {N k:Nat} (h:N=18+19*xs.length+k+1):(Qh3 seq xs ++ List.replicate k 0) ++ [231]=Qbw seq xs N:=by
 have e:N - 1 - (18+19*xs.length)=k:=by omega
 unfold Qbw;rw [e]
def DEnc (w:World) (seq:Int) (xs:List It) (b:Int) (e:Ending) (w':World):Prop:=
 ∃A n C,e=.returned (.tuple #[.slice A n C,.int .i64 (encE xs b)])/\w'.ownsRow w.heap.size 5 1 (.slice A n C) n (u8s (encB seq xs b))/\Below w.heap.size w w'
theorem Qph {w V:World} {seq:Int} {xs:List It} {b:Int} (h:Below w.heap.size w V) (hno:¬GoodR xs b):DEnc w seq xs b (.returned (.tuple #[.slice none 0 0,.int .i64 110])) V:=by
 refine ⟨none,0,0,?_⟩
 unfold encE encB;rw [if_neg hno,if_neg hno];exact ⟨rfl,World.ownsRow_nil _ _ _ _,h⟩
theorem Qva {seq:Int} {xs:List It} {n j:Nat} {x:It} (hx:xs[j]?=some x):(hdB seq n ++ itsB (xs.take j)) ++ itB x=hdB seq n ++ itsB (xs.take (j+1)):=by
 rw [List.take_add_one,hx,Option.toList_some,Qoa,List.append_assoc]
set_option maxHeartbeats 4000000 in
theorem Qtg (seq:Int) (A:Option Addr) (n C:Nat) (xs:List It) (b:Int) (w:World) (hs:Qai seq) (hi:ItsIn w A n xs) :
  Calls prog 159 #[.agg #[.int .u64 seq,.slice A n C],.int .i64 b] w (DEnc w seq xs b):=by
 obtain ⟨q,hq⟩:∃q,q=w.heap.size:=⟨_,rfl⟩
 have b0:Blk (w.alloc (.cells #[.int .u64 seq,.slice A n C] 177)) q [.int .u64 seq,.slice A n C] 177:=Blk.new' hq.symm rfl;have bw:Below w.heap.size w (w.alloc (.cells #[.int .u64 seq,.slice A n C] 177)):=(Below.refl _ _).alloc (Nat.le_refl _) _;have hsz:(w.alloc (.cells #[.int .u64 seq,.slice A n C] 177)).heap.size=q+1:=by simp [hq]
 go_enter func159,ntmps159
 go_upto_region 1 with fail
 rw [<-hq];generalize hW:World.alloc w _=W at b0 bw hsz ⊢;have H:=Jh6 b0 bw hsz hs hi hq;have c0:W.cell? ⟨q,0,none⟩=some (.int .u64 seq):=b0.cell 0;have c1:W.cell? ⟨q,1,none⟩=some (.slice A n C):=b0.cell 1;have g0:∀o,(W.alloc o).cell? ⟨q,0,none⟩=some (.int .u64 seq):=λ o=>(b0.alloc o).cell 0
 have g1:∀o,(W.alloc o).cell? ⟨q,1,none⟩=some (.slice A n C):=λ o=>(b0.alloc o).cell 1
 have hm:=hi.2.1;unfold maxLen at hm;clear hW b0 bw hsz hs hi hq;have cR:=Qrb b W;obtain ⟨R,hR⟩:∃R,R=Qbu b:=⟨_,rfl⟩
 rw [<-hR] at cR;by_cases hn0:n=0
 ·have HN:Hid (¬GoodR xs b):=λ h=>by have:=h.1;have:=(J5 H).1;omega
  subst hn0;have z1:((0:Int) == 0)=true:=rfl;have z2:(((0:Nat):Int) == 0)=true:=rfl;clear hR;go_wp2_with (go_at_call 158;refine cR.mono ?_;rintro e W1 ⟨rfl,hw1⟩;replace hw1:=hw1.symm;subst hw1)
  go_ret2
  exact Qph (J2 H) HN.out
 have hn0':((n:Int) == 0)=false:=by simp;omega
 have hn0d:(n == 0)=false:=by simp [hn0]
 by_cases hnr:R<(n:Int)
 ·have HN:Hid (¬GoodR xs b):=λ h=>by have:=h.2.1;have:=(J5 H).1;omega
  have hnd:decide (R<(n:Int))=true:=by simp [hnr]
  clear hR;go_wp2_with (go_at_call 158;refine cR.mono ?_;rintro e W1 ⟨rfl,hw1⟩;replace hw1:=hw1.symm;subst hw1)
  go_ret2
  exact Qph (J2 H) HN.out
 have hnd:decide (R<(n:Int))=false:=by simp;omega
 have hrb:=Qd9 (b:=b) (by omega);have hpb:=Qar hrb.1;obtain ⟨N,rfl⟩:∃N:Nat,b=N:=⟨b.toNat,by omega⟩
 have HG:Hid (19+19*n<=N/\64<=N/\N<=4096/\((n:Int)<=Qbu N)/\0<n/\n<=214):=by
  have:=Qj6 (N:Int);exact ⟨by omega,by omega,by omega,by omega,by omega,by omega⟩
 clear hR hrb hpb;have hnw:IntKind.u64.wrap (n:Int)=n:=by rw [IntKind.wrap_u64];have:=HG.out;omega
 go_upto_region 4 with (go_at_call 158;refine cR.mono ?_;rintro e W1 ⟨rfl,hw1⟩;replace hw1:=hw1.symm;subst hw1)
 clear hnr hnd hn0' hn0d hn0 cR;have HL:Hid (∀(X:World) (g:Nat),X.heap.size=g->NIn .u64 (X.alloc (.cells #[.int .u64 1129074503,.int .u64 0,.int .u64 seq,.int .u64 (n:Int)] 45)) (some ⟨g,0,none⟩) 4 (hdV seq n)):=Q02 (J4 H) (by have:=HG.out;unfold Qai;omega);go_wp2_with fail
 refine (Qc8 (some ⟨W.heap.size,0,none⟩) 4 4 hdW (some ⟨W.heap.size+1,0,none⟩) 4 4 (hdV seq n) _ ((Qoh rfl).alloc _) (HL.out _ _ (by simp)) (by omega) (by omega)).mono ?_
 rintro e w2 ⟨a2,k2,c2,rfl,hk2,ow2,b2⟩;obtain rfl:k2=18:=by rw [hk2];exact Qco seq n
 have hs1:=(J3 H)
 have H2:Hid (w2.ownsRow (q+1) 5 1 (.slice a2 18 c2) 18 (u8s (hdB seq n ++ itsB (xs.take 0)))/\Below (q+1) W w2):=by
  have e:hdB seq n ++ itsB (xs.take 0)=Qan hdW (hdV seq n):=by simp [itsB,hdB]
  refine ⟨by rw [e];exact Qa3 ow2 (by simp;omega),?_⟩
  exact (((Below.refl (q+1) W).alloc (by omega) _).alloc (by simp;omega) _).trans (b2.mono (by simp;omega))
 clear hk2 ow2 b2 HL hnw c0 c1 g0 g1;have HS:=Jh1 hs1;clear hs1;go_wp2
 go_loopw [7,8] (λ s i wr=>∃(j:Nat) (a':Option Addr) (c':Nat),j<=n/\i=.int .i64 j/\s=.slice a' (18+19*j:Nat) c'/\wr.ownsRow (q+1) 5 1 (.slice a' (18+19*j) c') (18+19*j) (u8s (hdB seq n ++ itsB (xs.take j)))/\Below (q+1) W wr/\∀y∈xs.take j,Qci y) (λ _ i _=>n - (intOf i).toNat)
 case atStart=>exact ⟨0,a2,c2,Nat.zero_le _,rfl,rfl,H2.out.1,H2.out.2,by simp⟩
 case round=>
  obtain ⟨j,a',c',hj,rfl,rfl,ow,bl,hri⟩:=hrel;obtain ⟨K,hK⟩:∃K,K=18+19*j:=⟨_,rfl⟩
  rw [<-hK] at ow ⊢;have hV1:W.heap.size<=wr.heap.size:=bl.size;have hV2:=HS.out;have blw:Below w.heap.size w wr:=(J2 H).trans (bl.mono (by rw [<-(Jz5 H)];omega));have rr:=H.out.1.below bl (by omega);have c1:wr.cell? ⟨q,1,none⟩=some (.slice A n C):=rr.cell 1;have HK:=Jh1 hK;clear hK;rcases Nat.lt_or_ge j n with hlt | hge
  ·obtain ⟨x,hx⟩:∃x,xs[j]?=some x:=⟨xs[j]'(by have:=(J5 H).1;omega),by simp⟩
   have hxf:=(J5 H).2.2.1 x (List.mem_of_getElem? hx);obtain ⟨b',off,hA,hc⟩:=((J5 H).below blw).2.2.2.resolve_left (by omega);subst hA;have d0:wr.cell? ⟨b',off+j*5,none⟩=some (.int .u32 x.t):=hc j x hx 0 _ rfl;have d1:wr.cell? ⟨b',off+j*5+1,none⟩=some (.int .u64 x.b):=hc j x hx 1 _ rfl;have d2:wr.cell? ⟨b',off+j*5+2,none⟩=some (.int .u8 x.k):=hc j x hx 2 _ rfl;have d3:wr.cell? ⟨b',off+j*5+3,none⟩=some (.int .u32 x.s):=hc j x hx 3 _ rfl;have d4:wr.cell? ⟨b',off+j*5+4,none⟩=some (.int .u16 x.e):=hc j x hx 4 _ rfl;obtain ⟨qi,hqi⟩:∃qi,qi=wr.heap.size:=⟨_,rfl⟩
   have kb:Blk (wr.alloc (.cells #[.int .u32 x.t,.int .u64 x.b,.int .u8 x.k,.int .u32 x.s,.int .u16 x.e] 190)) qi (itL x) 190:=Blk.new' hqi.symm rfl;have ow7:=ow.alloc (.cells #[.int .u32 x.t,.int .u64 x.b,.int .u8 x.k,.int .u32 x.s,.int .u16 x.e] 190);have bl7:=bl.alloc (by omega:q+1<=wr.heap.size) (.cells #[.int .u32 x.t,.int .u64 x.b,.int .u8 x.k,.int .u32 x.s,.int .u16 x.e] 190);have blw7:=blw.alloc (by have:=(Jz5 H);omega:w.heap.size<=wr.heap.size) (.cells #[.int .u32 x.t,.int .u64 x.b,.int .u8 x.k,.int .u32 x.s,.int .u16 x.e] 190);have hi':(j:Int)<n:=by omega
   have hwi:IntKind.i64.wrap ((j:Int)+1)=(j:Int)+1:=by have:=HG.out;rw [IntKind.wrap_i64];omega
   have HX:Hid (xs[j]?=some x/\x.Fits/\(∀y∈xs.take j,Qci y)/\q+1<=wr.heap.size):=⟨hx,hxf,hri,by omega⟩
   clear hx hxf hri hc ow bl blw hV1 hV2 rr;go_upto_region 9 with fail
   rw [<-hqi];have hsz7:(wr.alloc (.cells #[.int .u32 x.t,.int .u64 x.b,.int .u8 x.k,.int .u32 x.s,.int .u16 x.e] 190)).heap.size=qi+1:=by simp [hqi]
   generalize World.alloc wr _=W7 at kb ow7 bl7 blw7 hsz7 ⊢;have H7:Hid (Blk W7 qi (itL x) 190/\W7.ownsRow (q+1) 5 1 (.slice a' K c') K (u8s (hdB seq n ++ itsB (xs.take j)))/\Below (q+1) W W7/\Below w.heap.size w W7/\q+1<=W7.heap.size):=⟨kb,ow7,bl7,blw7,by have:=(Jz3 HX);omega⟩
   have k0:W7.cell? ⟨qi,0,none⟩=some (.int .u32 x.t):=kb.cell 0;have k1:W7.cell? ⟨qi,1,none⟩=some (.int .u64 x.b):=kb.cell 1;have k2:W7.cell? ⟨qi,2,none⟩=some (.int .u8 x.k):=kb.cell 2;have k3:W7.cell? ⟨qi,3,none⟩=some (.int .u32 x.s):=kb.cell 3;have k4:W7.cell? ⟨qi,4,none⟩=some (.int .u16 x.e):=kb.cell 4;have g0:∀o,(W7.alloc o).cell? ⟨qi,0,none⟩=some (.int .u32 x.t):=λ o=>(kb.alloc o).cell 0
   have g1:∀o,(W7.alloc o).cell? ⟨qi,1,none⟩=some (.int .u64 x.b):=λ o=>(kb.alloc o).cell 1
   have g2:∀o,(W7.alloc o).cell? ⟨qi,2,none⟩=some (.int .u8 x.k):=λ o=>(kb.alloc o).cell 2
   have g3:∀o,(W7.alloc o).cell? ⟨qi,3,none⟩=some (.int .u32 x.s):=λ o=>(kb.alloc o).cell 3
   have g4:∀o,(W7.alloc o).cell? ⟨qi,4,none⟩=some (.int .u16 x.e):=λ o=>(kb.alloc o).cell 4
   clear kb ow7 bl7 blw7 d0 d1 d2 d3 d4 hqi hsz7;by_cases hr:Qci x
   ·have HR:=Jh1 hr
    obtain ⟨u0,u2,u3,u4⟩:IntKind.u64.wrap x.t=x.t/\IntKind.u64.wrap x.k=x.k/\IntKind.u64.wrap x.s=x.s/\IntKind.u64.wrap x.e=x.e:=by
     obtain ⟨f0,_,f2,f3,f4⟩:=(J2 HX)
     unfold Qas at f0 f3;unfold Qaf at f2;unfold Qb4 at f4;simp only [IntKind.wrap_u64]
     omega
    have HL:Hid (∀(X:World) (g:Nat),X.heap.size=g->NIn .u64 (X.alloc (.cells #[.int .u64 x.t,.int .u64 x.b,.int .u64 x.k,.int .u64 x.s,.int .u64 x.e] 45)) (some ⟨g,0,none⟩) 5 (itV x)):=Q0w (J2 HX);rcases hr with ⟨h1,h2⟩ | ⟨h1,h2,h3⟩
    have f1:(x.k != 1)=false:=by simp [h1]
    have f0:decide (4096<x.e)=false:=by simp;omega
    clear h1 h2;go_upto_region 11 with fail
    clear f1 f0;rotate_left
    have f1:(x.k != 1)=true:=by simp [h1]
    have f2:(x.k != 2)=false:=by simp [h1]
    have f3:(x.s != 0)=false:=by simp [h2]
    have f4:(x.e != 0)=false:=by simp [h3]
    have f0:decide (4096<x.e)=false:=by simp;omega
    clear h1 h2 h3;go_upto_region 11 with fail
    clear f0 f1 f2 f3 f4
    all_goals (
     go_wp2_with fail
     refine (Qc8 (some ⟨W7.heap.size,0,none⟩) 5 5 itW (some ⟨W7.heap.size+1,0,none⟩) 5 5 (itV x) _ ((Qn3 rfl).alloc _) (HL.out _ _ (by simp)) (by omega) (by omega)).mono ?_
     rintro e w9 ⟨a9,k9,c9,rfl,hk9,ow9,b9⟩;obtain rfl:k9=19:=by rw [hk9];exact Qdd x
     have hbb:=(((Below.refl W7.heap.size W7).alloc (Nat.le_refl _) _).alloc (by simp) _).trans (b9.mono (by simp;omega));have H9:Hid (w9.ownsRow (q+1) 5 1 (.slice a' K c') K (u8s (hdB seq n ++ itsB (xs.take j)))/\BIn w9 a9 19 (itB x)/\(a9=none->19=0/\c9=0)/\Below (q+1) W w9/\q+1<=w9.heap.size):=
      ⟨Qbx (J2 H7) hbb (Nat.le_refl _),Qcf ow9 (by unfold maxLen;omega) (Qrk x),Qrm ow9,(J3 H7).trans (hbb.mono (Jz4 H7)),by have:=hbb.size;have:=(Jz4 H7);omega⟩
     clear hk9 ow9 b9 hbb HL g0 g1 g2 g3 g4 k0 k1 k2 k3 k4 u0 u2 u3 u4;go_wp2_with (at_builtin;refine Qak rfl (.tmp 69) (.tmp 86) rfl (q+1) a' K c' _ rfl H9.out.1 a9 19 c9 (itB x) rfl (J2 H9) (J3 H9) (by have:=HG.out;have:=HK.out;omega) (Jz4 H9) ?_;intro a3 c3 w3 ow3 bl3)
     go_roundw
     case rel=>
      rw [Qva HX.out.1] at ow3;have e:K+19=18+19*(j+1):=by have:=HK.out;omega
      rw [e] at ow3;refine ⟨j+1,a3,c3,by omega,by simp,by rw [e],ow3,(J4 H9).trans bl3,?_⟩
      intro y hy;rw [List.take_add_one,HX.out.1] at hy;rcases List.mem_append.1 hy with h | h
      ·exact (J3 HX) y h
      ·simp at h;rw [h];exact HR.out
     case measure=>simp [intOf];omega)
   ·have HR:=Jh1 hr
    have hbad:Hid (DEnc w seq xs (N:Int) (.returned (.tuple #[.slice none 0 0,.int .i64 110])) W7):=Qph (J4 H7) (λ h=>HR.out (h.2.2 x (List.mem_of_getElem? HX.out.1)));by_cases h0:4096<x.e
    ·have f0:decide (4096<x.e)=true:=by simp [h0]
     clear hr h0;go_wp2
     go_ret2
     exact hbad.out
    have f0:decide (4096<x.e)=false:=by simp;omega
    have h1:x.k≠1:=λ h=>hr (.inl ⟨h,by omega⟩)
    have f1:(x.k != 1)=true:=by simp [h1]
    by_cases h2:x.k=2
    ·have f2:(x.k != 2)=false:=by simp [h2]
     by_cases h3:x.s=0
     ·have f3:(x.s != 0)=false:=by simp [h3]
      have f4:(x.e != 0)=true:=by simp;intro h;exact hr (.inr ⟨h2,h3,h⟩)
      clear hr h0 h1 h2 h3;go_wp2
      go_ret2
      exact hbad.out
     ·have f3:(x.s != 0)=true:=by simp [h3]
      clear hr h0 h1 h2 h3;go_wp2
      go_ret2
      exact hbad.out
    ·have f2:(x.k != 2)=true:=by simp [h2]
     clear hr h0 h1 h2;go_wp2
     go_ret2
     exact hbad.out
  ·obtain rfl:j=n:=by omega
   have hxl:=(J5 H).1;have hgood:GoodR xs (N:Int):=by
    refine ⟨by have:=HG.out;omega,by have:=HG.out;omega,λ y hy=>hri y ?_⟩
    rw [List.take_of_length_le (by omega)];exact hy
   have hhd:hdB seq j ++ itsB (xs.take j)=Qh3 seq xs:=by rw [List.take_of_length_le (by omega)];unfold Qh3;rw [hxl]
   rw [hhd] at ow;obtain ⟨M,hM⟩:∃M,N=M+1:=⟨N - 1,by have:=HG.out;omega⟩
   have hwM:IntKind.i64.wrap ((N:Int) - 1)=(M:Int):=by have:=HG.out;rw [IntKind.wrap_i64];omega
   have HZ:Hid (GoodR xs (N:Int)/\wr.ownsRow (q+1) 5 1 (.slice a' K c') K (u8s (Qh3 seq xs))/\Below (q+1) W wr/\K<=M/\N=M+1/\xs.length=j):=⟨hgood,ow,bl,by have:=HG.out;have:=HK.out;omega,hM,hxl⟩
   clear hxl hgood hhd ow hM bl blw rr hri hV1 hV2;go_wp2
   go_loopw [7] (λ s wr2=>∃(k:Nat) (a3:Option Addr) (c3:Nat),K+k<=M/\s=.slice a3 (K+k:Nat) c3/\wr2.ownsRow (q+1) 5 1 (.slice a3 (K+k) c3) (K+k) (u8s (Qh3 seq xs ++ List.replicate k 0))/\Below (q+1) W wr2) (λ s _=>N - Q0b s)
   case atStart=>exact ⟨0,a',c',(J4 HZ),rfl,by simpa using (J2 HZ),(J3 HZ)⟩
   case round=>
    obtain ⟨k,a3,c3,hk,rfl,ow,bl⟩:=hrel;obtain ⟨P,hP⟩:∃P,P=K+k:=⟨_,rfl⟩
    rw [<-hP] at ow hk ⊢;have HT:Hid (wr.ownsRow (q+1) 5 1 (.slice a3 P c3) P (u8s (Qh3 seq xs ++ List.replicate k 0))/\Below (q+1) W wr/\q+1<=wr.heap.size/\P=K+k):=⟨ow,bl,by have:=bl.size;have:=HS.out;omega,hP⟩
    clear ow bl hP;rcases Nat.lt_or_ge P M with hlt | hge
    ·have hlt':(P:Int)<M:=by omega
     go_wp2_with (at_builtin;refine Qak rfl (.tmp 93) (.tmp 94) rfl (q+1) a3 P c3 _ rfl (HT.out.1.alloc _) (some ⟨wr.heap.size,0,none⟩) 1 1 [0] rfl (Qf6 rfl rfl rfl Qrx (by unfold maxLen;omega)) (λ h=>by cases h) (by have:=HG.out;have:=(J5 HZ);omega) (by have:=(J3 HT);simp;omega) ?_;intro a4 c4 w4 ow4 bl4)
     go_roundw
     case rel=>
      have e:P+1=K+(k+1):=by have:=(Jz3 HT);omega
      rw [List.append_assoc,<-List.replicate_succ',e] at ow4;exact ⟨k+1,a4,c4,by omega,by rw [e],ow4,((J2 HT).alloc (J3 HT) _).trans bl4⟩
     case measure=>simp [Q0b];have:=(J5 HZ);omega
    ·obtain rfl:P=M:=by omega
     go_upto_region 15 with (at_builtin;refine Qak rfl (.tmp 96) (.tmp 97) rfl (q+1) a3 P c3 _ rfl (HT.out.1.alloc _) (some ⟨wr.heap.size,0,none⟩) 1 1 [231] rfl (Qf6 rfl rfl rfl Qqe (by unfold maxLen;omega)) (λ h=>by cases h) (by have:=HG.out;have:=(J5 HZ);omega) (by have:=(J3 HT);simp;omega) ?_;intro a5 c5 w5 ow5 bl5)
     have e5:P+1=N:=by have:=(J5 HZ);omega
     rw [Q2g (N:=N) (by have:=(Jz4 HZ);have:=(Jz3 HT);have:=HK.out;omega),e5] at ow5;rw [e5];obtain ⟨g5,hg5,hq5,hl5⟩:=Qgf ow5 (by have:=HG.out;omega);subst hg5;have hcr:=Qds Qsd (Qeu seq xs N);obtain ⟨Z,hZ⟩:∃Z,Z=crI 0 (Qbw seq xs N):=⟨_,rfl⟩
     rw [<-hZ] at hcr;have hZw:IntKind.u64.wrap Z=Z:=by have:=hcr.1;have:=hcr.2;rw [IntKind.wrap_u64];omega
     have H5:Hid (w5.ownsRow (q+1) 5 1 (.slice (some ⟨g5,0,none⟩) N c5) N (u8s (Qbw seq xs N))/\Below (q+1) W w5/\BIn w5 (some ⟨g5,0,none⟩) N (Qbw seq xs N)/\Z=crI 0 (Qbw seq xs N)/\Qas Z/\q+1<=g5/\g5<w5.heap.size):=
      ⟨ow5,((J2 HT).alloc (J3 HT) _).trans bl5,Qcf ow5 (by have:=HG.out;unfold maxLen;omega) (Qeu _ _ _),hZ,hcr,hq5,hl5⟩
     clear ow5 bl5 hcr hZ hq5 hl5 e5 hwM hge hk;go_wp2_with (go_at_call 160;refine (Qhd (some ⟨g5,0,none⟩) N c5 (Qbw seq xs N) _ ((J3 H5).alloc _)).mono ?_;rintro e W9 ⟨rfl,hw9⟩;replace hw9:=hw9.symm;subst hw9;rw [<-(J4 H5)])
     refine (Qc8 (some ⟨w5.heap.size,0,none⟩) 1 1 [4] (some ⟨w5.heap.size+1,0,none⟩) 1 1 [Z] _ ((Qet 3 (L:=[4]) rfl rfl rfl rfl (by decide)).alloc _) (Qdq 45 (by simp) rfl rfl (by intro z hz;simp only [List.mem_cons,List.not_mem_nil,or_false] at hz;subst hz;have:=(J5 H5);unfold Qas at this;unfold Qai;omega) (by omega)) (by omega) (by omega)).mono ?_
     rintro e w6 ⟨a6,k6,c6,rfl,hk6,ow6,b6⟩;obtain rfl:k6=4:=by rw [hk6,Qos,Qac]
     rw [Qos] at ow6;obtain ⟨g6,hg6,hq6,_⟩:=Qgf ow6 (by omega);subst hg6;have hbb:=(((Below.refl w5.heap.size w5).alloc (Nat.le_refl _) _).alloc (by simp) _).trans (b6.mono (by simp;omega));have hqq:w5.heap.size<=g6:=by simp at hq6;omega
     obtain ⟨S,hS⟩:∃S,S=bigI 4 Z:=⟨_,rfl⟩
     have hSl:S.length=4:=by rw [hS,Qac]
     rw [<-hS] at ow6;have H6:Hid (w6.ownsRow (q+1) 5 1 (.slice (some ⟨g5,0,none⟩) N c5) N (u8s (splice (Qbw seq xs N) 4 (S.take 0)))/\w6.ownsRow w5.heap.size 5 1 (.slice (some ⟨g6,0,none⟩) 4 c6) 4 (u8s S)/\Below (q+1) W w6):=
      ⟨by rw [show splice (Qbw seq xs N) 4 (S.take 0)=Qbw seq xs N by simp [splice]];exact Qbx H5.out.1 hbb (Nat.le_refl _),Qa3 ow6 (by simp;omega),(J2 H5).trans (hbb.mono (by have:=(Jz5 H5);omega))⟩
     have HQ:=Jh3 hS hSl hqq;clear hk6 ow6 b6 hbb hqq hS hSl hq6 hZw;go_wp2
     go_loopw [11] (λ y wr=>∃t:Nat,t<=4/\y=.int .i64 t/\wr.ownsRow (q+1) 5 1 (.slice (some ⟨g5,0,none⟩) N c5) N (u8s (splice (Qbw seq xs N) 4 (S.take t)))/\wr.ownsRow w5.heap.size 5 1 (.slice (some ⟨g6,0,none⟩) 4 c6) 4 (u8s S)/\Below (q+1) W wr) (λ y _=>4 - (intOf y).toNat)
     case atStart=>exact ⟨0,by omega,rfl,H6.out⟩
     case round=>
      obtain ⟨t,ht,rfl,oa,ob,bl⟩:=hrel;rcases Nat.lt_or_ge t 4 with hlt | hge
      ·have hlt':(t:Int)<4:=by omega
       obtain ⟨T,hT⟩:∃T,T=4+t:=⟨_,rfl⟩
       have hTw:IntKind.i64.wrap (4+(t:Int))=(T:Int):=by rw [IntKind.wrap_i64];omega
       have hTN:T<N:=by have:=HG.out;omega
       have hTN':(T:Int)<N:=by omega
       have hpl:(Qbw seq xs N).length=N:=Qiu (by have:=HG.out;have:=(Jz5 HZ);omega);have hsl:(splice (Qbw seq xs N) 4 (S.take t)).length=N:=by rw [Qc4 (by rw [hpl,List.length_take,(J2 HQ)];have:=HG.out;omega)];exact hpl
       obtain ⟨v,hv⟩:∃v,v=S.getD t 0:=⟨_,rfl⟩
       have ca:wr.cell? ⟨g6,t,none⟩=some (.int .u8 v):=by
        rw [ob.cellAt t (by omega),hv];have:=(J2 HQ)
        simp [u8s,List.getD,this,hlt]
       obtain ⟨y,hy⟩:∃y,y=(splice (Qbw seq xs N) 4 (S.take t)).getD T 0:=⟨_,rfl⟩
       have cb:wr.cell? ⟨g5,T,none⟩=some (.int .u8 y):=by
        rw [oa.cellAt T (by omega),hy];simp [u8s,List.getD,hsl,hTN]
       have fb:=oa.frozenAt T;obtain ⟨s1,_⟩:=oa.stored T (.int .u8 v);rw [Qv3] at s1;have e:=Qil (p:=Qbw seq xs N) (S:=S) (j:=t) Qd7 (J2 HQ) hlt;rw [<-hT,<-hv] at e;rw [e] at s1;have HR:Hid ((wr.setCell ⟨g5,T,none⟩ (.int .u8 v)).ownsRow (q+1) 5 1 (.slice (some ⟨g5,0,none⟩) N c5) N (u8s (splice (Qbw seq xs N) 4 (S.take (t+1))))/\(wr.setCell ⟨g5,T,none⟩ (.int .u8 v)).ownsRow w5.heap.size 5 1 (.slice (some ⟨g6,0,none⟩) 4 c6) 4 (u8s S)/\Below (q+1) W (wr.setCell ⟨g5,T,none⟩ (.int .u8 v))):=
        ⟨s1,ownsRow_setCell_below ob (a:=⟨g5,T,none⟩) (by show g5<w5.heap.size;exact (Jz6 H5)) _,bl.setCell (p:=⟨g5,T,none⟩) (by show q+1<=g5;exact (J6 H5)) _⟩
       clear oa ob bl hT hTN hpl hsl hv hy s1 e;go_wp2
       go_roundw
       case rel=>exact ⟨t+1,by omega,by simp,HR.out⟩
       case measure=>simp [intOf];omega
      ·obtain rfl:t=4:=by omega
       have HR:Hid (DEnc w seq xs (N:Int) (.returned (.tuple #[.slice (some ⟨g5,0,none⟩) N c5,.int .i64 0])) wr):=by
        refine ⟨some ⟨g5,0,none⟩,N,c5,?_⟩
        unfold encE encB;rw [if_pos HZ.out.1,if_pos HZ.out.1,Int.toNat_natCast];have e:splice (Qbw seq xs N) 4 (S.take 4)=encL seq xs N:=by
         rw [List.take_of_length_le (by rw [(J2 HQ)];omega),HQ.out.1,(J4 H5),Qed];rfl
        rw [e] at oa;refine ⟨rfl,Qa3 oa (by rw [<-(Jz5 H)];omega),(J2 H).trans (bl.mono (by rw [<-(Jz5 H)];omega))⟩
       clear oa ob bl;go_wp2
       go_ret2
       exact HR.out
end Go.Proofs.YtcdnjeiamihhbaaGreat
