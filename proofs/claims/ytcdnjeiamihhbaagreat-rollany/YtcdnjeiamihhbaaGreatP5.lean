/- P5 -/
import Derived.WalkSpells
import Derived.BigRegion
import Derived.Laws.ResultCell
import Derived.Test.YtcdnjeiamihhbaaGreatP4
import Derived.Test.YtcdnjeiamihhbaaGreatP3
set_option linter.unusedVariables false
set_option maxRecDepth 4000
open Go.Proofs.Tryz
namespace Go.Proofs.YtcdnjeiamihhbaaGreat
open Go.RowKit
theorem Q1x (xs:List Int) (o t:Nat):(xs.drop o).getD t 0=xs.getD (o+t) 0:=by simp [List.getD]
set_option maxHeartbeats 2000000 in
theorem Qfe (a:Option Addr) (n c:Nat) (xs:List Int) (b:Option Addr) (m d:Nat) (ws:List Int) (w:World) (hx:BIn w a n xs) (hnil:a=none->n=0/\c=0) (hnc:n<=c) (hy:NIn .i64 w b m ws) (hn:n<=100000) (hm:m<=100000) :
  Calls prog 157 #[.slice a n c,.slice b m d] w λ e w'=>∃A k C R r D,e=.returned (.tuple #[.slice A k C,.slice R r D,.bool (decide (offL ws<=xs.length))])/\w'.ownsRow w.heap.size 45 1 (.slice A k C) k (Qaj .u64 (Qcw xs ws))/\w'.ownsRow w.heap.size 5 1 (.slice R r D) r (u8s (Qei xs ws))/\Below w.heap.size w w':=by
 obtain ⟨q,hq⟩:∃q,q=w.heap.size:=⟨_,rfl⟩
 have H:=Jh5 hx hy hq hnil hnc;rw [<-hq];clear hx hy hq hnil hnc;go_enter func157,ntmps157
 go_wp2
 go_loopw [7,8,9] (λ s o i wr=>∃(j:Nat) (A:Option Addr) (C off:Nat),j<=m/\i=.int .i64 j/\s=.slice A j C/\o=.int .i64 off/\off=offL (ws.take j)/\off<=n/\wr.ownsRow q 45 1 (.slice A j C) j (Qaj .u64 (valL xs (ws.take j)))/\Below q w wr)
  (λ _ _ i _=>m - (intOf i).toNat)
 case atStart=>exact ⟨0,none,0,0,by omega,rfl,rfl,rfl,rfl,by omega,World.ownsRow_nil _ _ _ _,Below.refl _ _⟩
 case round=>
  obtain ⟨j,A,C,off,hj,rfl,rfl,rfl,hoff,hon,ow,bl⟩:=hrel;have HK:Hid (off=offL (ws.take j)/\wr.ownsRow q 45 1 (.slice A j C) j (Qaj .u64 (valL xs (ws.take j)))/\Below q w wr/\Below w.heap.size w wr/\q<=wr.heap.size):=⟨hoff,ow,bl,by rw [<-(J3 H)];exact bl,by have:=bl.size;rw [(J3 H)] at *;exact this⟩
  clear hoff ow bl;by_cases hlt:j<m
  ·have hlt':(j:Int)<m:=by omega
   obtain ⟨b1,o1,rfl,hc1⟩:=(J2 H).2.2.2.resolve_left (by omega);have cw:wr.cell? ⟨b1,o1+j,none⟩=some (.int .i64 (ws.getD j 0)):=by rw [(J4 HK).cell (Qaa (hc1 j (by omega)))];exact hc1 j (by omega)
   have hnx:=Qd5 ws (i:=j) (by rw [(J2 H).1];omega);clear hc1;obtain ⟨X,eX⟩:∃X,X=ws.getD j 0:=⟨_,rfl⟩
   rw [<-eX] at cw hnx;have HX:=Jh1 hnx;clear eX hnx;obtain ⟨K,hK⟩:∃K,K=wd X:=⟨_,rfl⟩
   have cS:=Qqp X wr;have hw8:=Qw3 X;have hw1:=Qwc X;rw [<-hK] at cS hw8 hw1;have HW:=Jh1 hK;clear hK;by_cases hen:K<=n - off
   ·have hen':(K:Int)<=n - off:=by omega
    obtain ⟨wk,rfl⟩:∃wk,wk=wr:=⟨_,rfl⟩
    obtain ⟨b2,o2,rfl,hc2⟩:=H.out.1.2.2.2.resolve_left (by omega);have HC:Hid (∀i,i<n->wk.cell? ⟨b2,o2+i,none⟩=some (.int .u8 (xs.getD i 0))):=λ i hi=>by rw [(J4 HK).cell (Qaa (hc2 i hi))];exact hc2 i hi
    clear hc2;go_wp2_with (go_at_call 228;refine cS.mono ?_;rintro e wk ⟨rfl,rfl⟩)
    go_loopw [11,12] (λ v i wr=>∃t:Nat,t<=K/\i=.int .i64 t/\v=.int .u64 (numI ((xs.drop off).take t))/\wr=wk)
     (λ _ i _=>K - (intOf i).toNat)
    case atStart=>exact ⟨0,by omega,rfl,rfl,rfl⟩
    case round=>
     obtain ⟨t,ht,rfl,rfl,rfl⟩:=hrel;have hdf:∀z∈xs.drop off,Qaf z:=λ z hz=>H.out.1.2.2.1 z (List.mem_of_mem_drop hz)
     have hdl:(xs.drop off).length=n - off:=by rw [List.length_drop,H.out.1.1]
     by_cases htk:t<K
     ·have htk':(t:Int)<K:=by omega
      have hcj:=HC.out (off+t) (by omega);have hx:Qaf (xs.getD (off+t) 0):=Qij H.out.1.2.2.1 (off+t);obtain ⟨x,ex⟩:∃x,x=xs.getD (off+t) 0:=⟨_,rfl⟩
      rw [<-ex] at hcj hx;obtain ⟨r0,r1⟩:=Qhi t ((xs.drop off).take t) (by rw [List.length_take,hdl];omega) (λ z hz=>hdf z (List.mem_of_mem_take hz));have r2:numI ((xs.drop off).take t)<72057594037927936:=by
       have:=p256 t (by omega);omega
      have hnx:numI ((xs.drop off).take t)*256+x=numI ((xs.drop off).take (t+1)):=by
       rw [Qd5 (xs.drop off) (by rw [hdl];omega),Qgh,Q1x,ex]
      obtain ⟨N,eN⟩:∃N,N=numI ((xs.drop off).take t):=⟨_,rfl⟩
      rw [<-eN] at r0 r2 hnx ⊢;have hor:=shl8 r0 r2 hx;have HE:=Jh1 hnx;have hin:(off:Int)+t<n:=by omega
      obtain ⟨P,hP⟩:∃P:Nat,P=off+t:=⟨_,rfl⟩
      have hP':(off:Int)+t=P:=by omega
      rw [<-hP] at hcj;have hPn:(P:Int)<n:=by omega
      have hP0:(0:Int)<=P:=by omega
      clear hnx eN ex r1 hdf hdl hP hin;obtain ⟨hx0,hx1⟩:=hx;go_wp2
      go_roundw
      case rel=>exact ⟨t+1,by omega,by go_num,by rw [<-HE.out],trivial⟩
      case measure=>simp [intOf] <;> omega
     ·have hge:(K:Int)<=t:=by omega
      have htK:t=K:=by omega
      have hNf:Qai (numI ((xs.drop off).take t)):=Qqz (by rw [List.length_take];omega) (λ z hz=>hdf z (List.mem_of_mem_take hz));have eN':[numI ((xs.drop off).take t)]=[numI (((xs.drop (offL (ws.take j)))).take (wd X))]:=by rw [htK,<-HW.out,HK.out.1]
      obtain ⟨N,eN⟩:∃N,N=numI ((xs.drop off).take t):=⟨_,rfl⟩
      rw [<-eN] at hNf eN' ⊢;have HV:=Jh2 hNf eN';clear eN hNf eN' htK hdf hdl;go_wp2_with (at_builtin;refine Qd8 (k:=.u64) (size:=8) Tryz.underlying46 Tryz.zero_u64 (by decide) rfl (.tmp 46) (.tmp 48) rfl q A j C (valL xs (ws.take j)) rfl ((J2 HK).alloc _) (some ⟨wr.heap.size,0,none⟩) 1 1 [N] rfl (Qfz rfl rfl rfl (by intro z hz;simp only [List.mem_cons,List.not_mem_nil,or_false] at hz;subst hz;exact wfU HV.out.1) (by unfold maxLen;omega)) (λ h=>by cases h) (by omega) (by have:=(Jz4 HK);simp;omega) ?_;intro A2 C2 w2 ow2 bl2)
      go_roundw
      case rel=>
       have e1:valL xs (ws.take (j+1))=valL xs (ws.take j) ++ [N]:=by rw [HX.out,Qnv,HV.out.2]
       refine ⟨j+1,A2,C2,off+K,by omega,by go_num,by rfl,by go_num,by rw [HX.out,Qe4,<-HW.out,HK.out.1],by omega,by rw [e1];exact ow2,((J3 HK).alloc (Jz4 HK) _).trans bl2⟩
      case measure=>simp [intOf] <;> omega
   ·have hen':(n:Int) - off<K:=by omega
    have hno:¬offL ws<=xs.length:=by
     have h1:=Qnw ws (j+1);rw [HX.out,Qe4,<-HW.out,<-HK.out.1] at h1;rw [H.out.1.1];omega
    have HF:=Jh1 hno;clear hno;go_wp2_with (go_at_call 228;refine cS.mono ?_;rintro e wr ⟨rfl,rfl⟩)
    go_ret3
    refine ⟨none,0,0,none,0,0,?_⟩
    rw [show Qcw xs ws=[] by unfold Qcw;rw [if_neg HF.out],show Qei xs ws=[] by unfold Qei;rw [if_neg HF.out],decide_eq_false HF.out];exact ⟨rfl,World.ownsRow_nil _ _ _ _,World.ownsRow_nil _ _ _ _,(J3 HK)⟩
  ·have hge:(m:Int)<=j:=by omega
   have hjm:j=m:=by omega
   subst hjm;have eT:ws.take j=ws:=List.take_of_length_le (by rw [(J2 H).1];exact Nat.le_refl _);rw [eT] at HK;clear hlt hj;obtain ⟨a2,hsl,hb2,hn2⟩:=Qkd H.out.1 (k:=off) hon (Jz4 H);have H2:Hid (BIn wr a2 (n - off) (xs.drop off)/\(a2=none->n - off=0/\c - off=0)):=by
    refine ⟨hb2.below (J4 HK),λ e=>?_⟩
    by_cases ha:a=none
    ·have:=(J4 H) ha;omega
    ·exact absurd e (hn2 ha)
   have hsr:(Instr.slice 71 (.slice a n c) (some (.int .i64 (off:Int))) none none).run prog wr=.ok (.slice a2 (n - off) (c - off)) wr:=by
    rw [run_slice_l (P:=prog) wr 71 a n c Tryz.underlying71 .i64 off (by omega) (by omega)];have:(sizeOf (prog.elem 71)).run prog wr=.ok 1 wr:=by kernel_rfl
    rw [this];simp only [Result.andThen,Int.toNat_natCast,hsl]
   clear hb2 hn2 hsl eT;go_wp2_with (at_builtin;refine Qak rfl (.tmp 53) (.tmp 56) rfl wr.heap.size none 0 0 [] rfl (World.ownsRow_nil _ _ _ _) a2 (n - off) (c - off) (xs.drop off) rfl H2.out.1 H2.out.2 (by omega) (Nat.le_refl _) ?_;intro R D w2 ow2 bl2)
   go_ret3
   have hyes:offL ws<=xs.length:=by rw [H.out.1.1,<-HK.out.1];exact hon
   refine ⟨A,j,C,R,0+(n - off),D,?_⟩
   rw [show Qcw xs ws=valL xs ws by unfold Qcw;rw [if_pos hyes],show Qei xs ws=xs.drop (offL ws) by unfold Qei;rw [if_pos hyes],decide_eq_true hyes,<-HK.out.1];refine ⟨by simp,Qbx (J2 HK) bl2 (Nat.le_refl _),Qa3 ow2 (Jz4 HK),(J3 HK).trans (bl2.mono (Jz4 HK))⟩

theorem Qvj {c:Int} (h:(bits .and .u32 c 1 == 1)=true):crH c=bits .xor .u32 (c / 2) 3988292384:=if_pos h
theorem Qp3 {c:Int} (h:(bits .and .u32 c 1 == 1)=false):crH c=c / 2:=if_neg (by rw [h];decide)
theorem Qu1 {c:Int} (h0:0<=c) (h1:c<4294967296):bits .and .u32 c 1=c % 2:=by
 have:=u32_and c 1 h0 h1 (by omega) (by omega);rw [this,show (1:Int).toNat=1 from rfl,nat_mask1];omega
theorem crH_odd' {c:Int} (h0:0<=c) (h1:c<4294967296) (h:(c % 2 == 1)=true):crH c=bits .xor .u32 (c / 2) 3988292384:=Qvj (by rw [Qu1 h0 h1];exact h)
theorem crH_even' {c:Int} (h0:0<=c) (h1:c<4294967296) (h:(c % 2 == 1)=false):crH c=c / 2:=Qp3 (by rw [Qu1 h0 h1];exact h)
theorem Qjz {a b:Int} (h:a=b):Value.int .u32 a=.int .u32 b:=by rw [h]
theorem Qlf {a b:Int} (h:a=b):Ending.returned (.int .u32 a)=.returned (.int .u32 b):=by rw [h]
set_option maxHeartbeats 400000 in
theorem Qoo (c:Int) (w:World) (h0:0<=c) (h1:c<4294967296) :
  Calls prog 282 #[.int .u32 c] w λ e w'=>e=.returned (.int .u32 (crH c))/\w'=w:=by
 go_enter func282,ntmps282
 go_wp2
 ·go_ret
  exact ⟨Qlf (Qvj ‹_›).symm,rfl⟩
 ·go_ret
  exact ⟨Qlf (Qp3 ‹_›).symm,rfl⟩
set_option maxHeartbeats 400000 in
theorem Qsq (s b:Int) (w:World) (hs:Qas s) (hb:Qaf b) :
  Calls prog 256 #[.int .u32 s,.int .u8 b] w λ e w'=>e=.returned (.int .u32 (crN s b))/\w'=w:=by
 have H:Hid (Qas (crS s b)):=Qrp hs hb;obtain ⟨h0,h1⟩:=hs;obtain ⟨h2,h3⟩:=hb;go_enter func256,ntmps256
 go_wp2
 go_loop [5,11] (λ c i=>∃k:Nat,k<=8/\i=.int .i64 k/\c=.int .u32 (Qj5 k (crS s b))) (λ _ i=>8 - (intOf i).toNat)
 case atStart=>exact ⟨0,by omega,rfl,rfl⟩
 case round=>
  obtain ⟨k,hk,rfl,rfl⟩:=hrel;have hf:=Qir k H.out;obtain ⟨hf0,hf1⟩:=hf;by_cases hlt:k<8
  ·go_wp2_with (go_at_call 282;refine (Qoo _ _ hf0 hf1).mono ?_;rintro e w' ⟨rfl,rfl⟩)
   go_round
   case rel=>exact ⟨k+1,by omega,by go_num,rfl⟩
   case measure=>simp [intOf];omega
  ·have:k=8:=by omega
   subst this;go_wp2
   go_ret
   exact ⟨rfl,rfl⟩
set_option maxHeartbeats 400000 in
theorem Qo1 (s b:Int) (w:World) (hs:Qas s) (hb:Qaf b) :
  Calls prog 230 #[.int .u32 s,.int .u8 b] w λ e w'=>e=.returned (.int .u32 (crN s b))/\w'=w:=by
 have H:Hid (Qas (crS s b)):=Qrp hs hb;obtain ⟨h0,h1⟩:=hs;obtain ⟨h2,h3⟩:=hb;go_enter func230,ntmps230
 go_wp2
 go_loop [5,6] (λ c i=>∃k:Nat,k<=8/\i=.int .i64 k/\c=.int .u32 (Qj5 k (crS s b))) (λ _ i=>8 - (intOf i).toNat)
 case atStart=>exact ⟨0,by omega,rfl,rfl⟩
 case round=>
  obtain ⟨k,hk,rfl,rfl⟩:=hrel;have hf:=Qir k H.out;obtain ⟨hf0,hf1⟩:=hf;by_cases hlt:k<8
  ·go_wp2
   ·go_round
    case rel=>exact ⟨k+1,by omega,by go_num,Qjz (crH_odd' hf0 hf1 ‹_›).symm⟩
    case measure=>simp [intOf];omega
   ·go_round
    case rel=>exact ⟨k+1,by omega,by go_num,Qjz (crH_even' hf0 hf1 ‹_›).symm⟩
    case measure=>simp [intOf];omega
  ·have:k=8:=by omega
   subst this;go_wp2
   go_ret
   exact ⟨rfl,rfl⟩
structure Lst where
 a:Option Addr
 len:Nat
 cap:Nat
 zs:List Int
def Lst.In (l:Lst) (w:World):Prop:=
 l.zs.length=l.len/\l.len<=maxLen/\(∀z∈l.zs,Qaf z)/\
 (l.len=0\/∃b off,l.a=some ⟨b,off,none⟩/\∀i,i<l.len->w.cell? ⟨b,off+i,none⟩=some (.int .u8 (l.zs.getD i 0)))
def Qb6 (ls:List Lst):List Int:=ls.flatMap (·.zs)
theorem Qkt {α:Type} (l:List α) (k:Nat) (h:k<l.length):l.take (k+1)=l.take k ++ [l[k]]:=
 List.take_succ_eq_append_getElem h
theorem Qwn (s:Int) (zs:List Int) (k:Nat) (h:k<zs.length):crI s (zs.take (k+1))=crN (crI s (zs.take k)) (zs.getD k 0):=by
 rw [Qkt zs k h,Qy6];simp [List.getD,h]
theorem Qps (ls:List Lst) (k:Nat) (h:k<ls.length):Qb6 (ls.take (k+1))=Qb6 (ls.take k) ++ ls[k].zs:=by
 unfold Qb6;rw [Qkt ls k h,List.flatMap_append];simp
theorem Qm7 {zs:List Int} (h:∀z∈zs,Qaf z) (k:Nat):∀z∈zs.take k,Qaf z:=λ z hz=>h z (List.mem_of_mem_take hz)
theorem Qm2 {zs:List Int} (h:∀z∈zs,Qaf z) (k:Nat):Qaf (zs.getD k 0):=by
 by_cases hk:k<zs.length
 ·have:zs.getD k 0=zs[k]:=by simp [List.getD,hk]
  rw [this];exact h _ (List.getElem_mem hk)
 ·have:zs.getD k 0=0:=by simp [List.getD,List.getElem?_eq_none (by omega:zs.length<=k)]
  rw [this];unfold Qaf;omega
def Qwi (w:World) (a:Option Addr) (ls:List Lst):Prop:=
 ls.length<=maxLen/\(∀l∈ls,l.In w)/\
 (ls.length=0\/∃b off,a=some ⟨b,off,none⟩/\∀i (h:i<ls.length),w.cell? ⟨b,off+i,none⟩=some (.slice ls[i].a ls[i].len ls[i].cap))
theorem Qtm {w:World} {a:Option Addr} {ls:List Lst} (h:Qwi w a ls):∀z∈Qb6 ls,Qaf z:=by
 intro z hz;simp only [Qb6,List.mem_flatMap] at hz
 obtain ⟨l,hl,hz⟩:=hz;exact (h.2.1 l hl).2.2.1 z hz
set_option maxHeartbeats 400000 in
theorem Qs3 (a:Option Addr) (cap n:Nat) (ls:List Lst) (w:World) (hn:ls.length=n) (h:Qwi w a ls) :
  Calls prog 206 #[.slice a n cap] w λ e w'=>e=.returned (.int .u32 (crI 0 (Qb6 ls)))/\w'=w:=by
 have H:=Jh2 hn h;have hm:n<=maxLen:=by rw [<-hn];exact h.1
 unfold maxLen at hm;clear hn h;go_enter func206,ntmps206
 go_wp2
 go_loop [3,10] (λ s i=>∃k:Nat,k<=n/\i=.int .i64 k/\s=.int .u32 (crI 0 (Qb6 (ls.take k)))) (λ _ i=>n - (intOf i).toNat)
 case atStart=>exact ⟨0,by omega,rfl,rfl⟩
 case round=>
  obtain ⟨k,hk,rfl,rfl⟩:=hrel;by_cases hlt:k<n
  ·have hkl:k<ls.length:=by rw [H.out.1];exact hlt
   obtain ⟨b,off,ha,hc⟩:=(Jz3 H).resolve_left (by omega);subst ha;replace hc:=hc k hkl
   have hin:=(J3 H) ls[k] (List.getElem_mem hkl);have HB:Hid (Qb6 (ls.take (k+1))=Qb6 (ls.take k) ++ ls[k].zs):=Qps ls k hkl;have HF:Hid (Qas (crI 0 (Qb6 (ls.take k)))):=Qds Qsd (λ z hz=>by
    have:z∈Qb6 ls:=by
     simp only [Qb6,List.mem_flatMap] at hz ⊢
     obtain ⟨l,hl,hz⟩:=hz;exact ⟨l,List.mem_of_mem_take hl,hz⟩
    exact Qtm H.out.2 z this)
   generalize hL:ls[k]=L at hc hin HB;clear hL;obtain ⟨a',len',cap',zs'⟩:=L;obtain ⟨hz,hm',hfit,hcells⟩:=hin;have HZ:=Jh2 hz hfit;replace hm':len'<=maxLen:=hm'
   unfold maxLen at hm';replace hc:w.cell? ⟨b,off+k,none⟩=some (.slice a' len' cap'):=hc
   have HC:=Jh1 @hcells;clear hz hfit hcells;go_wp2
   go_loop [3,16] (λ s i=>∃j:Nat,j<=len'/\i=.int .i64 j/\s=.int .u32 (crI (crI 0 (Qb6 (ls.take k))) (zs'.take j))) (λ _ i=>len' - (intOf i).toNat)
   case atStart=>exact ⟨0,by omega,rfl,rfl⟩
   case round=>
    obtain ⟨j,hj,rfl,rfl⟩:=hrel;by_cases hjt:j<len'
    ·obtain ⟨b',off',ha',hcs⟩:=HC.out.resolve_left (by omega)
     subst ha';replace hcs:=hcs j hjt
     have hf:=Qds HF.out (Qm7 HZ.out.2 j);have hg:=Qm2 HZ.out.2 j;have HS:Hid (crI (crI 0 (Qb6 (ls.take k))) (zs'.take (j+1))=crN (crI (crI 0 (Qb6 (ls.take k))) (zs'.take j)) (zs'.getD j 0)):=Qwn _ _ _ (by rw [HZ.out.1];exact hjt);go_wp2_with (go_at_call 256;refine (Qsq _ _ _ hf hg).mono ?_;rintro e w' ⟨rfl,rfl⟩)
     go_round
     case rel=>exact ⟨j+1,by omega,by go_num,Qjz HS.out.symm⟩
     case measure=>simp [intOf];omega
    ·have HT:Hid (zs'.take j=zs'):=List.take_of_length_le (by rw [HZ.out.1];omega)
     go_wp2
     go_round
     case rel=>exact ⟨k+1,by omega,by go_num,Qjz (by rw [HB.out,Qsl,HT.out])⟩
     case measure=>simp [intOf];omega
  ·have:k=n:=by omega
   subst this;have HT:Hid (ls.take k=ls):=List.take_of_length_le (by rw [H.out.1];omega);go_wp2
   go_ret
   exact ⟨Qlf (by rw [HT.out]),rfl⟩
theorem Qge (g:Nat) (a:Option Addr) (n c d:Nat) (zs:List Int) (w:World) (hc:w.cell? ⟨g,0,none⟩=some (.slice a n c)) (h:BIn w a n zs) :
  Calls prog 206 #[.slice (some ⟨g,0,none⟩) 1 d] w λ e w'=>e=.returned (.int .u32 (crI 0 zs))/\w'=w:=by
 have:=Qs3 (some ⟨g,0,none⟩) d 1 [⟨a,n,c,zs⟩] w rfl ⟨by unfold maxLen;simp,by intro l hl;simp at hl;subst hl;exact h,.inr ⟨g,0,rfl,λ i hi=>by
  match i,hi with
  | 0,_=>exact hc⟩⟩
 simpa [Qb6] using this
set_option maxHeartbeats 400000 in
theorem Qow (a:Option Addr) (len cap:Nat) (zs:List Int) (w:World) (h:Lst.In ⟨a,len,cap,zs⟩ w) :
  Calls prog 160 #[.slice a len cap] w λ e w'=>e=.returned (.int .u32 (crI 0 zs))/\w'=w:=by
 obtain ⟨hz,hm,hfit,hcells⟩:=h;have HZ:=Jh2 hz hfit;replace hm:len<=maxLen:=hm
 unfold maxLen at hm;have HC:=Jh1 @hcells;clear hz hfit hcells;go_enter func160,ntmps160
 go_wp2
 go_loop [3,4] (λ s i=>∃j:Nat,j<=len/\i=.int .i64 j/\s=.int .u32 (crI 0 (zs.take j))) (λ _ i=>len - (intOf i).toNat)
 case atStart=>exact ⟨0,by omega,rfl,rfl⟩
 case round=>
  obtain ⟨j,hj,rfl,rfl⟩:=hrel;by_cases hjt:j<len
  ·obtain ⟨b',off',ha',hcs⟩:=HC.out.resolve_left (by omega)
   subst ha';replace hcs:=hcs j hjt
   have hf:=Qds Qsd (Qm7 HZ.out.2 j);have hg:=Qm2 HZ.out.2 j;have HS:Hid (crI 0 (zs.take (j+1))=crN (crI 0 (zs.take j)) (zs.getD j 0)):=Qwn _ _ _ (by rw [HZ.out.1];exact hjt);go_wp2_with (go_at_call 230;refine (Qo1 _ _ _ hf hg).mono ?_;rintro e w' ⟨rfl,rfl⟩)
   go_round
   case rel=>exact ⟨j+1,by omega,by go_num,Qjz HS.out.symm⟩
   case measure=>simp [intOf];omega
  ·have HT:Hid (zs.take j=zs):=List.take_of_length_le (by rw [HZ.out.1];omega)
   go_wp2
   go_ret
   exact ⟨Qlf (by rw [HT.out]),rfl⟩
theorem Qhd (a:Option Addr) (n c:Nat) (zs:List Int) (w:World) (h:BIn w a n zs) :
  Calls prog 160 #[.slice a n c] w λ e w'=>e=.returned (.int .u32 (crI 0 zs))/\w'=w:=Qow a n c zs w h
end Go.Proofs.YtcdnjeiamihhbaaGreat
namespace Go.Proofs.YtcdnjeiamihhbaaGreat
open Go.RowKit Go.Shelf
theorem Quw:∀n:Fin 4097,64<=n.val->(decide (bits BinOp.and IntKind.i64 (n.val:Int) ((n.val:Int) - 1)=0)=decide ((n.val:Int)∈Powers)):=by decide +kernel
theorem Qtt {b:Int} (h1:64<=b) (h2:b<=4096):bits BinOp.and IntKind.i64 b (b - 1)=0↔b∈Powers:=by
 have:=Quw ⟨b.toNat,by omega⟩ (by show 64<=b.toNat;omega);have e:((b.toNat:Nat):Int)=b:=by omega
 simp only [e] at this
 exact decide_eq_decide.1 this
set_option maxHeartbeats 2000000 in
theorem Qia (s:Sh) (w:World) (hz:-9223372036854775808<=s.z) :
  Calls prog 91 #[.agg (shL s).toArray] w λ e w'=>e=.returned (.bool (decide (Qat s)))/\Below w.heap.size w w':=by
 obtain ⟨z,zb,b,r⟩:=s;obtain ⟨B,hB⟩:∃B,B=decide (Qat ⟨z,zb,b,r⟩):=⟨_,rfl⟩
 rw [<-hB];have HB:=Jh1 hB;clear hB;have bw:Hid (∀o,Below w.heap.size w (w.alloc o)):=λ o=>(Below.refl _ _).alloc (Nat.le_refl _) o
 by_cases h1:(decide (6<=z) && decide (z<=256))=true
 ·by_cases h2:(decide (8<=zb) && decide (zb<=4096))=true
  ·by_cases h3:(decide (64<=b) && decide (b<=4096))=true
   ·simp only [Bool.and_eq_true,decide_eq_true_eq] at h1 h2 h3
    obtain ⟨z1,z2⟩:=h1;obtain ⟨y1,y2⟩:=h2;obtain ⟨x1,x2⟩:=h3;have hw:IntKind.i64.wrap (b - 1)=b - 1:=by rw [IntKind.wrap_i64];omega
    have hw4:IntKind.i64.wrap (z - 4)=z - 4:=by rw [IntKind.wrap_i64];omega
    by_cases hp:b∈Powers
    ·have hand:=(Qtt x1 x2).2 hp
     have hf:B=(decide (2<=r) && decide (r<=z - 4)):=by
      rw [HB.out];simp [Qat,z1,z2,y1,y2,hp]
     clear HB;subst hf;clear hp;simp only [shL]
     go_enter func91,ntmps91
     go_wp2_with (go_at_call 40;refine (Qcb _ _ _ _).mono ?_;rintro e w' ⟨rfl,rfl⟩)
     go_ret
     exact ⟨rfl,bw.out _⟩
    ·have hand:¬bits BinOp.and IntKind.i64 b (b - 1)=0:=λ h=>hp ((Qtt x1 x2).1 h)
     have hf:B=false:=by
      rw [HB.out];simp [Qat,hp]
     clear HB;subst hf;clear hp;simp only [shL]
     go_enter func91,ntmps91
     go_wp2_with (go_at_call 40;refine (Qcb _ _ _ _).mono ?_;rintro e w' ⟨rfl,rfl⟩)
     go_ret
     exact ⟨rfl,bw.out _⟩
   ·have h3':(decide (64<=b) && decide (b<=4096))=false:=by simpa using h3
    have hf:B=false:=by
     rw [HB.out];refine decide_eq_false ?_;rintro ⟨_,_,_,_,h,_⟩;have:=Qbd h;simp at h3;simp only at this;omega
    clear h3 HB;subst hf;simp only [shL]
    go_enter func91,ntmps91
    go_wp2_with (go_at_call 40;refine (Qcb _ _ _ _).mono ?_;rintro e w' ⟨rfl,rfl⟩)
    go_ret
    exact ⟨rfl,bw.out _⟩
  ·have h2':(decide (8<=zb) && decide (zb<=4096))=false:=by simpa using h2
   have hf:B=false:=by
    rw [HB.out];refine decide_eq_false ?_;rintro ⟨_,_,a1,a2,_⟩;simp only at a1 a2;simp at h2;omega
   clear h2 HB;subst hf;simp only [shL]
   go_enter func91,ntmps91
   go_wp2_with (go_at_call 40;refine (Qcb _ _ _ _).mono ?_;rintro e w' ⟨rfl,rfl⟩)
   go_ret
   exact ⟨rfl,bw.out _⟩
 ·have h1':(decide (6<=z) && decide (z<=256))=false:=by simpa using h1
  have hf:B=false:=by
   rw [HB.out];refine decide_eq_false ?_;rintro ⟨a1,a2,_⟩;simp only at a1 a2;simp at h1;omega
  clear h1 HB;subst hf;simp only [shL]
  go_enter func91,ntmps91
  go_wp2_with (go_at_call 40;refine (Qcb _ _ _ _).mono ?_;rintro e w' ⟨rfl,rfl⟩)
  go_ret
  exact ⟨rfl,bw.out _⟩
end Go.Proofs.YtcdnjeiamihhbaaGreat
namespace Go.Proofs.YtcdnjeiamihhbaaGreat
open Go.RowKit
theorem Ql9 {b:Int} (h1:64<=b) (h2:b<=4096):bits BinOp.and IntKind.i64 b (b - 1)=0↔b∈PowR:=Qtt h1 h2
theorem Qet (t:TypeId) {w:World} {g n:Nat} {L:List Int} {C:Array Value} {fr:Nat × Nat} (hk:w.heap.size=g) (hC:C=(Qaj .i64 L).toArray) (hn:L.length=n) (hf:(L.all λ z=>(Lit.int .i64 z).wf)=true) (hm:n<=1000) :
  NIn .i64 (w.alloc (.cells C t fr)) (some ⟨g,0,none⟩) n L:=Qfz hk hC hn (List.all_eq_true.1 hf) (by unfold maxLen;omega)
theorem Qdq (t:TypeId) {w:World} {g n:Nat} {L:List Int} {C:Array Value} {fr:Nat × Nat} (hk:w.heap.size=g) (hC:C=(Qaj .u64 L).toArray) (hn:L.length=n) (hf:∀z∈L,Qai z) (hm:n<=1000) :
  NIn .u64 (w.alloc (.cells C t fr)) (some ⟨g,0,none⟩) n L:=Qfz hk hC hn (λ z hz=>wfU (hf z hz)) (by unfold maxLen;omega)
theorem Q3z {xs ys:List Int} (hx:∀z∈xs,Qaf z) (hy:∀z∈ys,Qaf z) (h:xs≠ys):strOfNums xs≠strOfNums ys:=by
 intro e;apply h
 have e1:(xs.map λ n=>UInt8.ofNat n.toNat)=ys.map λ n=>UInt8.ofNat n.toNat:=by rw [<-strOfNums_data,<-strOfNums_data,e]
 have hl:xs.length=ys.length:=by simpa using congrArg List.length e1
 apply List.ext_getElem hl
 intro i h1 h2;have e2:(xs.map λ n=>UInt8.ofNat n.toNat)[i]'(by simpa using h1)=(ys.map λ n=>UInt8.ofNat n.toNat)[i]'(by simpa using h2):=by simp only [e1]
 simp only [List.getElem_map] at e2
 have e3:=congrArg UInt8.toNat e2;have f1:=hx _ (List.getElem_mem h1);have f2:=hy _ (List.getElem_mem h2);unfold Qaf at f1 f2;simp only [UInt8.toNat_ofNat'] at e3
 omega
theorem Qi8 {xs ys:List Int} (hx:∀z∈xs,Qaf z) (hy:∀z∈ys,Qaf z) (h:xs≠ys):((strOfNums xs).toList == (strOfNums ys).toList)=false:=by
 rw [beq_eq_false_iff_ne];intro e;rw [Lib.strOfNums_toList,Lib.strOfNums_toList] at e;refine Q3z hx hy h ?_
 have e1:(strOfNums xs).data.toList=(strOfNums ys).data.toList:=e;have e2:(strOfNums xs).data=(strOfNums ys).data:=Array.toList_inj.1 e1;exact congrArg ByteArray.mk e2
theorem Qr0 (a:Option Addr) (n c:Nat) (xs:List Int) (b:Option Addr) (m d:Nat) (ys:List Int) (w:World) (hx:BIn w a n xs) (hy:BIn w b m ys) :
  Calls prog 192 #[.slice a n c,.slice b m d] w λ e w'=>e=.returned (.bool (decide (xs=ys)))/\w'=w:=by
 have h1:=Qh0 w a n c xs hx;have h2:=Qh0 w b m d ys hy;by_cases h:xs=ys
 ·subst h
  simp only [decide_true]
  go_enter func192,ntmps192
  go_wp2
  go_ret
  exact ⟨rfl,rfl⟩
 ·have h3:=Qi8 hx.2.2.1 hy.2.2.1 h
  rw [decide_eq_false h];clear h hx hy;go_enter func192,ntmps192
  go_wp2
  go_ret
  exact ⟨rfl,rfl⟩
def pwR (k:Nat):Int:=64*2 ^ k
theorem Qp8:∀k:Fin 7,PowR[k.val]?=some (pwR k.val)/\64<=pwR k.val/\pwR k.val<=4096/\pwR (k.val+1)=2*pwR k.val:=by decide
theorem Qmd {b:Int}:b∈PowR↔∃k,k<7/\b=pwR k:=by
 constructor
 ·intro h
  obtain ⟨k,hk⟩:=List.getElem?_of_mem h;have hl:k<7:=(List.getElem?_eq_some_iff.1 hk).1;rw [(Qp8 ⟨k,hl⟩).1] at hk;exact ⟨k,hl,by simpa using hk.symm⟩
 ·rintro ⟨k,hk,rfl⟩
  exact List.mem_of_getElem? (Qp8 ⟨k,hk⟩).1
def Qdm (s:ByteArray):Ending:=.panicked [{v:=.iface 9 (.string s),recovered:=false}]
theorem Qpd (n:Nat) (w:World):Blk (w.alloc (.cells (madeCells #[.int .u8 0] n) 5)) w.heap.size (u8s (List.replicate n 0)) 5:=by
 refine Blk.new' rfl ?_
 apply Array.ext'
 rw [toList_madeCells_one];simp [u8s]
theorem Qkh {P Q:List Int} {m:Nat} (h:Q.length<=m):splice (P ++ List.replicate m 0) P.length Q=(P ++ Q) ++ List.replicate (m - Q.length) 0:=by
 unfold splice;rw [List.take_left' rfl,List.drop_append,List.drop_eq_nil_of_le (by omega)];simp
theorem Qed {p:List Int}:splice p 4 (bigI 4 (crI 0 p))=Qek p:=by
 unfold splice Qek;rw [Qac]
theorem Qos (v:Int):Qan [4] [v]=bigI 4 v:=by simp [Qan,wd]
theorem NIn.drew {k:IntKind} {w:World} {a:Option Addr} {n:Nat} {zs:List Int} (h:NIn k w a n zs):NIn k w.drew a n zs:=h
theorem Qk3 (L:List Int) (o:Nat) (zs:List Int):splice (u8s L) o (u8s zs)=u8s (splice L o zs):=by simp [splice,u8s,List.map_take,List.map_drop]
theorem Qc4 {L zs:List Int} {o:Nat} (h:o+zs.length<=L.length):(splice L o zs).length=L.length:=by
 simp only [splice,List.length_append,List.length_take,List.length_drop];omega
theorem Q0i {w:World} {q o:Nat} {a:Option Addr} {n:Nat} {zs:List Int} (h:BIn w a n zs):0<(u8s zs).length->(some ⟨q,o,none⟩:Option Addr)=some ⟨q,o,none⟩/\∃ad,a=some ad/\∀j v,(u8s zs)[j]?=some v->w.cell? (ad.add j)=some v:=by
 intro hp;refine ⟨rfl,?_⟩
 obtain ⟨hl,_,_,hc⟩:=h;rw [Qah,hl] at hp;obtain ⟨b,off,rfl,hcell⟩:=hc.resolve_left (by omega);refine ⟨_,rfl,λ j v hj=>?_⟩
 have hjl:j<n:=by
  have:=(List.getElem?_eq_some_iff.1 hj).1;rwa [Qah,hl] at this
 rw [Addr.add_mid,hcell j hjl,<-hj];simp [u8s,List.getD,hl,hjl]
theorem Qmm {P:Program} {ops:Array Oper} {o:Oper} {a:Act} {w:World} {K:Act->World->Prop} {Q:Exit->Act->World->Prop} {E:Prop} (hgd:o.guard=none) (d s:Operand) (dT sT:TypeId)
  (ho:o.op=.call {callee:=.builtin .copy,args:=#[d,s],argTypes:=#[dT,sT]}) (elem:TypeId) (hu:P.underlying dT=some (.slice elem)) (hsz:(P.info? elem).map (·.size)=some 1)
  (dp sp:Option Addr) (dLen dCap sLen sCap:Nat) (hd:a.eval d=.slice dp dLen dCap) (hs:a.eval s=.slice sp sLen sCap)
  (g off:Nat) (cur:List Value) (t:TypeId) (hg:Blk w g cur t) (cs:List Value) (hn:cs.length=Nat.min sLen dLen)
  (hpos:0<cs.length->dp=some ⟨g,off,none⟩/\∃ad,sp=some ad/\∀j v,cs[j]?=some v->w.cell? (ad.add j)=some v)
  (hfit:off+cs.length<=cur.length) (h1:∀v∈cs,v.oneCell'=true)
  (h:∀w',Blk w' g (splice cur off cs) t->Below g w w'->(∀k,k≠g->w'.heap[k]?=w.heap[k]?)->w'.heap.size=w.heap.size->K (a.put o.dst (goInt cs.length)) w') :
  if Region.wanted o (yielded ops a.tmps)=true then Oper.wp P o a w K Q else E:=by
 have hw:Region.wanted o (yielded ops a.tmps)=true:=by simp [Region.wanted,hgd]
 rw [if_pos hw];by_cases h0:cs.length=0
 ·obtain rfl:cs=[]:=List.eq_nil_of_length_eq_zero h0
  have hrun:=run_copy_none (P:=P) w dT sT o.type elem dp sp dLen dCap sLen sCap hu hsz (by simpa using hn.symm);unfold Oper.wp;simp [execOp,ho,resolve,invoke,builtin,hd,hs,hrun,Result.andThen]
  exact h w (by have e:splice cur off ([]:List Value)=cur:=(by simp [splice]);rw [e];exact hg) (Below.refl _ _) (λ _ _=>rfl) rfl
 ·obtain ⟨rfl,ad,rfl,hsrc⟩:=hpos (by omega)
  have hrun:=run_copy_row (P:=P) w dT sT o.type elem g off dLen dCap ad sLen sCap cur.toArray t cs hu hsz hg hn hsrc (by simpa using hfit) h1;unfold Oper.wp;simp [execOp,ho,resolve,invoke,builtin,hd,hs,hrun,Result.andThen]
  exact h _ (show _=_ by simpa [splice] using setRow_heap w g _ _ t _ hg) (below_setRow (Below.refl _ _) (Nat.le_refl _) _) (λ k hk=>setRow_other w g k _ hk) (by simp [World.setRow])
theorem Qq4 {w w':World} {g:Nat} {L:List Value} {t:TypeId} (h:Blk w g L t) (e:w'.heap[g]?=w.heap[g]?):Blk w' g L t:=by unfold Blk;rw [e];exact h
theorem Qc5 (xs:List Int) (k:Nat):k<=(xs.take k).length↔k<=xs.length:=by rw [List.length_take];omega
theorem Qnu:∀(ws:List Int) (xs:List Int) (k:Nat),offL ws<=k->valL (xs.take k) ws=valL xs ws
 | [],_,_,_=>rfl
 | x :: ws,xs,k,h=>by
  simp only [offL] at h
  simp only [valL]
  rw [List.take_take,Nat.min_eq_left (by omega),List.drop_take,Qnu ws _ _ (by omega)]
theorem Qio (xs ws:List Int):Qcw (xs.take (offL ws)) ws=Qcw xs ws:=by
 unfold Qcw;by_cases h:offL ws<=xs.length
 ·rw [if_pos h,if_pos ((Qc5 _ _).2 h),Qnu ws xs _ (Nat.le_refl _)]
 ·rw [if_neg h,if_neg (λ e=>h ((Qc5 _ _).1 e))]
def Qcz (a:Option Addr) (n c i:Nat):Value:=.slice (if c=i then a else a.map (·.add i)) (n - i) (c - i)
theorem Qer {w:World} {base k C:Nat} {A:Option Addr} {L:List Int} (h:w.ownsRow base 45 1 (.slice A k C) k (Qaj .u64 L)) (h0:L≠[]):∃g,A=some ⟨g,0,none⟩/\k=L.length/\base<=g/\k<=C/\∀i,i<L.length->w.cell? ⟨g,i,none⟩=some (.int .u64 (L.getD i 0)):=by
 have hl:L.length=k:=by have:=h.1;simp [Qaj] at this;omega
 have hp:0<L.length:=List.length_pos_iff.2 h0;rcases h.2 with ⟨hv,hn⟩ | ⟨g,cap,cur,hv,hb,hg,hc,hcm,hsz,htake⟩
 ·omega
 ·cases hv
  refine ⟨g,rfl,hl.symm,hb,hc,λ i hi=>?_⟩
  have hcl:=h.cells (g:=g) rfl i (.int .u64 (L.getD i 0)) (by simp [Qaj,List.getD,hi]);rw [Addr.add_mid,Nat.zero_add] at hcl;exact hcl
theorem Qjo {a:Option Addr} {n c i:Nat} (hi:i<=n) (hn:a=none->n=0/\c=0):(if c=i then a else a.map (·.add i))=none->n - i=0/\c - i=0:=by
 intro e;have:a=none:=by
  split at e
  ·exact e
  ·cases a with
   | none=>rfl
   | some x=>cases e
 have:=hn this;omega
theorem Qaq {ops:Array Oper} {o:Oper} {a:Act} {w:World} {K:Act->World->Prop} {Q:Exit->Act->World->Prop} {E:Prop} (hg:o.guard=none) (s x:Operand) (t t2:TypeId)
  (hop:o.op=.call {callee:=.builtin .append,args:=#[s,x],argTypes:=#[t,t2]}) (sv xv:Value) (hs:a.eval s=sv) (hx:a.eval x=xv) (v:Value) (w':World) (hrun:(Builtin.append_ #[t,t2] o.type #[sv,xv]).run prog w=.ok v w') (hK:K (a.put o.dst v) w') :
  if Region.wanted o (yielded ops a.tmps)=true then Oper.wp prog o a w K Q else E:=by
 have hw:Region.wanted o (yielded ops a.tmps)=true:=by simp [Region.wanted,hg]
 rw [if_pos hw];unfold Oper.wp;simp [execOp,hop,resolve,invoke,builtin,hs,hx,hrun,Result.andThen]
 exact hK
def noCk:ByteArray:=⟨#[99,107,112,116,58,32,116,104,101,32,98,108,111,99,107,115,32,97,114,101,32,110,111,32,99,104,101,99,107,112,111,105,110,116]⟩
def noBk:ByteArray:=⟨#[99,107,112,116,58,32,116,104,101,32,115,116,97,116,101,32,104,97,115,32,110,111,32,98,108,111,99,107,115]⟩
def Q28 (g:Nat) (a:Option Addr) (n c:Nat) (xs ws:List Int) (w:World) (e:Ending) (w':World):Prop:=
 (offL ws<=n/\∃A k C w2,e=.returned (.slice A k C)/\Below w.heap.size w w2/\w'=w2.setCell ⟨g,0,none⟩ (Qcz a n c (offL ws))/\w2.ownsRow w.heap.size 45 1 (.slice A k C) k (Qaj .u64 (valL xs ws)))\/
 (n<offL ws/\e=Qdm noCk/\Below w.heap.size w w')
set_option maxHeartbeats 1000000 in
theorem Qro (g:Nat) (a:Option Addr) (n c o:Nat) (xs:List Int) (b:Option Addr) (m d:Nat) (ws:List Int) (w:World) (ho:o=offL ws) (hg:w.cell? ⟨g,0,none⟩=some (.slice a n c)) (hz:w.frozen? ⟨g,0,none⟩=false) (hx:BIn w a n xs) (hnil:a=none->n=0/\c=0) (hnc:n<=c) (hy:NIn .i64 w b m ws) (hn:n<=100000) (hm:m<=1000) :
  Calls prog 238 #[.pointer (some ⟨g,0,none⟩),.int .i64 (o:Nat),.slice b m d] w (Q28 g a n c xs ws w):=by
 have hob:o<=8000:=by have:=Qom ws;have:=hy.1;omega
 have H:=Jh7 hx hy hnil hnc hg hz ho;clear hx hy hnil hnc hg hz ho;obtain ⟨M,hM⟩:∃M:Nat,M=min o n:=⟨_,rfl⟩
 have hM':(if n<o then (n:Int) else o)=M:=by rw [hM];split <;> omega
 have hMc:M<=c:=by have:=(J4 H);omega
 have hsl:=λ w=>Qee Tryz.underlying71 Tryz.one_bytes a n c M hMc w
 have hMn:M<=n:=by omega
 have eX:xs.take M=xs.take (offL ws):=by
  rw [<-(Jz6 H)];by_cases h:o<=n
  ·rw [hM,Nat.min_eq_left h]
  ·rw [hM,Nat.min_eq_right (by omega),List.take_of_length_le (by rw [H.out.1.1];exact Nat.le_refl _),List.take_of_length_le (by rw [H.out.1.1];omega)]
 have HM:=Jh3 eX hMn hMc;clear hM eX hMc hMn;have c0:=(J5 H)
 have cT:=Qus a M c (xs.take M) b m d ws w.drew ((H.out.1.n.front M (J2 HM)).b) (λ e=>by have:=(J3 H) e;have:=HM.out;omega) (Jz2 HM) (J2 H) (by have:=HM.out;omega) (by omega);have ed:decide (offL ws<=(xs.take (offL ws)).length)=decide (o<=n):=decide_eq_decide.2 (by rw [Qc5,<-(Jz6 H),H.out.1.1]);rw [HM.out.1,Qio,ed] at cT;clear ed;go_enter func238,ntmps238
 go_upto_region 1 with fail
 go_region_held3 (λ w'=>w'.cell? ⟨g,0,none⟩=some (.slice a n c)) (first | exact c0 | exact c2)
  (first | (go_simp;go_at_call 268;refine cT.mono ?_;rintro e w2 ⟨A,k,C,R,r,D,rfl,ow,-,bl⟩;have bl':Below w.heap.size w w2:=(Below.refl _ _).drew.trans bl;have c2:w2.cell? ⟨g,0,none⟩=some (.slice a n c):=by (rw [bl'.cell (Qaa c0)];exact c0)))
 have f2:w2.frozen? ⟨g,0,none⟩=false:=by rw [bl'.frozen (Qaa c0)];exact (J6 H)
 have HE:=Jh2 ow bl';clear ow bl cT bl' c0 hM' hsl;by_cases hen:o<=n
 ·rw [decide_eq_true hen]
  have hen':(o:Int)<=n:=by omega
  obtain ⟨A',eA⟩:∃A',.slice A' (n - o) (c - o)=Qcz a n c o:=⟨_,rfl⟩
  have hb:=λ w=>Qc6 Tryz.underlying71 Tryz.one_bytes a n c o hen w
  have hb':∀w:World,(Instr.slice 71 (.slice a n c) (some (.int .i64 (o:Int))) none none).run prog w=.ok (.slice A' (n - o) (c - o)) w:=λ w=>by rw [hb w,eA];rfl
  have HA:=Jh1 eA;clear eA hb;go_wp2
  go_ret
  refine .inl ⟨by rw [<-(Jz6 H)];exact hen,A,k,C,w2,rfl,HE.out.2,by rw [<-(Jz6 H),<-HA.out],?_⟩
  have:=HE.out.1;rwa [show Qcw xs ws=valL xs ws by unfold Qcw;rw [if_pos (by rw [<-(Jz6 H),H.out.1.1];exact hen)]] at this
 ·rw [decide_eq_false hen]
  go_wp2
  refine ⟨rfl,.inr ⟨by rw [<-(Jz6 H)];omega,rfl,HE.out.2⟩⟩
def plL (p:Pl):List Value:=[.int .u32 p.1.1,.int .u64 p.1.2,.int .i64 p.2.1,.int .i64 p.2.2]
def KIn (w:World) (a:Option Addr) (n:Nat) (ps:List Pl):Prop:=
 ps.length=n/\n<=maxLen/\(∀p∈ps,Qdu p)/\(n=0\/∃b off,a=some ⟨b,off,none⟩/\∀(i:Nat) (x:Pl),ps[i]?=some x->∀(j:Nat) (v:Value),(plL x)[j]?=some v->w.cell? ⟨b,off+i*4+j,none⟩=some v)
theorem KIn.below {w w':World} {a:Option Addr} {n:Nat} {ps:List Pl} (h:KIn w a n ps) (hb:Below w.heap.size w w'):KIn w' a n ps:=by
 obtain ⟨h1,h2,h3,h4⟩:=h;refine ⟨h1,h2,h3,?_⟩
 rcases h4 with h4 | ⟨b,off,ha,hc⟩
 ·exact .inl h4
 ·exact .inr ⟨b,off,ha,λ i x hx j v hv=>by rw [hb.cell (Qaa (hc i x hx j v hv))];exact hc i x hx j v hv⟩
theorem KIn.alloc {w:World} {a:Option Addr} {n:Nat} {ps:List Pl} (h:KIn w a n ps) (o:Obj):KIn (w.alloc o) a n ps:=h.below ((Below.refl _ _).alloc (Nat.le_refl _) o)
theorem KIn.drew {w:World} {a:Option Addr} {n:Nat} {ps:List Pl} (h:KIn w a n ps):KIn w.drew a n ps:=h
theorem Qfa (w:World):KIn w none 0 []:=⟨rfl,Nat.zero_le _,by simp,.inl rfl⟩
theorem KIn.cells {w w':World} {a:Option Addr} {n:Nat} {ps:List Pl} (h:KIn w a n ps) (hc:∀b o v,a.map (·.block)=some b->w.cell? ⟨b,o,none⟩=some v->w'.cell? ⟨b,o,none⟩=some v):KIn w' a n ps:=by
 obtain ⟨h1,h2,h3,h4⟩:=h;refine ⟨h1,h2,h3,?_⟩
 rcases h4 with h4 | ⟨b,off,ha,hh⟩
 ·exact .inl h4
 ·exact .inr ⟨b,off,ha,λ i x hx j v hv=>hc b _ v (by rw [ha];rfl) (hh i x hx j v hv)⟩
theorem KIn.out {O:Nat->Prop} {w w':World} {a:Option Addr} {n:Nat} {ps:List Pl} (h:KIn w a n ps) (ho:Out O w w') (hO:∀b,a.map (·.block)=some b->¬O b):KIn w' a n ps:=
 h.cells (λ b o v hb hv=>ho.cell hv (hO b hb))
theorem KIn.part {w:World} {b off n:Nat} {ps:List Pl} (h:KIn w (some ⟨b,off,none⟩) n ps) (i m:Nat) (hik:i+m<=n):KIn w (some ⟨b,off+i*4,none⟩) m ((ps.drop i).take m):=by
 obtain ⟨h1,h2,h3,h4⟩:=h;refine ⟨by rw [List.length_take,List.length_drop];omega,by omega,λ p hp=>h3 p (List.mem_of_mem_drop (List.mem_of_mem_take hp)),?_⟩
 by_cases h0:m=0
 ·exact .inl h0
 ·obtain ⟨b',off',e,hc⟩:=h4.resolve_left (by omega)
  cases e
  refine .inr ⟨_,_,rfl,λ k x hx j v hv=>?_⟩
  have hk:k<m:=by have:=(List.getElem?_eq_some_iff.1 hx).1;rw [List.length_take] at this;omega
  rw [List.getElem?_take_of_lt hk,List.getElem?_drop] at hx;have:=hc (i+k) x hx j v hv;rw [show off+(i+k)*4+j=off+i*4+k*4+j by omega] at this;exact this
theorem KIn.front {w:World} {a:Option Addr} {n:Nat} {ps:List Pl} (h:KIn w a n ps) (m:Nat) (hm:m<=n):KIn w a m (ps.take m):=by
 by_cases h0:m=0
 ·subst h0
  exact ⟨by simp,Nat.zero_le _,by simp,.inl rfl⟩
 ·obtain ⟨b,off,rfl,_⟩:=h.2.2.2.resolve_left (by omega)
  simpa using h.part 0 m (by omega)
def Qfo (a:Option Addr) (c i:Nat):Option Addr:=if c=i then a else a.map (·.add (i*4))
theorem KIn.back {w:World} {a:Option Addr} {n c:Nat} {ps:List Pl} (h:KIn w a n ps) (i:Nat) (hi:i<=n) (hc:n<=c):KIn w (Qfo a c i) (n - i) (ps.drop i):=by
 by_cases h0:n - i=0
 ·exact ⟨by rw [List.length_drop,h.1],by omega,λ p hp=>h.2.2.1 p (List.mem_of_mem_drop hp),.inl h0⟩
 ·obtain ⟨b,off,rfl,_⟩:=h.2.2.2.resolve_left (by omega)
  unfold Qfo;rw [if_neg (by have:=h.2.1;omega)];have:=h.part i (n - i) (by omega);rw [List.take_of_length_le (by rw [List.length_drop,h.1];exact Nat.le_refl _)] at this;simpa [Addr.add_mid] using this
theorem Qut {a:Option Addr} {c i:Nat} (h:Qfo a c i=none):a=none:=by
 unfold Qfo at h;split at h
 ·exact h
 ·cases a with
  | none=>rfl
  | some x=>cases h
theorem Tryz.four_places:∀w:World,(sizeOf (prog.elem 77)).run prog w=.ok 4 w:=λ _=>by kernel_rfl
theorem Qm3 (a:Option Addr) (n c k:Nat) (hk:k<=c) (w:World) :
  (Instr.slice 77 (.slice a n c) none (some (.int .i64 (k:Int))) none).run prog w=.ok (.slice a k c) w:=by
 rw [run_slice_h (P:=prog) w 77 a n c Tryz.underlying77 .i64 k (by omega) (by omega),Tryz.four_places w];simp only [Result.andThen,Int.toNat_natCast]
 unfold sliced;cases a with
 | none=>simp
 | some x=>simp [Addr.add]
theorem Qpi (a:Option Addr) (n c k:Nat) (hk:k<=n) (w:World) :
  (Instr.slice 77 (.slice a n c) (some (.int .i64 (k:Int))) none none).run prog w=.ok (.slice (Qfo a c k) (n - k) (c - k)) w:=by
 rw [run_slice_l (P:=prog) w 77 a n c Tryz.underlying77 .i64 k (by omega) (by omega),Tryz.four_places w];simp only [Result.andThen,Int.toNat_natCast]
 rfl
def plC (xs:List Pl):List Value:=xs.flatMap plL
theorem Qch (xs:List Pl):(plC xs).length=xs.length*4:=by
 unfold plC;induction xs with
 | nil=>rfl
 | cons x r ih=>rw [List.flatMap_cons,List.length_append,ih,List.length_cons];simp [plL];omega
theorem Qq6 (xs:List Pl) (x:Pl):plC xs ++ plL x=plC (xs ++ [x]):=by simp [plC]
theorem Qkp:∀(xs:List Pl) (i:Nat) (x:Pl) (j:Nat),xs[i]?=some x->j<4->(plC xs)[i*4+j]?=(plL x)[j]?
 | [],i,x,j,h,_=>by simp at h
 | y :: r,0,x,j,h,hj=>by
  have:y=x:=by simpa using h
  subst this;rw [plC,List.flatMap_cons,Nat.zero_mul,Nat.zero_add,List.getElem?_append_left (by simp [plL];omega)]
 | y :: r,i+1,x,j,h,hj=>by
  have h':r[i]?=some x:=by simpa using h
  rw [plC,List.flatMap_cons,List.getElem?_append_right (by simp [plL];omega)];have:(i+1)*4+j - (plL y).length=i*4+j:=by simp [plL];omega
  rw [this];exact Qkp r i x j h' hj
theorem Qoj (x:Pl):∀v∈plL x,v.oneCell'=true:=by
 intro v hv;simp only [plL,List.mem_cons,List.not_mem_nil,or_false] at hv;rcases hv with rfl | rfl | rfl | rfl <;> rfl
theorem Qj3 {W:World} {base:Nat} {a:Option Addr} {n c:Nat} {xs:List Pl} (h:W.ownsRow base 137 4 (.slice a n c) n (plC xs)) (hm:n<=maxLen) (hf:∀x∈xs,Qdu x):KIn W a n xs:=by
 have hl:xs.length=n:=by have:=h.1;rw [Qch] at this;omega
 refine ⟨hl,hm,hf,?_⟩
 rcases h.2 with ⟨hv,hn⟩ | ⟨g,cap,cur,hv,hb,hg,hc,hcm,hsz,htake⟩
 ·exact .inl hn
 ·cases hv
  refine .inr ⟨g,0,rfl,λ i x hx j v hv=>?_⟩
  have hj:j<4:=(List.getElem?_eq_some_iff.1 hv).1;have hcl:=h.cells (g:=g) rfl (i*4+j) v (by rw [Qkp xs i x j hx hj];exact hv);rw [Addr.add_mid] at hcl;rw [Nat.add_assoc];exact hcl
theorem Tryz.zero_place:(prog.info? 137).map (λ i=>(i.zero,i.size,i.bytes))=some (some (.agg #[.int .u32 0,.int .u64 0,.int .i64 0,.int .i64 0]),4,32):=by kernel_rfl
theorem Qm6 {W:World} {base:Nat} {a:Option Addr} {n c:Nat} {xs:List Pl} (h:W.ownsRow base 137 4 (.slice a n c) n (plC xs)) (x:Pl) (hle:n+1<=10000000) (hb:base<=W.heap.size) :
  ∃a' c' w',(Builtin.append_ #[77,77] 77 #[.slice a n c,.slice (some ⟨W.heap.size,0,none⟩) 1 1]).run prog (W.alloc (.cells #[.int .u32 x.1.1,.int .u64 x.1.2,.int .i64 x.2.1,.int .i64 x.2.2] 137))=.ok (.slice a' (n+1) c') w'/\w'.ownsRow base 137 4 (.slice a' (n+1) c') (n+1) (plC (xs ++ [x]))/\Below base W w'/\(W.alloc (.cells #[.int .u32 x.1.1,.int .u64 x.1.2,.int .i64 x.2.1,.int .i64 x.2.2] 137)).grownBy w' (Value.ownBlock (.slice a n c)):=by
 obtain ⟨i0,hi,hz0,hz1,hz2⟩:=info_parts Tryz.zero_place;obtain ⟨v',w',hrun,hown',hgrow,_⟩:=run_append_own (P:=prog) (W.alloc (.cells (plL x).toArray 137)) base 77 77 137 i0 _ 4 32 Tryz.underlying77 hi hz0 hz1 hz2 rfl (by decide) _ n (plC xs) (h.alloc _) ⟨W.heap.size,0,none⟩ 1 1 (plL x) rfl (by
  intro j u hj;rw [Addr.add_mid,Nat.zero_add,World.cell?_alloc_mark];simpa using hj) (Qoj x) (by unfold maxLen;omega) (by omega) (by simp;omega)
 rw [Qq6] at hown';obtain ⟨a',c',rfl⟩:∃a' c',v'=.slice a' (n+1) c':=by
  rcases hown'.2 with ⟨hv,hn⟩ | ⟨g,cap,cur,hv,_⟩
  ·omega
  ·exact ⟨_,_,hv⟩
 exact ⟨a',c',w',hrun,hown',((Below.refl base W).alloc hb _).grown hgrow (by simp;omega) (λ k hk=>(h.lt k hk).1),hgrow⟩
theorem Qhb {b:Int} (h:¬b∈PowR):Qdx b=0:=by unfold Qdx;rw [if_neg h]
theorem Qlm (w:World):Calls prog 145 #[] w λ e w'=>e=.returned (.slice (some ⟨w.heap.size,0,none⟩) 6 6)/\w'=w.alloc (.cells #[.int .i64 4,.int .i64 4,.int .i64 4,.int .i64 4,.int .i64 8,.int .i64 2] 3):=by
 go_enter func145,ntmps145
 go_wp2
 go_ret
 exact ⟨rfl,rfl⟩
theorem Qhk (w:World):Calls prog 213 #[] w λ e w'=>e=.returned (.slice (some ⟨w.heap.size,0,none⟩) 4 4)/\w'=w.alloc (.cells #[.int .i64 4,.int .i64 8,.int .i64 2,.int .i64 2] 3):=by
 go_enter func213,ntmps213
 go_wp2
 go_ret
 exact ⟨rfl,rfl⟩
theorem Qjt {w:World} {g:Nat} (h:w.heap.size=g):NIn .i64 (w.alloc (.cells #[.int .i64 4,.int .i64 4,.int .i64 4,.int .i64 4,.int .i64 8,.int .i64 2] 3)) (some ⟨g,0,none⟩) 6 hkW:=Qet 3 h rfl rfl rfl (by omega)
theorem Qnt {w:World} {g:Nat} (h:w.heap.size=g):NIn .i64 (w.alloc (.cells #[.int .i64 4,.int .i64 8,.int .i64 2,.int .i64 2] 3)) (some ⟨g,0,none⟩) 4 plW:=Qet 3 h rfl rfl rfl (by omega)
theorem Qye {i m s n:Int} (hi:Qai i) (hm:Qai m) (hs:Qai s) (hn:Qai n):∀z∈hkV i m s n,Qai z:=by
 intro z hz;simp only [hkV,List.mem_cons,List.not_mem_nil,or_false] at hz
 rcases hz with rfl | rfl | rfl | rfl | rfl | rfl
 ·unfold Qai;omega
 ·unfold Qai;omega
 ·exact hi
 ·exact hm
 ·exact hs
 ·exact hn
theorem Q09 {i m s n:Int} (hi:Qai i) (hm:Qai m) (hs:Qai s) (hn:Qai n):∀(X:World) (g:Nat),X.heap.size=g->NIn .u64 (X.alloc (.cells #[.int .u64 1129009236,.int .u64 0,.int .u64 i,.int .u64 m,.int .u64 s,.int .u64 n] 45)) (some ⟨g,0,none⟩) 6 (hkV i m s n):=
 λ X g e=>Qdq 45 e rfl rfl (Qye hi hm hs hn) (by omega)
theorem Qyw {x:Pl} (h:Fit2 x):∀z∈plV x,Qai z:=by
 obtain ⟨⟨h1,h2⟩,h3,h4⟩:=h;intro z hz;unfold Qas at h1;unfold Qb4 at h3 h4;simp only [plV,List.mem_cons,List.not_mem_nil,or_false] at hz
 rcases hz with rfl | rfl | rfl | rfl
 ·unfold Qai;omega
 ·exact h2
 ·unfold Qai;omega
 ·unfold Qai;omega
theorem Q0r {x:Pl} (h:Fit2 x):∀(X:World) (g:Nat),X.heap.size=g->NIn .u64 (X.alloc (.cells #[.int .u64 x.1.1,.int .u64 x.1.2,.int .u64 x.2.1,.int .u64 x.2.2] 45)) (some ⟨g,0,none⟩) 4 (plV x):=
 λ X g e=>Qdq 45 e rfl rfl (Qyw h) (by omega)
set_option maxHeartbeats 1000000 in
theorem Qr2 (b:Int) (w:World):Calls prog 83 #[.int .i64 b] w λ e w'=>e=.returned (.int .i64 (Qdx b))/\w'=w:=by
 obtain ⟨R,hR⟩:∃R,R=Qdx b:=⟨_,rfl⟩
 rw [<-hR];by_cases h1:b<64
 ·have hf:R=0:=by rw [hR];exact Qhb (λ h=>by have:=Qar h;omega)
  clear hR;subst hf;go_enter func83,ntmps83
  go_wp2
  go_ret
  exact ⟨rfl,rfl⟩
 ·have h1':64<=b:=by omega
  by_cases h2:4096<b
  ·have hf:R=0:=by rw [hR];exact Qhb (λ h=>by have:=Qar h;omega)
   clear hR;subst hf;clear h1;go_enter func83,ntmps83
   go_wp2
   go_ret
   exact ⟨rfl,rfl⟩
  ·have h2':b<=4096:=by omega
   clear h1 h2;have hw:IntKind.i64.wrap (b - 1)=b - 1:=by rw [IntKind.wrap_i64];omega
   have hw2:IntKind.i64.wrap (b - 26)=b - 26:=by rw [IntKind.wrap_i64];omega
   have hw3:IntKind.i64.wrap (b - 26 - 1)=b - 26 - 1:=by rw [IntKind.wrap_i64];omega
   by_cases hp:b∈PowR
   ·have hand:=(Ql9 h1' h2').2 hp
    have hf:R=(b - 26 - 1) / 16:=by rw [hR];unfold Qdx;rw [if_pos hp];congr 1;omega
    clear hR hp;subst hf;go_enter func83,ntmps83
    go_wp2
    go_ret
    exact ⟨rfl,rfl⟩
   ·have hand:(bits BinOp.and IntKind.i64 b (b - 1) != 0)=true:=by simp;exact λ h=>hp ((Ql9 h1' h2').1 h)
    have hf:R=0:=by rw [hR];exact Qhb hp
    clear hR hp;subst hf;go_enter func83,ntmps83
    go_wp2
    go_ret
    exact ⟨rfl,rfl⟩
set_option maxHeartbeats 1000000 in
theorem Qu4 (s:Sh) (z b:Int) (w:World):Calls prog 141 #[.agg (shL s).toArray,.agg #[.int .i64 z,.int .i64 b]] w λ e w'=>e=.returned (.bool (decide (2<=z/\z<s.z/\0<=b/\b<s.zb)))/\Below w.heap.size w w':=by
 obtain ⟨sz,szb,sb,sr⟩:=s;dsimp only
 obtain ⟨B,hB⟩:∃B,B=decide (2<=z/\z<sz/\0<=b/\b<szb):=⟨_,rfl⟩
 rw [<-hB];have bw:Hid (∀o o',Below w.heap.size w ((w.alloc o).alloc o')):=λ o o'=>((Below.refl _ _).alloc (Nat.le_refl _) o).alloc (by simp) o'
 simp only [shL]
 by_cases h1:2<=z
 ·by_cases h2:z<sz
  ·by_cases h3:0<=b
   ·have hf:B=decide (b<szb):=by rw [hB];simp [h1,h2,h3]
    clear hB;subst hf;go_enter func141,ntmps141
    go_wp2
    go_ret
    exact ⟨rfl,bw.out _ _⟩
   ·have hf:B=false:=by rw [hB];simp [h3]
    clear hB;subst hf;have h3':b<0:=by omega
    clear h3;go_enter func141,ntmps141
    go_wp2
    go_ret
    exact ⟨rfl,bw.out _ _⟩
  ·have hf:B=false:=by rw [hB];simp [h2]
   clear hB;subst hf;have h2':sz<=z:=by omega
   clear h2;go_enter func141,ntmps141
   go_wp2
   go_ret
   exact ⟨rfl,bw.out _ _⟩
 ·have hf:B=false:=by rw [hB];simp [h1]
  clear hB;subst hf;have h1':z<2:=by omega
  clear h1;go_enter func141,ntmps141
  go_wp2
  go_ret
  exact ⟨rfl,bw.out _ _⟩
set_option maxHeartbeats 1000000 in
theorem Qt3 (p q:Pl) (w:World):Calls prog 142 #[.agg (plL p).toArray,.agg (plL q).toArray] w λ e w'=>e=.returned (.bool (ltP p.1 q.1))/\Below w.heap.size w w':=by
 obtain ⟨⟨t,b⟩,z,y⟩:=p;obtain ⟨⟨t',b'⟩,z',y'⟩:=q;dsimp only
 obtain ⟨B,hB⟩:∃B,B=ltP (t,b) (t',b'):=⟨_,rfl⟩
 rw [<-hB];have bw:Hid (∀o o',Below w.heap.size w ((w.alloc o).alloc o')):=λ o o'=>((Below.refl _ _).alloc (Nat.le_refl _) o).alloc (by simp) o'
 simp only [plL]
 by_cases h1:t=t'
 ·subst h1
  have hf:B=decide (b<b'):=by rw [hB];simp [ltP]
  clear hB;subst hf;go_enter func142,ntmps142
  go_wp2
  go_ret
  exact ⟨rfl,bw.out _ _⟩
 ·have hf:B=decide (t<t'):=by rw [hB];simp [ltP,h1]
  clear hB;subst hf;have h1':(t != t')=true:=by simp [h1]
  go_enter func142,ntmps142
  go_wp2
  go_ret
  exact ⟨rfl,bw.out _ _⟩
theorem Tryz.info_place:(prog.info? 137).map (·.size)=some 4:=by kernel_rfl
def pl0:Pl:=((0,0),(0,0))
set_option maxHeartbeats 1000000 in
theorem Qts (b c:Nat) (x:Pl) (w:World) (c0:w.cell? ⟨b,0,none⟩=some (.int .u64 x.1.1)) (c1:w.cell? ⟨b,1,none⟩=some (.int .u64 x.1.2)) (c2:w.cell? ⟨b,2,none⟩=some (.int .u64 x.2.1)) (c3:w.cell? ⟨b,3,none⟩=some (.int .u64 x.2.2)) (hr:Fit2 x) :
  Calls prog 239 #[.slice (some ⟨b,0,none⟩) 4 c] w λ e w'=>e=.returned (.agg #[.int .u32 x.1.1,.int .u64 x.1.2,.int .i64 x.2.1,.int .i64 x.2.2])/\Below w.heap.size w w':=by
 obtain ⟨q,hq⟩:∃q,q=w.heap.size:=⟨_,rfl⟩
 obtain ⟨⟨t,bb⟩,z,y⟩:=x;obtain ⟨⟨⟨f0,f1⟩,_⟩,⟨k0,k1⟩,⟨s0,s1⟩⟩:=hr;dsimp only at c0 c1 c2 c3 f0 f1 k0 k1 s0 s1 ⊢
 have u0:IntKind.u32.wrap t=t:=by rw [IntKind.wrap_u32];omega
 have u2:IntKind.i64.wrap z=z:=by rw [IntKind.wrap_i64];omega
 have u3:IntKind.i64.wrap y=y:=by rw [IntKind.wrap_i64];omega
 clear f0 f1 k0 k1 s0 s1;have b0:Blk (w.alloc (.cells #[.int .u32 0,.int .u64 0,.int .i64 0,.int .i64 0] 137)) q (plL pl0) 137:=Blk.new' hq.symm rfl;have bw:Below q w (w.alloc (.cells #[.int .u32 0,.int .u64 0,.int .i64 0,.int .i64 0] 137)):=(Below.refl _ _).alloc (by omega) _;have HQ:=Jh1 hq;rw [<-hq];go_enter func239,ntmps239
 go_upto_region 1 with fail
 rw [<-hq];have bne:b≠q:=by have:=Qaa c0;have:=HQ.out;simp only at *;omega
 have c0':=(bw.cell (by rw [hq];exact Qaa c0)).trans c0;have c1':=(bw.cell (by rw [hq];exact Qaa c1)).trans c1;have c2':=(bw.cell (by rw [hq];exact Qaa c2)).trans c2;have c3':=(bw.cell (by rw [hq];exact Qaa c3)).trans c3;clear c0 c1 c2 c3 hq;generalize hW:World.alloc w _=W at c0' c1' c2' c3' b0 bw ⊢;clear hW;have e0:W.cell? ⟨q,0,none⟩=some (.int .u32 0):=b0.cell 0;have e1:W.cell? ⟨q,1,none⟩=some (.int .u64 0):=b0.cell 1;have e2:W.cell? ⟨q,2,none⟩=some (.int .i64 0):=b0.cell 2;have e3:W.cell? ⟨q,3,none⟩=some (.int .i64 0):=b0.cell 3;have z0:=b0.frozen 0;have z1:=b0.frozen 1;have z2:=b0.frozen 2;have z3:=b0.frozen 3;have qne:q≠b:=λ e=>bne e.symm
 have HB:=Jh2 b0 bw;clear b0 bw;go_wp2
 go_region
 go_wp2
 have b3:Blk ((((W.setCell ⟨q,0,none⟩ (.int .u32 t)).setCell ⟨q,1,none⟩ (.int .u64 bb)).setCell ⟨q,2,none⟩ (.int .i64 z)).setCell ⟨q,3,none⟩ (.int .i64 y)).drew q (plL ((t,bb),(z,y))) 137:=(HB.out.1.setAll (vs:=plL ((t,bb),(z,y))) (by rfl)).drew;exact bodyPost_ret (v:=.agg (plL ((t,bb),(z,y))).toArray) (Qap (p:=2) (ty:=137) rfl _ _ q _ _ _ rfl b3 Tryz.underlying137 rfl Tryz.info_place) rfl ⟨rfl,(((((HB.out.2.setCell (Nat.le_refl _) _).setCell (Nat.le_refl _) _).setCell (Nat.le_refl _) _).setCell (Nat.le_refl _) _)).drew⟩
end Go.Proofs.YtcdnjeiamihhbaaGreat
