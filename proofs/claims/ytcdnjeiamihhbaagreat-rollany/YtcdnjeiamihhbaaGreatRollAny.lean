/- Scan and Recover of a device that holds anything are what the chapter says, whatever the shape and the zones. -/
import Derived.Test.YtcdnjeiamihhbaaGreatRows
import Derived.BigQuiet
import Derived.Lib.QuietBelow
import Derived.Deep.RegionHeld3
import Derived.WalkKit
import Derived.ProofKit
import Derived.OpenShut
import Derived.ShutString
import Derived.ChangeOld
import Derived.Below
import Derived.Test.YtcdnjeiamihhbaaGreatP31
namespace Go.Proofs.YtcdnjeiamihhbaaGreat.rollAny
open Go.ChangeShapes Go.WideShapes Go.ChangeAt Go.RowKit
open Go.ChangeMaps (open_string shut_string)
set_option linter.unusedVariables false
theorem own:ownKnob Tryz.prog.godebug=none:=by kernel_rfl
theorem Quh:laidOutB Tryz.prog=true:=by kernel_rfl
set_option maxRecDepth 20000 in
set_option maxHeartbeats 8000000 in
theorem walk (s0:Sh) (a1:Option Addr) (n1 c1:Nat) (x1:List Zn) (w:World) (w0:ShF s0) (w1:ZsRaw w a1 n1 x1/\ZnF x1) :
  Calls Tryz.prog 3 #[.agg (shL s0).toArray,.slice a1 n1 c1] w λ e w'=>e=.returned (.bool true)/\Below w.heap.size w w':=by
 obtain ⟨hzr,hzf⟩:=w1;have hb0:Below w.heap.size w (w.alloc (.cells #[.int .i64 s0.z,.int .i64 s0.zb,.int .i64 s0.b,.int .i64 s0.r] 23)):=(Below.refl _ _).alloc (Nat.le_refl _) _;have bs0:Blk (w.alloc (.cells #[.int .i64 s0.z,.int .i64 s0.zb,.int .i64 s0.b,.int .i64 s0.r] 23)) w.heap.size (shC s0) 23:=Blk.new' rfl rfl;obtain ⟨sm,hsm⟩:∃b,b=decide (Qe3 s0):=⟨_,rfl⟩
 have HSm:Hid (Calls Tryz.prog 9 #[.agg #[.int .i64 s0.z,.int .i64 s0.zb,.int .i64 s0.b,.int .i64 s0.r]] (w.alloc (.cells #[.int .i64 s0.z,.int .i64 s0.zb,.int .i64 s0.b,.int .i64 s0.r] 23)) λ e w'=>e=.returned (.bool sm)/\Below w.heap.size w w'/\Blk w' w.heap.size (shC s0) 23):=by
  rw [hsm];refine (Qzv s0 _).mono ?_
  rintro e w' ⟨rfl,hb⟩;exact ⟨rfl,hb0.trans (hb.mono hb0.size),bs0.below hb bs0.lt⟩
 have HZh:Hid (∀V,Below w.heap.size w V->Calls Tryz.prog 10 #[.slice a1 n1 c1,.int .i64 60] V λ e w'=>∃y:Bool,e=.returned (.bool y)/\w'=V/\(y=false->Qmp x1)):=λ V hb=>Qpa a1 n1 c1 x1 V (hzr.below hb)
 have HKn:Hid (∀V,Below w.heap.size w V->Blk V w.heap.size (shC s0) 23->Calls Tryz.prog 11 #[] V λ e w'=>e=.returned (.bool true)/\Below w.heap.size w w'/\Blk w' w.heap.size (shC s0) 23):=λ V hb hs=>by
  refine (Qsf V).mono ?_
  rintro e w' ⟨rfl,hb'⟩;exact ⟨rfl,hb.trans (hb'.mono hb.size),hs.below hb' hs.lt⟩
 have HH:=Jh3 hsm w0 hzr;clear hsm hb0 bs0 w0 hzr hzf;unfold shL;cases sm with
 | false=>
  go_enter Tryz.func3,Tryz.ntmps3
  go_wp2_with (first
   | (go_at_call 9;refine HSm.out.mono ?_;rintro e W1 ⟨rfl,hb1,bs1⟩)
   | (go_at_call 11;refine (HKn.out _ hb1 bs1).mono ?_;rintro e W2 ⟨rfl,hb2,_⟩))
  go_ret
  exact ⟨rfl,hb2⟩
 | true=>
  have HS:Hid (Qe3 s0):=(show Qe3 s0 from of_decide_eq_true HH.out.1.symm)
  go_enter Tryz.func3,Tryz.ntmps3
  go_wp2_with (first
   | (go_at_call 9;refine HSm.out.mono ?_;rintro e W1 ⟨rfl,hb1,bs1⟩))
  refine (HZh.out _ hb1).mono ?_
  rintro e W2 ⟨y,rfl,rfl,hy⟩;cases y with
  | true=>
   clear hy;go_wp2_with (go_at_call 11;refine (HKn.out _ hb1 bs1).mono ?_;rintro e W3 ⟨rfl,hb3,_⟩)
   go_ret
   exact ⟨rfl,hb3⟩
  | false=>
   have HLz:Hid (Qmp x1):=hy rfl;have HOp:Hid (∀V,Below w.heap.size w V->Calls Tryz.prog 12 #[.agg #[.int .i64 s0.z,.int .i64 s0.zb,.int .i64 s0.b,.int .i64 s0.r],.slice a1 n1 c1] V (Qes 98 V s0 x1)):=λ V hb=>Qyl s0 a1 n1 c1 x1 V (by have:=(J2 HH).1.1;omega) (((Jz2 HH).light HLz.out).below hb)
   have HRo:Hid (∀V,Below w.heap.size w V->Calls Tryz.prog 13 #[.agg #[.int .i64 s0.z,.int .i64 s0.zb,.int .i64 s0.b,.int .i64 s0.r],.slice a1 n1 c1] V (Qes 101 V s0 x1)):=λ V hb=>Qzm s0 a1 n1 c1 x1 V (by have:=(J2 HH).1.1;omega) (((Jz2 HH).light HLz.out).below hb)
   clear hy;go_wp2_with (first
    | (go_at_call 11;refine (HKn.out _ hb1 bs1).mono ?_;rintro e W3 ⟨rfl,hb3,bs3⟩;have sh0:W3.cell? ⟨w.heap.size,0,none⟩=some (.int .i64 s0.z):=bs3.cell 0;have sh1:W3.cell? ⟨w.heap.size,1,none⟩=some (.int .i64 s0.zb):=bs3.cell 1;have sh2:W3.cell? ⟨w.heap.size,2,none⟩=some (.int .i64 s0.b):=bs3.cell 2;have sh3:W3.cell? ⟨w.heap.size,3,none⟩=some (.int .i64 s0.r):=bs3.cell 3))
   refine (HOp.out _ hb3).mono ?_
   rintro e W4 ⟨hb4,hd⟩;have hb4w:=hb3.trans (hb4.mono hb3.size);have bs4:=bs3.below hb4 bs3.lt;have th0:W4.cell? ⟨w.heap.size,0,none⟩=some (.int .i64 s0.z):=bs4.cell 0;have th1:W4.cell? ⟨w.heap.size,1,none⟩=some (.int .i64 s0.zb):=bs4.cell 1;have th2:W4.cell? ⟨w.heap.size,2,none⟩=some (.int .i64 s0.b):=bs4.cell 2;have th3:W4.cell? ⟨w.heap.size,3,none⟩=some (.int .i64 s0.r):=bs4.cell 3;rcases hd with ⟨hn,rfl⟩ | ⟨hwf,p,rfl,hd⟩
   ·go_wp2_with fail
    refine (HRo.out _ hb4w).mono ?_
    rintro e W5 ⟨hb5,hr⟩;rcases hr with ⟨_,rfl⟩ | ⟨hwf,_⟩
    ·have hb5w:=hb4w.trans (hb5.mono hb4w.size)
     go_wp2_with fail
     go_ret
     exact ⟨rfl,hb5w⟩
    ·exact (hn hwf).elim
   ·go_wp2_with fail
    refine (HRo.out _ hb4w).mono ?_
    rintro e W5 ⟨hb5,hr⟩;rcases hr with ⟨hn,_⟩ | ⟨_,p',rfl,hr⟩
    ·exact (hn hwf).elim
    ·have hb5w:=hb4w.trans (hb5.mono hb4w.size)
     have hs3:=hb3.size;have hs4:=hb4.size;have two:Two2 w.heap.size w (λ x=>W3.heap.size<=x/\x<W4.heap.size) (λ x=>W4.heap.size<=x/\x<W5.heap.size) p p' s0 x1 W5:=⟨(hd.there).later hb5,hr.there,hwf,HS.out,λ x hx=>⟨by omega,by have:=hb5.size;omega⟩,λ x hx=>⟨by omega,by omega⟩,λ x hx hx2=>by omega,hb5w⟩
     have hRc:=Qon two;clear two hd hr;go_wp2_with fail
     refine hRc.mono ?_
     rintro e W6 ⟨rfl,hb6⟩;go_wp2_with fail
     go_ret
     exact ⟨rfl,hb6⟩
set_option maxRecDepth 100000 in
theorem Q4d (os:Os) (started:os.Started) (H:Type) (enc:TypeId × Value->H) :
  ReturnsInHanded {} Tryz.checked os 3 .any (Rows.rollAnySpec.pre6 enc Tryz.prog Tryz.f3 Rows.rollAnyRow.domain false) (Rows.rollAnySpec.post enc Tryz.prog Tryz.f3 false true false false):=by
 refine returnsInHanded_of_change (C:=Tryz.checked) own started (by kernel_rfl) Tryz.func3
  (ChangeSpec.witness6 (enc:=enc) (C:=Tryz.checked) false ⟨#[],#[.agg #[.int .i64 0,.int .i64 0,.int .i64 0,.int .i64 0],.slice none 0 0],[]⟩ 8 (by kernel_rfl) (by kernel_rfl) (by kernel_rfl) (by kernel_rfl)) ?_
 intro W base args ds gs Q39 hval0 hW hcnd _;have hval:∀(j:Nat) t v,Tryz.f3.params[j]?=some t->args[j]?=some v->Value.okWide Tryz.prog W .any base t v:=hval0;have hW':=hW;obtain ⟨p,q,hA0,hV,rfl,hfz,hnd⟩:=hW;have hA:DataW.TrodAll enc Tryz.prog W 0 (λ _=>true) true Tryz.f3.params.toList args.toList ds p:=hA0;rw [Tryz.params3] at hA hval;obtain ⟨v0,vs0,d0,ds0,p0,q0,hargs,rfl,rfl,h0,r0⟩:=trodAll_cons hA;obtain ⟨v1,vs1,d1,ds1,p1,q1,rfl,rfl,rfl,h1,r1⟩:=trodAll_cons r0;obtain ⟨rfl,rfl,rfl⟩:=trodAll_nil r1;obtain rfl:args=#[v0,v1]:=by cases args;simp_all
 obtain ⟨rfl,rfl⟩:=trodVars_none hV;have k0:=h0;have lt0:∀x∈p0,x.block<W.heap.size:=by obtain ⟨m,hm⟩:=k0;exact DataW.trod_lt m _ _ _ hm
 obtain ⟨s0,rfl,w0⟩:=Qsw (hval 0 23 v0 rfl rfl) h0;obtain ⟨a1,n1,c1,rfl⟩:=okWide_slice Tryz.underlying24 (hval 1 24 v1 rfl rfl);have k1:=h1;have lt1:∀x∈p1,x.block<W.heap.size:=by obtain ⟨m,hm⟩:=k1;exact DataW.trod_lt m _ _ _ hm
 obtain ⟨x1,w1⟩:=Qso h1;clear hA0 hval0;refine (walk s0 a1 n1 c1 x1 W w0 w1).mono λ e W' ⟨he,bel⟩=>?_
 subst he;exact ⟨_,rfl,_,_,_,[],_,[],hW',trodAll_mk1 (shut_bool Tryz.underlying4 _),(trodAll_cons_mk (Below.trod Quh (by kernel_rfl) (of_decide_eq_true (by kernel_rfl)) k0 bel lt0) (trodAll_cons_mk (Below.trod Quh (by kernel_rfl) (of_decide_eq_true (by kernel_rfl)) k1 bel lt1) trodAll_mk0)),rfl,bel.frame _,λ h=>by cases h⟩
theorem over:Rows.rollAnyRow.holds Tryz.pinned (OpenSpec.ofChange Rows.rollAnySpec):=
 OpenClaim.holds_of_wide 3 Tryz.f3 rfl rfl rfl rfl rfl rfl rfl ⟨rfl,rfl,rfl,rfl,rfl⟩ rfl rfl rfl rfl rfl (by kernel_rfl) Tryz.func3 (by kernel_rfl)
  (of_decide_eq_true (by kernel_rfl)) (by unfold Func.isWrapper;first | (rw [if_pos (by decide +kernel)];kernel_rfl) | (rw [if_neg (by decide +kernel)];exact ⟨rfl,rfl⟩))
  (λ os started H enc _=>Q4d os started H enc)
end Go.Proofs.YtcdnjeiamihhbaaGreat.rollAny
namespace Go.Proofs.YtcdnjeiamihhbaaGreat
theorem rollAny_holds:Rows.RollAnySaid:=rollAny.over
#print axioms rollAny_holds
end Go.Proofs.YtcdnjeiamihhbaaGreat
