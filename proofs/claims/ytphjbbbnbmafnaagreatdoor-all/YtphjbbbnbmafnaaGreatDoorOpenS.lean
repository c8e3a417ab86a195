/- Parts: Stp Play Stq OpenS. -/
import Derived.Test.YtphjbbbnbmafnaaGreatDoorPCt
import Derived.Test.YtphjbbbnbmafnaaGreatDoorPHn
import Derived.Test.YtphjbbbnbmafnaaGreatDoorRefOp
import Derived.Test.YtphjbbbnbmafnaaGreatDoorRefPages
import Derived.Test.YtphjbbbnbmafnaaGreatDoorPEdg
import Derived.Test.YtphjbbbnbmafnaaGreatDoorIns
import Derived.Test.YtphjbbbnbmafnaaGreatDoorPIo
import Derived.Test.YtphjbbbnbmafnaaGreatDoorRefOut
import Derived.Test.YtphjbbbnbmafnaaGreatDoorOwnM
import Derived.Lib.SmallJoins
set_option maxHeartbeats 16000000
set_option maxRecDepth 100000
namespace Go.Proofs.YtphjbbbnbmafnaaGreatDoor.G
open Go.RowKit
variable {B N n p s:Nat} {v1 v2:Value} {es is:List (Value×Int)} {w w':World} {L:List E3}
attribute [local go_sem ↓] Go.wp_at_zero Go.wp_at_succ
theorem eqZ'(a b c:Int)(w:World):(Op.equalIn 10000 23 (.agg #[.int .i64 a,.int .i64 b,.int .i64 c]) (.agg #[.int .i64 a,.int .i64 b,.int .i64 c])).run Tryz.prog w = .ok true w:=by
 have u3:=Tryz.underlying3;have hS:Tryz.prog.underlying 23=some (.struct (Tryz.prog.fieldsOf 23)):=by kernel_rfl
 rw[show(10000:Nat)=9999+1 from rfl,run_equalIn_agg w 9999 23 _ _ hS (by kernel_rfl)];simp only[Program.fieldsOf,Tryz.underlying23];go_simp
theorem ZZ:Tryz.prog.eqGuardType Tryz.prog.depth 23=false:=by kernel_rfl
def bZ(B N:Nat)(v2:Value)(es is:List (Value×Int))(w:World)(e:Ending)(w':World):Prop :=
 e = .returned (.bool true)/\(∃ N' aL aE,Bk w' B N' aL v2 aE is/\N'<=N+1/\aE.length<=es.length+4)/\Below B w w'
theorem gV(hb:Bk w B N v1 v2 es is)(h:Below w.heap.size w w'):bZ B N v2 es is w (.returned (.bool true)) w' :=
 ⟨rfl,⟨N,v1,es,hb.below h,by omega,by omega⟩,h.mono (aH2 hb.lt)⟩
theorem tX(hb:Bk w B N v1 v2 es is)(h f l t x1 x2 y1 y2 z1 z2:Int)(q:ByteArray)(k:Int)(hk:¬(1<=k/\k<=7)):
 Calls Tryz.prog 8 #[.pointer (some ⟨B,0,none⟩),.pointer (some ⟨p,0,none⟩),.agg #[.int .i64 k,.int .i64 h,.int .i64 f,.int .i64 l,.int .i64 t,.int .i64 x1,.int .i64 x2,.int .i64 y1,.int .i64 y2,.int .i64 z1,.int .i64 z2,.string q]] w (bZ B N v2 es is w):=by
 have e1:¬ k=1:=by omega
 have e2:¬ k=2:=by omega
 have e3:¬ k=3:=by omega
 have e4:¬ k=4:=by omega
 have e5:¬ k=5:=by omega
 have e6:¬ k=6:=by omega
 have e7:¬ k=7:=by omega
 obtain⟨W0,a3⟩:∃ W0,W0=w.alloc (.cells #[.int .i64 k,.int .i64 h,.int .i64 f,.int .i64 l,.int .i64 t,.int .i64 x1,.int .i64 x2,.int .i64 y1,.int .i64 y2,.int .i64 z1,.int .i64 z2,.string q] 42):=⟨_,rfl⟩;have hJ:Below w.heap.size w W0:=by rw[a3];exact aA _ _
 have aG:Hid _:=hb;have HJ:Hid _:=hJ;clear hb hJ hk;go_enter Tryz.func8,Tryz.ntmps8
 go_wp2;rw[<-a3];go_ret;exact gV aG.out HJ.out
theorem tN(hb:Bk w B N v1 v2 es is)(hp:jB w p n s L)(h f l t x1 x2 y1 y2 z1 z2:Int)(q:ByteArray):
 Calls Tryz.prog 8 #[.pointer (some ⟨B,0,none⟩),.pointer (some ⟨p,0,none⟩),.agg #[.int .i64 1,.int .i64 h,.int .i64 f,.int .i64 l,.int .i64 t,.int .i64 x1,.int .i64 x2,.int .i64 y1,.int .i64 y2,.int .i64 z1,.int .i64 z2,.string q]] w (bZ B N v2 es is w):=by
 obtain⟨W0,a3⟩:∃ W0,W0=w.alloc (.cells #[.int .i64 1,.int .i64 h,.int .i64 f,.int .i64 l,.int .i64 t,.int .i64 x1,.int .i64 x2,.int .i64 y1,.int .i64 y2,.int .i64 z1,.int .i64 z2,.string q] 42):=⟨_,rfl⟩;have hJ:Below w.heap.size w W0:=by rw[a3];exact aA _ _
 obtain⟨ga,gb,pa,pb,a5,vb,a6⟩:=hp.below hJ;have b0:=a5.bd;obtain⟨ac,cV,cP,_⟩:=a6.ed;have q0:=a6.cn;have q1:=a6.cs;have q2:=a6.ce;rw[cP]at q2;have HS:Hid (∀ W,Below W0.heap.size W0 W->Calls Tryz.prog 12 #[.pointer (some ⟨ga,0,none⟩)] W _):=fun W h=>QH (a5.below h);have cQ:=fun u=>aC pa u;have cR:=fun u=>aC pb u;have uq0:=fun u=>aC q0 u;have uq1:=fun u=>aC q1 u;have uq2:=fun u=>aC q2 u;have gZ:=ZZ;have hEq:=eqZ' (n:Int) (s:Int) (L.length:Int);have aG:Hid _:=hb;have HJ:Hid _:=hJ;clear hb hp hJ a5 a6 q0 q1 q2 pa pb cP;go_enter Tryz.func8,Tryz.ntmps8
 go_wp2_with fail
 rw[<-a3];have cD:Hid _:=a3;clear a3;refine bG (by kernel_rfl) (by kernel_rfl) ?_;repeat (go_big_quiet_step (first | (go_at_call 12;refine(HS.out _ (aD _ _)).mono ?_;rintro r w1 ⟨rfl,hB⟩;exact⟨rfl,w1,aN (chain (aD _ _) hB)⟩)))
 refine wpQuiet_nil ?_;intro wx hw';obtain⟨u,a9⟩:=hw';subst a9;have HB:Hid _:=chain HJ.out (aD W0 u);go_wp2;go_ret;exact gV aG.out HB.out
theorem UB(hb:Bk w B N v1 v2 es is)(hp:jB w p n s L)(h f l t x1 x2 y1 y2 z1 z2:Int)(q:ByteArray)(bf : -9223372036854775808<=f/\f<=9223372036854775807)(bl : -9223372036854775808<=l/\l<=9223372036854775807)(bt : -9223372036854775808<=t/\t<=9223372036854775807):
 Calls Tryz.prog 8 #[.pointer (some ⟨B,0,none⟩),.pointer (some ⟨p,0,none⟩),.agg #[.int .i64 5,.int .i64 h,.int .i64 f,.int .i64 l,.int .i64 t,.int .i64 x1,.int .i64 x2,.int .i64 y1,.int .i64 y2,.int .i64 z1,.int .i64 z2,.string q]] w (bZ B N v2 es is w):=by
 obtain⟨W0,a3⟩:∃ W0,W0=w.alloc (.cells #[.int .i64 5,.int .i64 h,.int .i64 f,.int .i64 l,.int .i64 t,.int .i64 x1,.int .i64 x2,.int .i64 y1,.int .i64 y2,.int .i64 z1,.int .i64 z2,.string q] 42):=⟨_,rfl⟩;have hJ:Below w.heap.size w W0:=by rw[a3];exact aA _ _
 obtain⟨ga,gb,pa,pb,a5,vb,a6⟩:=hp.below hJ;have b0:=a5.bd;have k2:W0.cell? ⟨w.heap.size,2,none⟩=some (.int .i64 f):=by rw[a3];exact aZ _ _ _ 2
 have u2:=fun u=>aC k2 u;have k3:W0.cell? ⟨w.heap.size,3,none⟩=some (.int .i64 l):=by rw[a3];exact aZ _ _ _ 3
 have u3:=fun u=>aC k3 u;have k4:W0.cell? ⟨w.heap.size,4,none⟩=some (.int .i64 t):=by rw[a3];exact aZ _ _ _ 4
 have u4:=fun u=>aC k4 u;have cI:=pb;obtain⟨x,e,HH,HR⟩:∃(x:Bool) (e:Int),Hid (∀ W,Below W0.heap.size W0 W->Calls Tryz.prog 20 #[.pointer (some ⟨ga,0,none⟩),.agg #[.int .i64 f,.int .i64 l,.int .i64 t]] W fun r w'=>r = .returned (.tuple #[.bool x,.int .i64 e])/\Below W.heap.size W w')/\Hid (∀ W,Below W0.heap.size W0 W->Calls Tryz.prog 21 #[.pointer (some ⟨gb,0,none⟩),.agg #[.int .i64 f,.int .i64 l,.int .i64 t]] W fun r w'=>r = .returned (.tuple #[.bool x,.int .i64 e])/\Below W.heap.size W w'):=by
  by_cases hin:(0<=f/\f<(n:Int))/\(0<=l/\l<(s:Int))/\(0<=t/\t<(n:Int))
  ·refine⟨decide ((f,l,t)∈L),0,(fun W hW => ?_:∀ W,_),(fun W hW => ?_:∀ W,_)⟩
   ·obtain⟨f',rfl⟩:∃ m:Nat,f=(m:Int):=⟨f.toNat,by omega⟩;obtain⟨l',rfl⟩:∃ m:Nat,l=(m:Int):=⟨l.toNat,by omega⟩;obtain⟨t',rfl⟩:∃ m:Nat,t=(m:Int):=⟨t.toNat,by omega⟩;exact SB (a5.below hW) f' l' t' (by omega) (by omega) (by omega)
   ·have h:=RH (a6.below hW) (by omega) f l t;rw[if_pos (by omega),decide_eq_true (by omega:0<=f/\f<(n:Int)/\0<=l/\l<(s:Int)/\0<=t/\t<(n:Int)),Bool.true_and]at h;exact h
  ·refine⟨false,1,(fun W hW => ?_:∀ W,_),(fun W hW => ?_:∀ W,_)⟩
   ·exact Y7 (a5.below hW) f l t bf bl bt hin
   ·have h:=RH (a6.below hW) (by omega) f l t;rw[if_neg (by omega),decide_eq_false (by omega:¬(0<=f/\f<(n:Int)/\0<=l/\l<(s:Int)/\0<=t/\t<(n:Int))),Bool.false_and]at h;exact h
 have cQ:=fun u=>aC pa u;have cR:=fun u=>aC pb u;have aG:Hid _:=hb;have HJ:Hid _:=hJ;have b8:∀(q:Int) W,Hid (Calls Tryz.prog 17 #[.int .i64 q] W _):=fun q W=>nA q W;clear hb hp hJ a5 a6 pa pb b0;go_enter Tryz.func8,Tryz.ntmps8
 go_wp2_with fail
 rw[<-a3];have cD:Hid _:=a3;clear a3;refine bG (by kernel_rfl) (by kernel_rfl) ?_;repeat (go_big_quiet_step (first | (go_at_call 20;refine(HH.out _ (aD _ _)).mono ?_;rintro r w1 ⟨rfl,hB⟩;exact⟨rfl,w1,aN (chain (aD _ _) hB)⟩)))
 refine wpQuiet_nil ?_;intro wx hw';obtain⟨u,a9⟩:=hw';subst a9;obtain⟨W1,cA⟩:∃ W1,W1=ext W0 u:=⟨_,rfl⟩;have a4:Below W0.heap.size W0 W1:=by rw[cA];exact aD _ _
 rw[<-cA];have a8:Hid _:=a4;have j2:=fun u=>aC (cell_kept a4 _ _ k2) u;have j3:=fun u=>aC (cell_kept a4 _ _ k3) u;have j4:=fun u=>aC (cell_kept a4 _ _ k4) u;have jpb:=fun u=>aC (cell_kept a4 _ _ cI) u;clear a4 cA cQ cR u2 k2 u3 k3 u4 k4 cI;go_wp2_with fail
 refine bG (by kernel_rfl) (by kernel_rfl) ?_;repeat (go_big_quiet_step (first | (go_at_call 21;refine(HR.out _ (chain a8.out (aD _ _))).mono ?_;rintro r w1 ⟨rfl,hB⟩;exact⟨rfl,w1,aN (chain (aD _ _) hB)⟩)))
 refine wpQuiet_nil ?_;intro wx hw';obtain⟨u,a9⟩:=hw';subst a9;have HB:Hid _:=chain HJ.out (chain a8.out (aD W1 u));go_wp2_with fail
 refine(aC0 (b8 _ _).out ?_);rintro r w2 ⟨rfl,hw⟩;rw[hw];clear hw w2;go_wp2_with fail
 refine(aC0 (b8 _ _).out ?_);rintro r w2 ⟨rfl,hw⟩;rw[hw];clear hw w2;go_wp2;go_ret;exact gV aG.out HB.out
theorem aAU(L:List E3)(a b c d e f:Int):BI L a b c d e f L.length=(L.filter (inB a b c d e f)).length:=by
 unfold BI inB;rw[aE3];congr 1;refine List.filter_congr fun x _ => ?_;rw[Bool.and_assoc]
theorem step_count(hb:Bk w B N v1 v2 es is)(hp:jB w p n s L)(h f l t x1 x2 y1 y2 z1 z2:Int)(q:ByteArray):
 Calls Tryz.prog 8 #[.pointer (some ⟨B,0,none⟩),.pointer (some ⟨p,0,none⟩),.agg #[.int .i64 6,.int .i64 h,.int .i64 f,.int .i64 l,.int .i64 t,.int .i64 x1,.int .i64 x2,.int .i64 y1,.int .i64 y2,.int .i64 z1,.int .i64 z2,.string q]] w (bZ B N v2 es is w):=by
 obtain⟨W0,a3⟩:∃ W0,W0=w.alloc (.cells #[.int .i64 6,.int .i64 h,.int .i64 f,.int .i64 l,.int .i64 t,.int .i64 x1,.int .i64 x2,.int .i64 y1,.int .i64 y2,.int .i64 z1,.int .i64 z2,.string q] 42):=⟨_,rfl⟩;have hJ:Below w.heap.size w W0:=by rw[a3];exact aA _ _
 obtain⟨ga,gb,pa,pb,a5,vb,a6⟩:=hp.below hJ;have b0:=a5.bd;have k5:W0.cell? ⟨w.heap.size,5,none⟩=some (.int .i64 x1):=by rw[a3];exact aZ _ _ _ 5
 have u5:=fun u=>aC k5 u;have k6:W0.cell? ⟨w.heap.size,6,none⟩=some (.int .i64 x2):=by rw[a3];exact aZ _ _ _ 6
 have u6:=fun u=>aC k6 u;have k7:W0.cell? ⟨w.heap.size,7,none⟩=some (.int .i64 y1):=by rw[a3];exact aZ _ _ _ 7
 have u7:=fun u=>aC k7 u;have k8:W0.cell? ⟨w.heap.size,8,none⟩=some (.int .i64 y2):=by rw[a3];exact aZ _ _ _ 8
 have u8:=fun u=>aC k8 u;have k9:W0.cell? ⟨w.heap.size,9,none⟩=some (.int .i64 z1):=by rw[a3];exact aZ _ _ _ 9
 have u9:=fun u=>aC k9 u;have cB:W0.cell? ⟨w.heap.size,10,none⟩=some (.int .i64 z2):=by rw[a3];exact aZ _ _ _ 10
 have u10:=fun u=>aC cB u;have cI:=pb;obtain⟨x,e,HH,HR⟩:∃(x:Int) (e:Int),Hid (∀ W,Below W0.heap.size W0 W->Calls Tryz.prog 22 #[.pointer (some ⟨ga,0,none⟩),.agg #[.int .i64 x1,.int .i64 x2],.agg #[.int .i64 y1,.int .i64 y2],.agg #[.int .i64 z1,.int .i64 z2]] W fun r w'=>r = .returned (.tuple #[.int .i64 x,.int .i64 e])/\Below W.heap.size W w')/\Hid (∀ W,Below W0.heap.size W0 W->Calls Tryz.prog 23 #[.pointer (some ⟨gb,0,none⟩),.agg #[.int .i64 x1,.int .i64 x2],.agg #[.int .i64 y1,.int .i64 y2],.agg #[.int .i64 z1,.int .i64 z2]] W fun r w'=>r = .returned (.tuple #[.int .i64 x,.int .i64 e])/\Below W.heap.size W w'):=by
  by_cases hin:(0<=x1/\x1<=x2/\x2<=(n:Int))/\(0<=y1/\y1<=y2/\y2<=(s:Int))/\(0<=z1/\z1<=z2/\z2<=(n:Int))
  ·refine⟨((L.filter (inB x1 x2 y1 y2 z1 z2)).length:Int),0,(fun W hW => ?_:∀ W,_),(fun W hW => ?_:∀ W,_)⟩
   ·obtain⟨x1',rfl⟩:∃ m:Nat,x1=(m:Int):=⟨x1.toNat,by omega⟩;obtain⟨x2',rfl⟩:∃ m:Nat,x2=(m:Int):=⟨x2.toNat,by omega⟩;obtain⟨y1',rfl⟩:∃ m:Nat,y1=(m:Int):=⟨y1.toNat,by omega⟩;obtain⟨y2',rfl⟩:∃ m:Nat,y2=(m:Int):=⟨y2.toNat,by omega⟩;obtain⟨cC,rfl⟩:∃ m:Nat,z1=(m:Int):=⟨z1.toNat,by omega⟩;obtain⟨cJ,rfl⟩:∃ m:Nat,z2=(m:Int):=⟨z2.toNat,by omega⟩;exact uS (a5.below hW) x1' x2' y1' y2' cC cJ ⟨by omega,by omega⟩ ⟨by omega,by omega⟩ ⟨by omega,by omega⟩
   ·have h:=CS (a6.below hW) (by omega) x1 x2 y1 y2 z1 z2 true true true (decide_eq_true hin.1) (decide_eq_true hin.2.1) (decide_eq_true hin.2.2);rw[aAU]at h;exact h
  ·refine⟨0,1,(fun W hW => ?_:∀ W,_),(fun W hW => ?_:∀ W,_)⟩
   ·exact wC (a5.below hW) x1 x2 y1 y2 z1 z2 _ _ _ rfl rfl rfl (by simpa only[decide_eq_true_eq]using hin)
   ·have h:=CS (a6.below hW) (by omega) x1 x2 y1 y2 z1 z2 _ _ _ rfl rfl rfl;rw[show(decide (0<=x1/\x1<=x2/\x2<=(n:Int))&&(decide (0<=y1/\y1<=y2/\y2<=(s:Int))&&decide (0<=z1/\z1<=z2/\z2<=(n:Int))))=false from by
     rw[Bool.eq_false_iff];simpa only[ne_eq,aD6,decide_eq_true_eq]using hin]at h
    exact h
 have cQ:=fun u=>aC pa u;have cR:=fun u=>aC pb u;have aG:Hid _:=hb;have HJ:Hid _:=hJ;have b8:∀(q:Int) W,Hid (Calls Tryz.prog 17 #[.int .i64 q] W _):=fun q W=>nA q W;clear hb hp hJ a5 a6 pa pb b0;go_enter Tryz.func8,Tryz.ntmps8
 go_wp2_with fail
 rw[<-a3];have cD:Hid _:=a3;clear a3;refine bG (by kernel_rfl) (by kernel_rfl) ?_;repeat (go_big_quiet_step (first | (go_at_call 22;refine(HH.out _ (aD _ _)).mono ?_;rintro r w1 ⟨rfl,hB⟩;exact⟨rfl,w1,aN (chain (aD _ _) hB)⟩)))
 refine wpQuiet_nil ?_;intro wx hw';obtain⟨u,a9⟩:=hw';subst a9;obtain⟨W1,cA⟩:∃ W1,W1=ext W0 u:=⟨_,rfl⟩;have a4:Below W0.heap.size W0 W1:=by rw[cA];exact aD _ _
 rw[<-cA];have a8:Hid _:=a4;have j5:=fun u=>aC (cell_kept a4 _ _ k5) u;have j6:=fun u=>aC (cell_kept a4 _ _ k6) u;have j7:=fun u=>aC (cell_kept a4 _ _ k7) u;have j8:=fun u=>aC (cell_kept a4 _ _ k8) u;have j9:=fun u=>aC (cell_kept a4 _ _ k9) u;have j10:=fun u=>aC (cell_kept a4 _ _ cB) u;have jpb:=fun u=>aC (cell_kept a4 _ _ cI) u;clear a4 cA cQ cR u5 k5 u6 k6 u7 k7 u8 k8 u9 k9 u10 cB cI;go_wp2_with fail
 refine bG (by kernel_rfl) (by kernel_rfl) ?_;repeat (go_big_quiet_step (first | (go_at_call 23;refine(HR.out _ (chain a8.out (aD _ _))).mono ?_;rintro r w1 ⟨rfl,hB⟩;exact⟨rfl,w1,aN (chain (aD _ _) hB)⟩)))
 refine wpQuiet_nil ?_;intro wx hw';obtain⟨u,a9⟩:=hw';subst a9;have HB:Hid _:=chain HJ.out (chain a8.out (aD W1 u));go_wp2_with fail
 refine(aC0 (b8 _ _).out ?_);rintro r w2 ⟨rfl,hw⟩;rw[hw];clear hw w2;go_wp2_with fail
 refine(aC0 (b8 _ _).out ?_);rintro r w2 ⟨rfl,hw⟩;rw[hw];clear hw w2;go_wp2;go_ret;exact gV aG.out HB.out
def rD(w:World)(v:Value):Prop:=v = .pointer none\/∃ p n s L,v = .pointer (some ⟨p,0,none⟩)/\jB w p n s L
theorem rD.below{v:Value}(h:rD w v)(hB:Below w.heap.size w w'):rD w' v:=by
 rcases h with h | ⟨p,n,s,L,h1,h2⟩
 ·exact .inl h
 ·exact .inr ⟨p,n,s,L,h1,h2.below hB⟩
theorem wH(n s:Int)(l:List E3)(v:Value)(w:World)(he:aI w v l)(hcap:uO v)(hlen:l.length*24<=140737488351232):
 Calls Tryz.prog 7 #[.int .i64 n,.int .i64 s,v] w fun e w'=>∃ z,e = .returned (.tuple #[z,.bool true])/\rD w' z/\Below w.heap.size w w':=by
 have cL:Hid (Calls Tryz.prog 10 _ w _):=CF n s l v w he hcap hlen;obtain⟨a0,cap,rfl,_⟩:=he;clear hcap;by_cases bW:okG n s l;case neg =>
  rw[show eY n s l=⟨#[]⟩ by unfold eY;rw[if_neg bW]]at cL;clear bW;go_enter Tryz.func7,Tryz.ntmps7
  go_wp2_with fail
  refine(aC0 cL.out ?_);rintro e w1 ⟨rfl,a4⟩;have a8:Hid _:=a4;clear a4;go_wp2;go_ret2;exact⟨_,rfl,.inl rfl,a8.out⟩
 case pos =>
  obtain⟨n,rfl⟩:∃ m:Nat,n=(m:Int):=⟨n.toNat,by have:=bW.1.1;omega⟩;obtain⟨s,rfl⟩:∃ m:Nat,s=(m:Int):=⟨s.toNat,by have:=bW.1.2.2.1;omega⟩;have cN:=xX bW;generalize eY (n:Int) (s:Int) l=img at cL cN;have cG:=cN.size;have hsz:img.size<=9223372036854775807:=by have:=cG.2.1;have:=cG.2.2.1;omega
  have hne:¬ img={ data:=#[] }:=fun e=>by
   have h1:=cG.2.1;have h2:=cG.2.2.1;rw[e]at h1;have:(ByteArray.mk #[]).size=0:=rfl;omega
  have hne2:img.toList.isEmpty=false:=by
   rw[<-decide_eq_emptyBytes img];exact decide_eq_false hne
  have HO:Hid (∀ W,Calls Tryz.prog 11 #[.string img] W (xE img W)):=fun W=>KU img W hsz;have HIs:Hid _:=cN;clear bW cG cN;go_enter Tryz.func7,Tryz.ntmps7
  go_wp2_with fail
  refine(aC0 cL.out ?_);rintro e w1 ⟨rfl,a4⟩;have a8:Hid _:=a4;clear a4;go_wp2_with fail
  refine(aC0 (HO.out w1) ?_);rintro e w2 ⟨a7,⟨h1,_⟩ | ⟨n',s',L,q,_,rfl,hp⟩⟩
  ·exact absurd HIs.out (h1 _ _ _)
  have bS:Hid _:=chain a8.out a7;have HP:Hid _:=hp;clear a7 hp HIs;go_wp2;go_ret2;exact⟨_,rfl,.inr ⟨q,n',s',L,rfl,HP.out⟩,bS.out⟩
structure Sp where
 k:Int
 h:Int
 f:Int
 l:Int
 t:Int
 x1:Int
 x2:Int
 y1:Int
 y2:Int
 z1:Int
 z2:Int
 q:ByteArray
def i64(x:Int):Prop := -9223372036854775808<=x/\x<=9223372036854775807
def xU(w:World)(a0:Option Addr)(len:Nat)(S:Nat->Sp):Prop :=
 ∀ i,i<len->(i64 (S i).f/\i64 (S i).l/\i64 (S i).t/\(S i).q.size<=9223372036854775807)/\∃ g off,a0=some ⟨g,off,none⟩ /\
  w.cell? ⟨g,off+i*12,none⟩=some (.int .i64 (S i).k)/\w.cell? ⟨g,off+i*12+1,none⟩=some (.int .i64 (S i).h) /\
  w.cell? ⟨g,off+i*12+2,none⟩=some (.int .i64 (S i).f)/\w.cell? ⟨g,off+i*12+3,none⟩=some (.int .i64 (S i).l)/\w.cell? ⟨g,off+i*12+4,none⟩=some (.int .i64 (S i).t) /\
  w.cell? ⟨g,off+i*12+5,none⟩=some (.int .i64 (S i).x1)/\w.cell? ⟨g,off+i*12+6,none⟩=some (.int .i64 (S i).x2) /\
  w.cell? ⟨g,off+i*12+7,none⟩=some (.int .i64 (S i).y1)/\w.cell? ⟨g,off+i*12+8,none⟩=some (.int .i64 (S i).y2) /\
  w.cell? ⟨g,off+i*12+9,none⟩=some (.int .i64 (S i).z1)/\w.cell? ⟨g,off+i*12+10,none⟩=some (.int .i64 (S i).z2) /\
  w.cell? ⟨g,off+i*12+11,none⟩=some (.string (S i).q)
def tV(B N:Nat)(es is:List (Value×Int))(w:World)(e:Ending)(w':World):Prop :=
 e = .returned (.bool true)/\(∃ N' aL v2' aE is',Bk w' B N' aL v2' aE is'/\N'<=N+1/\aE.length<=es.length+4/\is'.length<=is.length+4)/\Below B w w'
theorem bZ.two{e:Ending}(h:bZ B N v2 es is w e w'):tV B N es is w e w':=by
 obtain⟨h1,⟨N',aL,aE,h2,h3,h4⟩,h5⟩:=h;exact⟨h1,⟨N',aL,v2,aE,is,h2,h3,h4,by omega⟩,h5⟩
def PP(T:World->Prop)(M:Int):Prop:=∀(w:World) (B N:Nat) (v1 v2:Value) (es is:List (Value×Int)) (p n s:Nat) (L:List E3) (st:Sp),T w->Bk w B N v1 v2 es is->jB w p n s L->N<=2000000000000->es.length<=5500000000000->is.length<=5500000000000->st.k<=M->(i64 st.f/\i64 st.l/\i64 st.t/\st.q.size<=9223372036854775807) ->
 Calls Tryz.prog 8 #[.pointer (some ⟨B,0,none⟩),.pointer (some ⟨p,0,none⟩),.agg #[.int .i64 st.k,.int .i64 st.h,.int .i64 st.f,.int .i64 st.l,.int .i64 st.t,.int .i64 st.x1,.int .i64 st.x2,.int .i64 st.y1,.int .i64 st.y2,.int .i64 st.z1,.int .i64 st.z2,.string st.q]] w (tV B N es is w)
theorem aAz(w:World):Bk (w.alloc (.cells #[.int .i64 0,.slice none 0 0,.slice none 0 0] 36)) w.heap.size 0 (.slice none 0 0) (.slice none 0 0) [] [] :=
 ⟨heap_alloc_new w _,aG2 _ _ _ _,aG2 _ _ _ _,fun g hg=>by simp[Value.ownBlock]at hg,fun p hp=>by simp at hp,fun p hp=>by simp at hp,fun p hp=>by simp at hp⟩
theorem RX(T:World->Prop)(hTk:∀ w w':World,Below w.heap.size w w'->T w->T w')(M:Int)(hM:PP T M)(z0 z1 z2 y0 y1 y2:Int)(l m:List E3)(vl vm:Value)(a0:Option Addr)(len cap:Nat)(S:Nat->Sp)(w:World)(hl:aI w vl l)(hlc:uO vl)(hll:l.length*24<=140737488351232)(hm:aI w vm m)(hmc:uO vm)(hml:m.length*24<=140737488351232)(hS:xU w a0 len S)(hlen:len*104<=140737488351232)(hT:T w):
 Calls Tryz.prog 5 #[.agg #[.int .i64 z0,.int .i64 z1,.int .i64 z2],vl,.agg #[.int .i64 y0,.int .i64 y1,.int .i64 y2],vm,.slice a0 len cap,.int .i64 M] w fun e w'=>e = .returned (.bool true)/\Below w.heap.size w w':=by
 obtain⟨W0,a3⟩:∃ W0,W0=(w.alloc (.cells #[.int .i64 z0,.int .i64 z1,.int .i64 z2] 23)).alloc (.cells #[.int .i64 y0,.int .i64 y1,.int .i64 y2] 23):=⟨_,rfl⟩;have hJ:Below w.heap.size w W0:=by rw[a3];exact iF (aA _ _)
 have k0:W0.cell? ⟨w.heap.size,0,none⟩=some (.int .i64 z0):=by rw[a3];exact cell_kept (aA _ _) _ _ (aZ _ _ _ 0)
 have k1:W0.cell? ⟨w.heap.size,1,none⟩=some (.int .i64 z1):=by rw[a3];exact cell_kept (aA _ _) _ _ (aZ _ _ _ 1)
 have k3:W0.cell? ⟨w.heap.size+1,0,none⟩=some (.int .i64 y0):=by rw[a3,<-aD1 w (.cells #[.int .i64 z0,.int .i64 z1,.int .i64 z2] 23)];exact aZ _ _ _ 0
 have k4:W0.cell? ⟨w.heap.size+1,1,none⟩=some (.int .i64 y1):=by rw[a3,<-aD1 w (.cells #[.int .i64 z0,.int .i64 z1,.int .i64 z2] 23)];exact aZ _ _ _ 1
 have HF:Hid (∀ W,Calls Tryz.prog 6 #[] W _):=fun W=>QK W;have HG1:Hid (∀ W,Below W0.heap.size W0 W->Calls Tryz.prog 7 #[.int .i64 z0,.int .i64 z1,vl] W _):=fun W h=>wH z0 z1 l vl W ((hl.below hJ).below h) hlc hll;have HG2:Hid (∀ W,Below W0.heap.size W0 W->Calls Tryz.prog 7 #[.int .i64 y0,.int .i64 y1,vm] W _):=fun W h=>wH y0 y1 m vm W ((hm.below hJ).below h) hmc hml;have HS:Hid _:=hS;have HM:Hid (_/\_/\_):=⟨hM,hTk,hT⟩;have HJ:Hid _:=hJ;have hn1:len<=1354000000000:=by omega
 clear hl hlc hll hm hmc hml hS hM hJ hTk hT;go_enter Tryz.func5,Tryz.ntmps5
 go_wp2_with fail
 rw[<-a3];refine(aC0 (HF.out _) ?_);rintro e w1 ⟨rfl,a4⟩;have j0:=cell_kept a4 _ _ k0;have j1:=cell_kept a4 _ _ k1;have j3:=cell_kept a4 _ _ k3;have j4:=cell_kept a4 _ _ k4;have a8:Hid _:=a4;have cD:Hid _:=a3;clear a4 k0 k1 k3 k4 HF a3;go_wp2_with fail
 refine(aC0 (HG1.out w1 a8.out) ?_);rintro e w2 ⟨pv,rfl,hpv,a7⟩;have HPv:Hid _:=hpv;have i3:=cell_kept a7 _ _ j3;have i4:=cell_kept a7 _ _ j4;have bS:Hid _:=chain a8.out a7;clear a7 hpv j0 j1 j3 j4 HG1;go_wp2_with fail
 refine(aC0 (HG2.out w2 bS.out) ?_);rintro e w3 ⟨qv,rfl,hqv,hB3⟩;have HQv:Hid (rD w3 qv):=hqv;have cU:Hid (rD w3 pv):=rD.below HPv.out hB3;have bX:Hid _:=chain HJ.out (chain bS.out hB3);clear hB3 hqv i3 i4 HG2 HPv;go_wp2;obtain⟨W4,cM⟩:∃ W4,W4=w3.alloc (.cells #[.int .i64 0,.slice none 0 0,.slice none 0 0] 36):=⟨_,rfl⟩;rw[<-cM];have cS:Hid (Bk W4 w3.heap.size 0 (.slice none 0 0) (.slice none 0 0) [] []):=(by rw[cM];exact aAz w3:Bk _ _ _ _ _ _ _);have HB4:Hid (Below w3.heap.size w3 W4):=(by rw[cM];exact aA _ _:Below _ _ _);clear cM;go_loopw [19] (fun si wr=>∃ i:Nat,i<=len/\si = .int .i64 (i:Int)/\Hid ((∃ N v1 v2 es is,Bk wr w3.heap.size N v1 v2 es is/\N<=i/\es.length<=4*i/\is.length<=4*i)/\Below w3.heap.size w3 wr)) (fun si _=>len-(intOf si).toNat)
 case atStart=>exact⟨0,aC6 _,rfl,⟨⟨0,_,_,[],[],cS.out,by simp,by simp,by simp⟩,HB4.out⟩⟩
 case round =>
  obtain⟨i,hi,rfl,HI⟩:=hrel;by_cases hlt:i<len
  ·obtain⟨bW,g,off,rfl,c0,c1,c2,c3,c4,c5,c6,c7,c8,c9,c10,c11⟩:=HS.out i hlt;have hB:=chain bX.out HI.out.2;have d0:=cell_kept hB _ _ c0;have d1:=cell_kept hB _ _ c1;have d2:=cell_kept hB _ _ c2;have d3:=cell_kept hB _ _ c3;have d4:=cell_kept hB _ _ c4;have d5:=cell_kept hB _ _ c5;have d6:=cell_kept hB _ _ c6;have d7:=cell_kept hB _ _ c7;have d8:=cell_kept hB _ _ c8;have d9:=cell_kept hB _ _ c9;have d10:=cell_kept hB _ _ c10;have d11:=cell_kept hB _ _ c11;have hiI:(i:Int)<(len:Int):=by omega
   clear c0 c1 c2 c3 c4 c5 c6 c7 c8 c9 c10 c11 hB;obtain⟨st,hst⟩:∃ st,st=S i:=⟨_,rfl⟩;rw[<-hst]at bW d0 d1 d2 d3 d4 d5 d6 d7 d8 d9 d10 d11;clear hst;have HOk:Hid _:=bW;clear bW;have b6:Hid ((∃ N v1 v2 es is,Bk wr w3.heap.size N v1 v2 es is/\N<=i+1/\es.length<=4*(i+1)/\is.length<=4*(i+1))/\Below w3.heap.size w3 wr):=(by
    obtain⟨⟨N,v1,v2,es,is,h1,h2,h3,h4⟩,h5⟩:=HI.out;exact⟨⟨N,v1,v2,es,is,h1,by omega,by omega,by omega⟩,h5⟩:_/\_)
   have b9:∀ ov:Value,rD w3 ov->(ov = .pointer none\/∃ p,ov = .pointer (some ⟨p,0,none⟩)/\(st.k>M\/(¬ st.k>M/\Calls Tryz.prog 8 #[.pointer (some ⟨w3.heap.size,0,none⟩),.pointer (some ⟨p,0,none⟩),.agg #[.int .i64 st.k,.int .i64 st.h,.int .i64 st.f,.int .i64 st.l,.int .i64 st.t,.int .i64 st.x1,.int .i64 st.x2,.int .i64 st.y1,.int .i64 st.y2,.int .i64 st.z1,.int .i64 st.z2,.string st.q]] wr fun e w'=>e = .returned (.bool true)/\((∃ N v1 v2 es is,Bk w' w3.heap.size N v1 v2 es is/\N<=i+1/\es.length<=4*(i+1)/\is.length<=4*(i+1))/\Below w3.heap.size w3 w')))):=fun ov hov=>by
    rcases hov with h | ⟨p,n,s,L,h1,h2⟩
    ·exact .inl h
    ·by_cases hk:st.k>M
     ·exact .inr ⟨p,h1,.inl hk⟩
     ·obtain⟨⟨N,v1,v2,es,is,b1,b2,b3,b4⟩,b5⟩:=HI.out;refine .inr ⟨p,h1,.inr ⟨hk,?_⟩⟩;refine(HM.out.1 wr w3.heap.size N v1 v2 es is p n s L st (HM.out.2.1 w3 wr b5 (HM.out.2.1 w w3 bX.out HM.out.2.2)) b1 (h2.below b5) (by omega) (by omega) (by omega) (by omega) HOk.out).mono ?_;rintro e w' ⟨rfl,⟨N',aL,v2',aE,is',q1,q2,q3,q4⟩,q5⟩;exact⟨rfl,⟨N',aL,v2',aE,is',q1,by omega,by omega,by omega⟩,b5.trans q5⟩
   have HP1:Hid _:=b9 pv cU.out;have HP2:Hid _:=b9 qv HQv.out;clear b9;have HIx:Hid _:=HI.out;clear HI;obtain⟨W5,rfl⟩:∃ W5,W5=wr:=⟨wr,rfl⟩;have HL:Hid (∀ w',((∃ N v1 v2 es is,Bk w' w3.heap.size N v1 v2 es is/\N<=i+1/\es.length<=4*(i+1)/\is.length<=4*(i+1))/\Below w3.heap.size w3 w')->Calls Tryz.prog 9 #[.pointer (some ⟨w3.heap.size,0,none⟩)] w' fun e w''=>e = .returned (.bool true)/\((∃ N v1 v2 es is,Bk w'' w3.heap.size N v1 v2 es is/\N<=i+1/\es.length<=4*(i+1)/\is.length<=4*(i+1))/\Below w3.heap.size w3 w'')):=(fun w' h=>by
    obtain⟨⟨N,v1,v2,es,is,b1,b2,b3,b4⟩,b5⟩:=h;refine(RO b1 (by omega) (by omega)).mono ?_;rintro e w'' ⟨rfl,h⟩;exact⟨rfl,⟨N,v1,v2,es,is,b1.below h,b2,b3,b4⟩,chain b5 h⟩:∀ w',_)
   cases hH1:(bits BinOp.and IntKind.i64 st.h 1 == 1)
   ·clear HP2;rcases HP1.out with h | ⟨p,h1,h2⟩
    ·subst h;go_wp2;go_roundw;case rel=>exact⟨i+1,by omega,by go_num,b6.out⟩
     case measure=>simp[intOf];omega
    ·subst h1;rcases h2 with hk | ⟨hk,hc⟩
     ·go_wp2;go_roundw;case rel=>exact⟨i+1,by omega,by go_num,b6.out⟩
      case measure=>simp[intOf];omega
     ·have HC:Hid _:=hc;clear hc;go_wp2_with fail
      refine(aC0 HC.out ?_);rintro e w6 ⟨rfl,h6⟩;have cE:Hid _:=HL.out w6 h6;clear h6 HC b6;go_wp2_with fail
      refine(aC0 cE.out ?_);rintro e w7 ⟨rfl,h7⟩;have cT:Hid _:=h7;clear h7 cE;go_wp2;go_roundw;case rel=>exact⟨i+1,by omega,by go_num,cT.out⟩
      case measure=>simp[intOf];omega
   ·clear HP1;rcases HP2.out with h | ⟨p,h1,h2⟩
    ·subst h;go_wp2;go_roundw;case rel=>exact⟨i+1,by omega,by go_num,b6.out⟩
     case measure=>simp[intOf];omega
    ·subst h1;rcases h2 with hk | ⟨hk,hc⟩
     ·go_wp2;go_roundw;case rel=>exact⟨i+1,by omega,by go_num,b6.out⟩
      case measure=>simp[intOf];omega
     ·have HC:Hid _:=hc;clear hc;go_wp2_with fail
      refine(aC0 HC.out ?_);rintro e w6 ⟨rfl,h6⟩;have cE:Hid _:=HL.out w6 h6;clear h6 HC b6;go_wp2_with fail
      refine(aC0 cE.out ?_);rintro e w7 ⟨rfl,h7⟩;have cT:Hid _:=h7;clear h7 cE;go_wp2;go_roundw;case rel=>exact⟨i+1,by omega,by go_num,cT.out⟩
      case measure=>simp[intOf];omega
  ·obtain rfl:i=len:=by omega
   have HB:Hid _:=chain bX.out HI.out.2;clear HI;go_wp2;go_ret;exact⟨rfl,HB.out⟩
theorem Y3(L:List E3)(u:Int):L.filter (fun e=>e.1 == u)=L.filter (qP u (u+1)):=by
 refine List.filter_congr fun e _ => ?_;unfold qP;rw[aI5,beq_iff_eq,decide_eq_true_eq];omega
theorem to_eq(L:List E3)(u:Int):L.filter (fun e=>e.2.2 == u)=L.filter (toB u (u+1)):=by
 refine List.filter_congr fun e _ => ?_;unfold toB;rw[aI5,beq_iff_eq,decide_eq_true_eq];omega
theorem sQ{W0 w1 w2:World}(hb:Bk w B N v1 v2 es is)(hJ:Below w.heap.size w W0)(a4:Below W0.heap.size W0 w1)(a7:Below w1.heap.size w1 w2)(hN:N<=2000000000000)(hn:es.length<=5500000000000)(v vm:Value)(A:List E3)(hv:w1.ownsRow W0.heap.size 38 3 v A.length (flat A))(hm:aI w2 vm A)(hA:A.length<=20000):
 Calls Tryz.prog 14 #[.pointer (some ⟨B,0,none⟩),v,vm] w2 fun e w'=>e = .returned (.bool true)/\(∃ aL aE,Bk w' B (N+1) aL v2 aE is/\aE.length=es.length+4)/\Below B w2 w':=by
 have hs:=hJ.size;have hlt:=hb.lt;exact Q5 (hb.below (chain (chain hJ a4) a7)) W0.heap.size v vm A (gQ hv a7) (by omega) (aD9 a4.size a7.size) (fun g hg=>by have:=(hb.own1.lt g hg).2;omega) (fun g hg=>by have:=(hb.own2.lt g hg).2;omega) (fun p hp g hg=>by have:=(hb.bl p hp g hg).2.1;omega) hm hA hN hn
theorem TI(hb:Bk w B N v1 v2 es is)(hp:jB w p n s L)(hN:N<=2000000000000)(hn:es.length<=5500000000000)(h f l t x1 x2 y1 y2 z1 z2:Int)(q:ByteArray)(bf : -9223372036854775808<=f/\f<=9223372036854775807):
 Calls Tryz.prog 8 #[.pointer (some ⟨B,0,none⟩),.pointer (some ⟨p,0,none⟩),.agg #[.int .i64 3,.int .i64 h,.int .i64 f,.int .i64 l,.int .i64 t,.int .i64 x1,.int .i64 x2,.int .i64 y1,.int .i64 y2,.int .i64 z1,.int .i64 z2,.string q]] w (bZ B N v2 es is w):=by
 obtain⟨W0,a3⟩:∃ W0,W0=w.alloc (.cells #[.int .i64 3,.int .i64 h,.int .i64 f,.int .i64 l,.int .i64 t,.int .i64 x1,.int .i64 x2,.int .i64 y1,.int .i64 y2,.int .i64 z1,.int .i64 z2,.string q] 42):=⟨_,rfl⟩;have hJ:Below w.heap.size w W0:=by rw[a3];exact aA _ _
 obtain⟨ga,gb,pa,pb,a5,vb,a6⟩:=hp.below hJ;have b0:=a5.bd;have k2:W0.cell? ⟨w.heap.size,2,none⟩=some (.int .i64 f):=by rw[a3];exact aZ _ _ _ 2
 have u2:=fun u=>aC k2 u;obtain⟨e,A,hA,HO,HR⟩:∃(e:Int) (A:List E3),A.length<=20000/\Hid (∀ W,Below W0.heap.size W0 W->Calls Tryz.prog 15 #[.pointer (some ⟨ga,0,none⟩),.int .i64 f] W fun r w'=>∃ z,r = .returned (.tuple #[z,.int .i64 e])/\eO W w' z A)/\Hid (∀ W,Below W0.heap.size W0 W->Calls Tryz.prog 16 #[.pointer (some ⟨gb,0,none⟩),.int .i64 f] W fun r w'=>∃ z,r = .returned (.tuple #[z,.int .i64 e])/\eO W w' z A):=by
  by_cases hin:0<=f/\f<(n:Int)
  ·refine⟨0,L.filter (qP f (f+1)),aD9 (aE8 _ _) b0.2.2.2.2,(fun W hW => ?_:∀ W,_),(fun W hW => ?_:∀ W,_)⟩
   ·refine(yD (a5.below hW) f bf.1 bf.2).mono ?_;rintro r w' (⟨h1,_⟩ | ⟨_,z,h1,h2⟩)
    ·exact absurd hin h1
    ·exact⟨z,h1,h2⟩
   ·have h:=X7 (a6.below hW) (by omega) f hin;rw[Y3]at h;exact h
  ·refine⟨1,[],by simp,(fun W hW => ?_:∀ W,_),(fun W hW => ?_:∀ W,_)⟩
   ·refine(yD (a5.below hW) f bf.1 bf.2).mono ?_;rintro r w' (⟨_,h1,h2⟩ | ⟨h1,_⟩)
    ·exact⟨_,h1,aG2 _ _ _ _,h2⟩
    ·exact absurd h1 hin
   ·refine(aAV (a6.below hW) f hin).mono ?_;rintro r w' ⟨h1,h2⟩;exact⟨_,h1,aG2 _ _ _ _,by rw[h2];exact YQ _ _⟩
 have aG:Hid _:=hb;have HJ:Hid _:=hJ;have b8:∀(q:Int) W,Hid (Calls Tryz.prog 17 #[.int .i64 q] W _):=fun q W=>nA q W;clear hb hp hJ a5 a6 b0 u2;go_enter Tryz.func8,Tryz.ntmps8
 go_wp2_with fail
 rw[<-a3];have cD:Hid _:=a3;clear a3;go_region_held3 (fun w'=>w'.cell? ⟨p,0,none⟩=some (.pointer (some ⟨ga,0,none⟩))/\w'.cell? ⟨w.heap.size,2,none⟩=some (.int .i64 f))
  (first | (refine⟨?_,?_⟩ <;> assumption) | (go_keep;done))
  (first
   | (go_at_call 15;refine(HO.out _ ((YQ _ _).drew)).mono ?_;rintro r w1 ⟨cC,rfl,hO1⟩;have a4:=((YQ W0.heap.size W0).drew).trans hO1.2;have j1:=cell_kept a4 _ _ pa;have j2:=cell_kept a4 _ _ k2;have j3:=cell_kept a4 _ _ pb))
 have cF:Hid _:=hO1.1;have a8:Hid _:=a4;clear hO1 a4 pa pb k2 HO;go_wp2_with fail
 go_region_held3 (fun w'=>w'.cell? ⟨p,1,none⟩=some (.pointer (some ⟨gb,0,none⟩))/\w'.cell? ⟨w.heap.size,2,none⟩=some (.int .i64 f))
  (first | (refine⟨?_,?_⟩ <;> assumption) | (go_keep;done))
  (first
   | (go_at_call 16;refine(HR.out _ (a8.out.drew)).mono ?_;rintro r w2 ⟨cJ,rfl,hO2⟩;have a7:=((YQ w1.heap.size w1).drew).trans hO2.2;have i2:=cell_kept a7 _ _ j2;have i3:=cell_kept a7 _ _ j3))
 have HT:Hid (Calls Tryz.prog 14 _ w2 _):=sQ aG.out HJ.out a8.out a7 hN hn cC cJ A cF.out (o5 hO2.1) hA;have bS:Hid _:=chain (chain HJ.out a8.out) a7;clear hO2 a7 i2 i3 j1 j2 j3 HR cF;go_wp2_with fail
 refine(aC0 HT.out ?_);rintro r w3 ⟨rfl,hbk,hB3⟩;have b7:Hid _:=hbk;have bX:Hid _:=(bS.out.mono (aH2 aG.out.lt)).trans hB3;clear hbk hB3 HT;go_wp2_with fail
 refine(aC0 (b8 _ _).out ?_);rintro r w4 ⟨rfl,hw⟩;rw[hw];clear hw w4;go_wp2_with fail
 refine(aC0 (b8 _ _).out ?_);rintro r w4 ⟨rfl,hw⟩;rw[hw];clear hw w4;go_wp2;go_ret;obtain⟨aL,aE,h1,h2⟩:=b7.out;exact⟨rfl,⟨N+1,aL,aE,h1,by omega,by omega⟩,bX.out⟩
theorem ZI(hb:Bk w B N v1 v2 es is)(hp:jB w p n s L)(hN:N<=2000000000000)(hn:es.length<=5500000000000)(h f l t x1 x2 y1 y2 z1 z2:Int)(q:ByteArray)(bt : -9223372036854775808<=t/\t<=9223372036854775807):
 Calls Tryz.prog 8 #[.pointer (some ⟨B,0,none⟩),.pointer (some ⟨p,0,none⟩),.agg #[.int .i64 4,.int .i64 h,.int .i64 f,.int .i64 l,.int .i64 t,.int .i64 x1,.int .i64 x2,.int .i64 y1,.int .i64 y2,.int .i64 z1,.int .i64 z2,.string q]] w (bZ B N v2 es is w):=by
 obtain⟨W0,a3⟩:∃ W0,W0=w.alloc (.cells #[.int .i64 4,.int .i64 h,.int .i64 f,.int .i64 l,.int .i64 t,.int .i64 x1,.int .i64 x2,.int .i64 y1,.int .i64 y2,.int .i64 z1,.int .i64 z2,.string q] 42):=⟨_,rfl⟩;have hJ:Below w.heap.size w W0:=by rw[a3];exact aA _ _
 obtain⟨ga,gb,pa,pb,a5,vb,a6⟩:=hp.below hJ;have b0:=a5.bd;have k4:W0.cell? ⟨w.heap.size,4,none⟩=some (.int .i64 t):=by rw[a3];exact aZ _ _ _ 4
 have u4:=fun u=>aC k4 u;obtain⟨e,A,hA,HO,HR⟩:∃(e:Int) (A:List E3),A.length<=20000/\Hid (∀ W,Below W0.heap.size W0 W->Calls Tryz.prog 18 #[.pointer (some ⟨ga,0,none⟩),.int .i64 t] W fun r w'=>∃ z,r = .returned (.tuple #[z,.int .i64 e])/\eO W w' z A)/\Hid (∀ W,Below W0.heap.size W0 W->Calls Tryz.prog 19 #[.pointer (some ⟨gb,0,none⟩),.int .i64 t] W fun r w'=>∃ z,r = .returned (.tuple #[z,.int .i64 e])/\eO W w' z A):=by
  by_cases hin:0<=t/\t<(n:Int)
  ·refine⟨0,L.filter (toB t (t+1)),aD9 (aE8 _ _) b0.2.2.2.2,(fun W hW => ?_:∀ W,_),(fun W hW => ?_:∀ W,_)⟩
   ·refine(Q3 (a5.below hW) t bt.1 bt.2).mono ?_;rintro r w' (⟨h1,_⟩ | ⟨_,z,h1,h2⟩)
    ·exact absurd hin h1
    ·exact⟨z,h1,h2⟩
   ·have h:=ZJ (a6.below hW) (by omega) t hin;rw[to_eq]at h;exact h
  ·refine⟨1,[],by simp,(fun W hW => ?_:∀ W,_),(fun W hW => ?_:∀ W,_)⟩
   ·refine(Q3 (a5.below hW) t bt.1 bt.2).mono ?_;rintro r w' (⟨_,h1,h2⟩ | ⟨h1,_⟩)
    ·exact⟨_,h1,aG2 _ _ _ _,h2⟩
    ·exact absurd h1 hin
   ·refine(aAc (a6.below hW) t hin).mono ?_;rintro r w' ⟨h1,h2⟩;exact⟨_,h1,aG2 _ _ _ _,by rw[h2];exact YQ _ _⟩
 have aG:Hid _:=hb;have HJ:Hid _:=hJ;have b8:∀(q:Int) W,Hid (Calls Tryz.prog 17 #[.int .i64 q] W _):=fun q W=>nA q W;clear hb hp hJ a5 a6 b0 u4;go_enter Tryz.func8,Tryz.ntmps8
 go_wp2_with fail
 rw[<-a3];have cD:Hid _:=a3;clear a3;go_region_held3 (fun w'=>w'.cell? ⟨p,0,none⟩=some (.pointer (some ⟨ga,0,none⟩))/\w'.cell? ⟨w.heap.size,4,none⟩=some (.int .i64 t))
  (first | (refine⟨?_,?_⟩ <;> assumption) | (go_keep;done))
  (first
   | (go_at_call 18;refine(HO.out _ ((YQ _ _).drew)).mono ?_;rintro r w1 ⟨cC,rfl,hO1⟩;have a4:=((YQ W0.heap.size W0).drew).trans hO1.2;have j1:=cell_kept a4 _ _ pa;have j2:=cell_kept a4 _ _ k4;have j3:=cell_kept a4 _ _ pb))
 have cF:Hid _:=hO1.1;have a8:Hid _:=a4;clear hO1 a4 pa pb k4 HO;go_wp2_with fail
 go_region_held3 (fun w'=>w'.cell? ⟨p,1,none⟩=some (.pointer (some ⟨gb,0,none⟩))/\w'.cell? ⟨w.heap.size,4,none⟩=some (.int .i64 t))
  (first | (refine⟨?_,?_⟩ <;> assumption) | (go_keep;done))
  (first
   | (go_at_call 19;refine(HR.out _ (a8.out.drew)).mono ?_;rintro r w2 ⟨cJ,rfl,hO2⟩;have a7:=((YQ w1.heap.size w1).drew).trans hO2.2;have i2:=cell_kept a7 _ _ j2;have i3:=cell_kept a7 _ _ j3))
 have HT:Hid (Calls Tryz.prog 14 _ w2 _):=sQ aG.out HJ.out a8.out a7 hN hn cC cJ A cF.out (o5 hO2.1) hA;have bS:Hid _:=chain (chain HJ.out a8.out) a7;clear hO2 a7 i2 i3 j1 j2 j3 HR cF;go_wp2_with fail
 refine(aC0 HT.out ?_);rintro r w3 ⟨rfl,hbk,hB3⟩;have b7:Hid _:=hbk;have bX:Hid _:=(bS.out.mono (aH2 aG.out.lt)).trans hB3;clear hbk hB3 HT;go_wp2_with fail
 refine(aC0 (b8 _ _).out ?_);rintro r w4 ⟨rfl,hw⟩;rw[hw];clear hw w4;go_wp2_with fail
 refine(aC0 (b8 _ _).out ?_);rintro r w4 ⟨rfl,hw⟩;rw[hw];clear hw w4;go_wp2;go_ret;obtain⟨aL,aE,h1,h2⟩:=b7.out;exact⟨rfl,⟨N+1,aL,aE,h1,by omega,by omega⟩,bX.out⟩
theorem ME(hb:Bk w B N v1 v2 es is)(hp:jB w p n s L)(hN:N<=2000000000000)(hn:es.length<=5500000000000)(h f l t x1 x2 y1 y2 z1 z2:Int)(q:ByteArray):
 Calls Tryz.prog 8 #[.pointer (some ⟨B,0,none⟩),.pointer (some ⟨p,0,none⟩),.agg #[.int .i64 2,.int .i64 h,.int .i64 f,.int .i64 l,.int .i64 t,.int .i64 x1,.int .i64 x2,.int .i64 y1,.int .i64 y2,.int .i64 z1,.int .i64 z2,.string q]] w (bZ B N v2 es is w):=by
 obtain⟨W0,a3⟩:∃ W0,W0=w.alloc (.cells #[.int .i64 2,.int .i64 h,.int .i64 f,.int .i64 l,.int .i64 t,.int .i64 x1,.int .i64 x2,.int .i64 y1,.int .i64 y2,.int .i64 z1,.int .i64 z2,.string q] 42):=⟨_,rfl⟩;have hJ:Below w.heap.size w W0:=by rw[a3];exact aA _ _
 obtain⟨ga,gb,pa,pb,a5,vb,a6⟩:=hp.below hJ;have b0:=a5.bd;obtain⟨ac,cV,cP,_⟩:=id a6.ed;have hed:=a6.ed;have q2:=a6.ce;have HE:Hid (Calls Tryz.prog 13 _ W0 _):=KH a5;have HEd:Hid _:=hed;have aG:Hid _:=hb;have HJ:Hid _:=hJ;have hL2:=b0.2.2.2.2;clear hb hp hJ a5 a6 hed b0 cP;go_enter Tryz.func8,Tryz.ntmps8
 have k0:=pa;rw[a3]at k0;go_wp2_with fail
 rw[<-a3];have cD:Hid _:=a3;clear a3;refine(aC0 HE.out ?_);rintro r w1 ⟨cC,rfl,hO1⟩;have j3:=cell_kept hO1.2 _ _ pb;have j4:=cell_kept hO1.2 _ _ q2;have HT:Hid (Calls Tryz.prog 14 _ w1 _):=sQ aG.out HJ.out hO1.2 (YQ _ _) hN hn cC vb L hO1.1 (aI.below HEd.out hO1.2) hL2;have bS:Hid _:=chain HJ.out hO1.2;clear hO1 HE k0 pa pb q2;go_wp2_with fail
 refine(aC0 HT.out ?_);rintro r w3 ⟨rfl,hbk,hB3⟩;have b7:Hid _:=hbk;have bX:Hid _:=(bS.out.mono (aH2 aG.out.lt)).trans hB3;clear hbk hB3 HT;go_wp2;go_ret;obtain⟨aL,aE,h1,h2⟩:=b7.out;exact⟨rfl,⟨N+1,aL,aE,h1,by omega,by omega⟩,bX.out⟩
end Go.Proofs.YtphjbbbnbmafnaaGreatDoor.G
namespace Go.Proofs.YtphjbbbnbmafnaaGreatDoor.OpenS
open Go.ChangeShapes Go.WideShapes Go.ChangeAt Go.RowKit Go.Proofs.YtphjbbbnbmafnaaGreatDoor.OpenE
theorem cellsP:Tryz.prog.cellsOf 40=2:=by kernel_rfl
theorem cellsT:Tryz.prog.cellsOf 42=12:=by kernel_rfl
theorem cellsR:Tryz.prog.cellsOf 9=1:=by kernel_rfl
theorem cellsZ:Tryz.prog.cellsOf 23=3:=by kernel_rfl
theorem aAg:Tryz.prog.bytesOf 42=104:=by kernel_rfl
theorem wf64{a:Int}(h:(Lit.int .i64 a).wf=true):G.i64 a:=by
 have : -9223372036854775808<=a/\a<=9223372036854775807:=by simpa[Lit.wf,IntKind.min,IntKind.max,IntKind.signed,IntKind.bits]using h
 exact this
section
variable {H:Type} {enc:TypeId×Value->H} {w:World} {base:Nat} {spare:Nat->Bool} {held:Bool} {fuel:Nat}
theorem two'{cs:List Value}(h:cs.length=2):∃ c0 c1,cs=[c0,c1]:=by
 match cs,h with
 | [c0,c1],_=>exact⟨c0,c1,rfl⟩
theorem twelve{cs:List Value}(h:cs.length=12):∃ c0 c1 c2 c3 c4 c5 c6 c7 c8 c9 c10 c11,cs=[c0,c1,c2,c3,c4,c5,c6,c7,c8,c9,c10,c11]:=by
 match cs,h with
 | [c0,c1,c2,c3,c4,c5,c6,c7,c8,c9,c10,c11],_=>exact⟨c0,c1,c2,c3,c4,c5,c6,c7,c8,c9,c10,c11,rfl⟩
theorem ints3{cs:List Value}{x:DataW H×List MemPlace}(h:DataW.trod enc Tryz.prog w base spare held fuel 38 cs=some x):∃ a0 a1 a2:Int,cs=[.int .i64 a0,.int .i64 a1,.int .i64 a2]/\G.i64 a0/\G.i64 a1/\G.i64 a2:=by
 obtain⟨xs,n,rfl,rfl,hl,hxl,hf⟩:=DataW.trod_struct Tryz.underlying38 h;rw[cellsE]at hl;obtain⟨c0,c1,c2,rfl⟩:=three hl;have hxl3:xs.length=3:=hxl;obtain⟨y0,hy0⟩:=some_at hxl3 (show 0<3 by decide);obtain⟨y1,hy1⟩:=some_at hxl3 (show 1<3 by decide);obtain⟨y2,hy2⟩:=some_at hxl3 (show 2<3 by decide);have h0 := (hf 0 { name := "From", type := 3, offset := 0, embedded := false, tag := "", pkgPath := "", byteOffset := 0 } (by simp)).trans hy0;have h1 := (hf 1 { name := "Label", type := 3, offset := 1, embedded := false, tag := "", pkgPath := "", byteOffset := 8 } (by simp)).trans hy1;have h2 := (hf 2 { name := "To", type := 3, offset := 2, embedded := false, tag := "", pkgPath := "", byteOffset := 16 } (by simp)).trans hy2;simp only[cellsI,List.drop_zero,List.drop_succ_cons,List.take_succ_cons,List.take_zero]at h0 h1 h2;obtain⟨a0,e0,_,w0⟩:=DataW.trod_int Tryz.underlying3 h0;obtain⟨a1,e1,_,w1⟩:=DataW.trod_int Tryz.underlying3 h1;obtain⟨a2,e2,_,w2⟩:=DataW.trod_int Tryz.underlying3 h2;simp only[List.cons.injEq,and_true]at e0 e1 e2;subst e0 e1 e2;exact⟨a0,a1,a2,rfl,wf64 w0,wf64 w1,wf64 w2⟩
theorem ints2{cs:List Value}{x:DataW H×List MemPlace}(h:DataW.trod enc Tryz.prog w base spare held fuel 40 cs=some x):∃ a0 a1:Int,cs=[.int .i64 a0,.int .i64 a1]:=by
 obtain⟨xs,n,rfl,rfl,hl,hxl,hf⟩:=DataW.trod_struct Tryz.underlying40 h;rw[cellsP]at hl;obtain⟨c0,c1,rfl⟩:=two' hl;have hxl2:xs.length=2:=hxl;obtain⟨y0,hy0⟩:=some_at hxl2 (show 0<2 by decide);obtain⟨y1,hy1⟩:=some_at hxl2 (show 1<2 by decide);have h0 := (hf 0 { name := "From", type := 3, offset := 0, embedded := false, tag := "", pkgPath := "", byteOffset := 0 } (by simp)).trans hy0;have h1 := (hf 1 { name := "To", type := 3, offset := 1, embedded := false, tag := "", pkgPath := "", byteOffset := 8 } (by simp)).trans hy1;simp only[cellsI,List.drop_zero,List.drop_succ_cons,List.take_succ_cons,List.take_zero]at h0 h1;obtain⟨a0,e0,_,_⟩:=DataW.trod_int Tryz.underlying3 h0;obtain⟨a1,e1,_,_⟩:=DataW.trod_int Tryz.underlying3 h1;simp only[List.cons.injEq,and_true]at e0 e1;subst e0 e1;exact⟨a0,a1,rfl⟩
theorem WQ{cs:List Value}{x:DataW H×List MemPlace}(h:DataW.trod enc Tryz.prog w base spare held fuel 23 cs=some x):∃ a0 a1 a2:Int,cs=[.int .i64 a0,.int .i64 a1,.int .i64 a2]:=by
 obtain⟨xs,n,rfl,rfl,hl,hxl,hf⟩:=DataW.trod_struct Tryz.underlying23 h;rw[cellsZ]at hl;obtain⟨c0,c1,c2,rfl⟩:=three hl;have hxl3:xs.length=3:=hxl;obtain⟨y0,hy0⟩:=some_at hxl3 (show 0<3 by decide);obtain⟨y1,hy1⟩:=some_at hxl3 (show 1<3 by decide);obtain⟨y2,hy2⟩:=some_at hxl3 (show 2<3 by decide);have h0 := (hf 0 { name := "Nodes", type := 3, offset := 0, embedded := false, tag := "", pkgPath := "", byteOffset := 0 } (by simp)).trans hy0;have h1 := (hf 1 { name := "Labels", type := 3, offset := 1, embedded := false, tag := "", pkgPath := "", byteOffset := 8 } (by simp)).trans hy1;have h2 := (hf 2 { name := "Edges", type := 3, offset := 2, embedded := false, tag := "", pkgPath := "", byteOffset := 16 } (by simp)).trans hy2;simp only[cellsI,List.drop_zero,List.drop_succ_cons,List.take_succ_cons,List.take_zero]at h0 h1 h2;obtain⟨a0,e0,_,_⟩:=DataW.trod_int Tryz.underlying3 h0;obtain⟨a1,e1,_,_⟩:=DataW.trod_int Tryz.underlying3 h1;obtain⟨a2,e2,_,_⟩:=DataW.trod_int Tryz.underlying3 h2;simp only[List.cons.injEq,and_true]at e0 e1 e2;subst e0 e1 e2;exact⟨a0,a1,a2,rfl⟩
def A8(st:G.Sp):List Value:=[.int .i64 st.k,.int .i64 st.h,.int .i64 st.f,.int .i64 st.l,.int .i64 st.t,.int .i64 st.x1,.int .i64 st.x2,.int .i64 st.y1,.int .i64 st.y2,.int .i64 st.z1,.int .i64 st.z2,.string st.q]
theorem YR{cs:List Value}{x:DataW H×List MemPlace}(h:DataW.trod enc Tryz.prog w base spare held fuel 42 cs=some x):∃ st:G.Sp,cs=A8 st/\G.i64 st.f/\G.i64 st.l/\G.i64 st.t/\st.q.size<=9223372036854775807:=by
 obtain⟨xs,n,rfl,rfl,hl,hxl,hf⟩:=DataW.trod_struct Tryz.underlying42 h;rw[cellsT]at hl;obtain⟨c0,c1,c2,c3,c4,c5,c6,c7,c8,c9,c10,c11,rfl⟩:=twelve hl;have hxl7:xs.length=7:=hxl;obtain⟨y0,hy0⟩:=some_at hxl7 (show 0<7 by decide);obtain⟨y1,hy1⟩:=some_at hxl7 (show 1<7 by decide);obtain⟨y2,hy2⟩:=some_at hxl7 (show 2<7 by decide);obtain⟨y3,hy3⟩:=some_at hxl7 (show 3<7 by decide);obtain⟨y4,hy4⟩:=some_at hxl7 (show 4<7 by decide);obtain⟨y5,hy5⟩:=some_at hxl7 (show 5<7 by decide);obtain⟨y6,hy6⟩:=some_at hxl7 (show 6<7 by decide);have h0 := (hf 0 { name := "Kind", type := 3, offset := 0, embedded := false, tag := "", pkgPath := "", byteOffset := 0 } (by simp)).trans hy0;have h1 := (hf 1 { name := "H", type := 3, offset := 1, embedded := false, tag := "", pkgPath := "", byteOffset := 8 } (by simp)).trans hy1;have h2 := (hf 2 { name := "E", type := 38, offset := 2, embedded := false, tag := "", pkgPath := "", byteOffset := 16 } (by simp)).trans hy2;have h3 := (hf 3 { name := "X", type := 40, offset := 5, embedded := false, tag := "", pkgPath := "", byteOffset := 40 } (by simp)).trans hy3;have h4 := (hf 4 { name := "Y", type := 40, offset := 7, embedded := false, tag := "", pkgPath := "", byteOffset := 56 } (by simp)).trans hy4;have h5 := (hf 5 { name := "Z", type := 40, offset := 9, embedded := false, tag := "", pkgPath := "", byteOffset := 72 } (by simp)).trans hy5;have h6 := (hf 6 { name := "Q", type := 9, offset := 11, embedded := false, tag := "", pkgPath := "", byteOffset := 88 } (by simp)).trans hy6;simp only[cellsI,cellsE,cellsP,cellsR,List.drop_zero,List.drop_succ_cons,List.take_succ_cons,List.take_zero]at h0 h1 h2 h3 h4 h5 h6;obtain⟨k,e0,_,_⟩:=DataW.trod_int Tryz.underlying3 h0;obtain⟨hh,e1,_,_⟩:=DataW.trod_int Tryz.underlying3 h1;obtain⟨f,l,t,e2,w0,w1,w2⟩:=ints3 h2;obtain⟨x1,x2,e3⟩:=ints2 h3;obtain⟨y1',y2',e4⟩:=ints2 h4;obtain⟨z1,z2,e5⟩:=ints2 h5;obtain⟨q,e6,_,wq⟩:=DataW.trod_string Tryz.underlying9 h6;simp only[List.cons.injEq,and_true]at e0 e1 e2 e3 e4 e5 e6;obtain⟨rfl,rfl,rfl⟩:=e2;obtain⟨rfl,rfl⟩:=e3;obtain⟨rfl,rfl⟩:=e4;obtain⟨rfl,rfl⟩:=e5;subst e0 e1 e6;exact⟨⟨k,hh,f,l,t,x1,x2,y1',y2',z1,z2,q⟩,rfl,w0,w1,w2,Nat.le_trans wq (by unfold maxLen;omega)⟩
end
theorem NP{H:Type}{enc:TypeId×Value->H}{W:World}{a0:Option Addr}{len cap fuel:Nat}{x:DataW H×List MemPlace}(hf:DataW.trod enc Tryz.prog W 0 (fun _=>true) true fuel 25 [.slice a0 len cap]=some x):
 ∃ S:Nat->G.Sp,G.xU W a0 len S/\(len=0\/∃ elems spare,x.1 = .slice elems spare/\elems.length=len):=by
 rcases Deep.open_slice Tryz.underlying25 hf with ⟨hcs,_⟩ | ⟨a,l,c,m,n,D,Pl,hcs,_,hl,hm,hmm,hd,hx⟩
 ·simp only[aK0,Value.slice.injEq,and_true]at hcs;obtain⟨rfl,rfl,rfl⟩:=hcs;exact⟨fun _=>⟨0,0,0,0,0,0,0,0,0,0,0,ByteArray.empty⟩,fun i hi=>by omega,.inl rfl⟩
 ·simp only[aK0,Value.slice.injEq,and_true]at hcs;obtain⟨rfl,rfl,rfl⟩:=hcs;simp only[if_true]at hmm;subst hmm;rw[cellsT]at hx;have cW:∀ i,∃ st:G.Sp,i<len->(W.cells? 0 (a.add (i*12)) 12=some (A8 st)/\G.i64 st.f/\G.i64 st.l/\G.i64 st.t/\st.q.size<=9223372036854775807):=fun i=>by
   by_cases hi:i<len
   ·obtain⟨cs,h1,h2⟩:=hx i (by omega);obtain⟨st,rfl,h3⟩:=YR h2;exact⟨st,fun _=>⟨h1,h3⟩⟩
   ·exact⟨⟨0,0,0,0,0,0,0,0,0,0,0,ByteArray.empty⟩,fun h=>absurd h hi⟩
  obtain⟨S,hS⟩:=Classical.axiomOfChoice cW;refine⟨S,fun i hi => ?_,.inr ⟨_,_,by rw[hd],by simp⟩⟩;obtain⟨h1,h3⟩:=hS i hi;refine⟨h3,?_⟩;obtain⟨_,h4,h5⟩:=World.cells?_some h1;have k0:=h5 0 (by decide);have k1:=h5 1 (by decide);have k2:=h5 2 (by decide);have k3:=h5 3 (by decide);have k4:=h5 4 (by decide);have k5:=h5 5 (by decide);have k6:=h5 6 (by decide);have k7:=h5 7 (by decide);have k8:=h5 8 (by decide);have k9:=h5 9 (by decide);have cB:=h5 10 (by decide);have cX:=h5 11 (by decide);obtain⟨b,off,spot⟩:=a;have cH:spot=none:=by
   have h0:=(World.cells?_some (hS 0 (by omega)).1).2.2 0 (by decide);simpa[Addr.add]using World.cell?_spot h0
  subst cH;refine⟨b,off,rfl,?_⟩;rw[G.addr_add]at k0 k1 k2 k3 k4 k5 k6 k7 k8 k9 cB cX;rw[G.addr_add]at k0 k1 k2 k3 k4 k5 k6 k7 k8 k9 cB cX;simp only[Nat.add_zero]at k0;rw[k0,k1,k2,k3,k4,k5,k6,k7,k8,k9,cB,cX];exact⟨rfl,rfl,rfl,rfl,rfl,rfl,rfl,rfl,rfl,rfl,rfl,rfl⟩
end Go.Proofs.YtphjbbbnbmafnaaGreatDoor.OpenS
