/- Parts: RefCount RefHas RefPages. -/
import Derived.Test.YtphjbbbnbmafnaaGreatDoorRefOut
import Derived.Deep.RegionHeld
import Derived.Test.YtphjbbbnbmafnaaGreatDoorExt
import Derived.Laws.StructEq
import Derived.Laws.Tables
import Derived.Laws.Cover2
import Derived.OwnWalk
set_option maxHeartbeats 8000000
set_option maxRecDepth 100000
namespace Go.Proofs.YtphjbbbnbmafnaaGreatDoor.G
open Go.RowKit
variable {w:World} {n s:Int} {v:Value} {l:List E3}
theorem yJ(x y n:Int)(w:World):
 Calls Tryz.prog 41 #[.agg #[.int .i64 x,.int .i64 y],.int .i64 n] w fun e w'=>e = .returned (.bool (decide (0<=x/\x<=y/\y<=n)))/\Below w.heap.size w w':=by
 by_cases h1:0<=x
 ·by_cases h2:x<=y
  ·by_cases h3:y<=n
   ·have HD:Hid _:=decide_eq_true (show 0<=x/\x<=y/\y<=n from⟨h1,h2,h3⟩);rw[HD.out];go_enter Tryz.func41,Tryz.ntmps41
    go_wp2;go_ret;exact⟨rfl,aA _ _⟩
   ·have HD:Hid _:=decide_eq_false (show ¬(0<=x/\x<=y/\y<=n)from fun h=>h3 h.2.2);rw[HD.out];go_enter Tryz.func41,Tryz.ntmps41
    go_wp2;go_ret;exact⟨rfl,aA _ _⟩
  ·have HD:Hid _:=decide_eq_false (show ¬(0<=x/\x<=y/\y<=n)from fun h=>h2 h.2.1);rw[HD.out];go_enter Tryz.func41,Tryz.ntmps41
   go_wp2;go_ret;exact⟨rfl,aA _ _⟩
 ·have HD:Hid _:=decide_eq_false (show ¬(0<=x/\x<=y/\y<=n)from fun h=>h1 h.1);rw[HD.out];go_enter Tryz.func41,Tryz.ntmps41
  go_wp2;go_ret;exact⟨rfl,aA _ _⟩
theorem O3(n x y:Int)(w:World):
 Calls Tryz.prog 42 #[.int .i64 n,.agg #[.int .i64 x,.int .i64 y]] w fun e w'=>e = .returned (.bool (decide (x<=n/\n<y)))/\Below w.heap.size w w':=by
 by_cases h1:x<=n
 ·by_cases h2:n<y
  ·have HD:Hid _:=decide_eq_true (show x<=n/\n<y from⟨h1,h2⟩);rw[HD.out];go_enter Tryz.func42,Tryz.ntmps42
   go_wp2;go_ret;exact⟨rfl,aA _ _⟩
  ·have HD:Hid _:=decide_eq_false (show ¬(x<=n/\n<y)from fun h=>h2 h.2);rw[HD.out];go_enter Tryz.func42,Tryz.ntmps42
   go_wp2;go_ret;exact⟨rfl,aA _ _⟩
 ·have HD:Hid _:=decide_eq_false (show ¬(x<=n/\n<y)from fun h=>h1 h.1);rw[HD.out];go_enter Tryz.func42,Tryz.ntmps42
  go_wp2;go_ret;exact⟨rfl,aA _ _⟩
structure QT (w:World) (X:Nat) (a b c d e f:Int):Prop where
 c0:w.cell? ⟨X,0,none⟩=some (.int .i64 a)
 c1:w.cell? ⟨X,1,none⟩=some (.int .i64 b)
 c2:w.cell? ⟨X+1,0,none⟩=some (.int .i64 c)
 c3:w.cell? ⟨X+1,1,none⟩=some (.int .i64 d)
 c4:w.cell? ⟨X+1+1,0,none⟩=some (.int .i64 e)
 c5:w.cell? ⟨X+1+1,1,none⟩=some (.int .i64 f)
theorem QT.below{w':World}{X:Nat}{a b c d e f:Int}(h:QT w X a b c d e f)(hB:Below w.heap.size w w'):QT w' X a b c d e f :=
 ⟨cell_kept hB _ _ h.c0,cell_kept hB _ _ h.c1,cell_kept hB _ _ h.c2,cell_kept hB _ _ h.c3,cell_kept hB _ _ h.c4,cell_kept hB _ _ h.c5⟩
theorem QF(w:World)(a b c d e f:Int)(t:TypeId):QT (((w.alloc (.cells #[.int .i64 a,.int .i64 b] t)).alloc (.cells #[.int .i64 c,.int .i64 d] t)).alloc (.cells #[.int .i64 e,.int .i64 f] t)) w.heap.size a b c d e f:=by
 have hs1:(w.alloc (.cells #[.int .i64 a,.int .i64 b] t)).heap.size=w.heap.size+1:=by simp
 have hs2:((w.alloc (.cells #[.int .i64 a,.int .i64 b] t)).alloc (.cells #[.int .i64 c,.int .i64 d] t)).heap.size=w.heap.size+1+1:=by simp
 have n1:(w.alloc (.cells #[.int .i64 a,.int .i64 b] t)).cell? ⟨w.heap.size,0,none⟩=some (.int .i64 a)/\(w.alloc (.cells #[.int .i64 a,.int .i64 b] t)).cell? ⟨w.heap.size,1,none⟩=some (.int .i64 b):=by constructor <;> simp
 generalize w.alloc (.cells #[.int .i64 a,.int .i64 b] t)=w1 at *;have n2:(w1.alloc (.cells #[.int .i64 c,.int .i64 d] t)).cell? ⟨w1.heap.size,0,none⟩=some (.int .i64 c)/\(w1.alloc (.cells #[.int .i64 c,.int .i64 d] t)).cell? ⟨w1.heap.size,1,none⟩=some (.int .i64 d):=by constructor <;> simp
 have hb1:=aA w1 (.cells #[.int .i64 c,.int .i64 d] t);generalize w1.alloc (.cells #[.int .i64 c,.int .i64 d] t)=w2 at *;have n3:(w2.alloc (.cells #[.int .i64 e,.int .i64 f] t)).cell? ⟨w2.heap.size,0,none⟩=some (.int .i64 e)/\(w2.alloc (.cells #[.int .i64 e,.int .i64 f] t)).cell? ⟨w2.heap.size,1,none⟩=some (.int .i64 f):=by constructor <;> simp
 have aL:=aA w2 (.cells #[.int .i64 e,.int .i64 f] t);rw[hs1]at n2;rw[hs2]at n3;exact⟨cell_kept aL _ _ (cell_kept hb1 _ _ n1.1),cell_kept aL _ _ (cell_kept hb1 _ _ n1.2),cell_kept aL _ _ n2.1,cell_kept aL _ _ n2.2,n3.1,n3.2⟩
theorem aBd(w:World)(x y z:Obj):Below w.heap.size w (((w.alloc x).alloc y).alloc z):=(jJ w x y).alloc (by simp;omega) _
def BI(l:List E3)(a b c d e f:Int)(k:Nat):Nat:=((l.take k).filter (fun x=>decide (a<=x.1/\x.1<b)&&(decide (c<=x.2.1/\x.2.1<d)&&decide (e<=x.2.2/\x.2.2<f)))).length
theorem CS{g0:Nat}(hg:dR w g0 n s v l)(hl:l.length<=1000000)(a b c d e f:Int)(P Q R:Bool)(hP:decide (0<=a/\a<=b/\b<=n)=P)(hQ:decide (0<=c/\c<=d/\d<=s)=Q)(hR:decide (0<=e/\e<=f/\f<=n)=R):
 Calls Tryz.prog 23 #[.pointer (some ⟨g0,0,none⟩),.agg #[.int .i64 a,.int .i64 b],.agg #[.int .i64 c,.int .i64 d],.agg #[.int .i64 e,.int .i64 f]] w fun x w'=>x = .returned (.tuple #[.int .i64 (if P&&(Q&&R)then (BI l a b c d e f l.length:Int)else 0),.int .i64 (if P&&(Q&&R)then 0 else 1)])/\Below w.heap.size w w':=by
 have HW1:Hid (∀ w2,Calls Tryz.prog 41 #[.agg #[.int .i64 a,.int .i64 b],.int .i64 n] w2 fun x w'=>x = .returned (.bool P)/\Below w2.heap.size w2 w'):=fun w2=>by rw[<-hP];exact yJ a b n w2
 have HW2:Hid (∀ w2,Calls Tryz.prog 41 #[.agg #[.int .i64 c,.int .i64 d],.int .i64 s] w2 fun x w'=>x = .returned (.bool Q)/\Below w2.heap.size w2 w'):=fun w2=>by rw[<-hQ];exact yJ c d s w2
 have HW3:Hid (∀ w2,Calls Tryz.prog 41 #[.agg #[.int .i64 e,.int .i64 f],.int .i64 n] w2 fun x w'=>x = .returned (.bool R)/\Below w2.heap.size w2 w'):=fun w2=>by rw[<-hR];exact yJ e f n w2
 have a4:=aBd w (.cells #[.int .i64 a,.int .i64 b] 40) (.cells #[.int .i64 c,.int .i64 d] 40) (.cells #[.int .i64 e,.int .i64 f] 40);have cF:=QF w a b c d e f 40;have a6:=hg.below a4;have h0:=a6.cn;have h1:=a6.cs;obtain⟨k0,k1,k2,k3,k4,k5⟩:=id cF;have HG:Hid (dR w g0 n s v l):=hg;have HB:Hid _:=a4;have HX:Hid _:=cF;clear hg a6 a4 cF hP hQ hR;go_enter Tryz.func23,Tryz.ntmps23
 go_wp2;go_region_held (fun w'=>w'.cell? ⟨w.heap.size,0,none⟩=some (.int .i64 a)/\w'.cell? ⟨w.heap.size,1,none⟩=some (.int .i64 b)/\w'.cell? ⟨g0,0,none⟩=some (.int .i64 n)) (go_keep) (first
  | (go_at_call 41;refine(HW1.out _).mono ?_;rintro x w1 ⟨rfl,hB1⟩;have q0:=cell_kept hB1 ⟨w.heap.size,0,none⟩ (.int .i64 a) k0;have q1:=cell_kept hB1 ⟨w.heap.size,1,none⟩ (.int .i64 b) k1;have q2:=cell_kept hB1 ⟨g0,0,none⟩ (.int .i64 n) h0))
 have b3:=HX.out.below ((YQ _ _).drew.trans hB1);have a6:=(HG.out.below HB.out).below ((YQ _ _).drew.trans hB1);have b9:Hid _:=chain (HB.out.drew) hB1;clear k0 k1 k2 k3 k4 k5 h0 h1 hB1 q0 q1 q2;obtain⟨k0,k1,k2,k3,k4,k5⟩:=id b3;have h1:=a6.cs;have HX1:Hid _:=b3;have HG1:Hid _:=a6;clear b3 a6;go_wp2;go_region_held (fun w'=>w'.cell? ⟨w.heap.size+1,0,none⟩=some (.int .i64 c)/\w'.cell? ⟨w.heap.size+1,1,none⟩=some (.int .i64 d)/\w'.cell? ⟨g0,1,none⟩=some (.int .i64 s)) (go_keep) (first
  | (go_at_call 41;refine(HW2.out _).mono ?_;rintro x w2 ⟨rfl,hB2⟩;have q0:=cell_kept hB2 ⟨w.heap.size+1,0,none⟩ (.int .i64 c) k2;have q1:=cell_kept hB2 ⟨w.heap.size+1,1,none⟩ (.int .i64 d) k3;have q2:=cell_kept hB2 ⟨g0,1,none⟩ (.int .i64 s) h1))
 have b4:=HX1.out.below ((YQ _ _).drew.trans hB2);have b1:=HG1.out.below ((YQ _ _).drew.trans hB2);have bS:Hid _:=chain (b9.out.drew) hB2;clear k0 k1 k2 k3 k4 k5 h1 hB2 q0 q1 q2;obtain⟨k0,k1,k2,k3,k4,k5⟩:=id b4;have h0:=b1.cn;have HX2:Hid _:=b4;have HG2:Hid _:=b1;clear b4 b1;go_wp2;go_region_held (fun w'=>w'.cell? ⟨w.heap.size+1+1,0,none⟩=some (.int .i64 e)/\w'.cell? ⟨w.heap.size+1+1,1,none⟩=some (.int .i64 f)/\w'.cell? ⟨g0,0,none⟩=some (.int .i64 n)) (go_keep) (first
  | (go_at_call 41;refine(HW3.out _).mono ?_;rintro x w3 ⟨rfl,hB3⟩;have q0:=cell_kept hB3 ⟨w.heap.size+1+1,0,none⟩ (.int .i64 e) k4;have q1:=cell_kept hB3 ⟨w.heap.size+1+1,1,none⟩ (.int .i64 f) k5;have q2:=cell_kept hB3 ⟨g0,0,none⟩ (.int .i64 n) h0))
 have hx3:=HX2.out.below ((YQ _ _).drew.trans hB3);have hg3:=HG2.out.below ((YQ _ _).drew.trans hB3);have cB:Hid (Below w.heap.size w w3):=chain (bS.out.drew) hB3;have HX3:Hid (QT w3 w.heap.size a b c d e f):=hx3;have HG3:Hid (dR w3 g0 n s v l):=hg3;clear k0 k1 k2 k3 k4 k5 h0 hB3 q0 q1 q2 hx3 hg3 HX2 HG2 HX1 HG1 HX HG HB b9 bS HW1 HW2 HW3;cases P
 ·go_wp2;go_ret2;exact⟨rfl,cB.out⟩
 cases Q
 ·go_wp2;go_ret2;exact⟨rfl,cB.out⟩
 cases R
 ·go_wp2;go_ret2;exact⟨rfl,cB.out⟩
 obtain⟨a0,cap,hve,bX⟩:=id HG3.out.ed;subst hve;have HE:Hid _:=bX;have a3:=HG3.out.ce;have HCE:Hid _:=a3;clear bX;go_wp2;go_loopw [13,14] (fun sn si wr=>∃ i m:Nat,i<=l.length/\si = .int .i64 (i:Int)/\sn = .int .i64 (m:Int)/\m<=i/\Hid (m=BI l a b c d e f i)/\Below w3.heap.size w3 wr) (fun _ si _=>l.length-(intOf si).toNat)
 case atStart=>exact⟨0,0,aC6 _,rfl,rfl,V7 _,(by simp[BI]:0=BI l a b c d e f 0),YQ _ _⟩
 case round =>
  clear a3;obtain⟨i,m,hil,rfl,rfl,hmi,HM,a1⟩:=hrel;have a3:=cell_kept a1 _ _ HCE.out;by_cases hlt:i<l.length
  ·obtain⟨x,hx⟩:∃ x,l[i]?=some x:=⟨l[i],A7 hlt⟩;obtain⟨gg,off,rfl,c0,c1,c2⟩:=HE.out i x hx;have hiI:(i:Int)<(l.length:Int):=by omega
   have hN:BI l a b c d e f (i+1)=m+(decide (a<=x.1/\x.1<b)&&(decide (c<=x.2.1/\x.2.1<d)&&decide (e<=x.2.2/\x.2.2<f))).toNat:=by
    rw[HM.out];unfold BI;rw[nS hx,WT];congr 1;cases (decide (a<=x.1/\x.1<b)&&(decide (c<=x.2.1/\x.2.1<d)&&decide (e<=x.2.2/\x.2.2<f))) <;> rfl
   obtain⟨x1,x2,x3⟩:=x;simp only at c0 c1 c2 hN;have HI0:Hid (∀ w2,Calls Tryz.prog 42 _ w2 _):=fun w2=>O3 x1 a b w2;have HI1:Hid (∀ w2,Calls Tryz.prog 42 _ w2 _):=fun w2=>O3 x2 c d w2;have HI2:Hid (∀ w2,Calls Tryz.prog 42 _ w2 _):=fun w2=>O3 x3 e f w2;generalize decide (a<=x1/\x1<b)=X at hN HI0;generalize decide (c<=x2/\x2<d)=Y at hN HI1;generalize decide (e<=x3/\x3<f)=Z at hN HI2;have HN:Hid _:=hN;have d0:=cell_kept a1 _ _ c0;have d1:=cell_kept a1 _ _ c1;have d2:=cell_kept a1 _ _ c2;have cM:=HX3.out.below a1;obtain⟨k0,k1,k2,k3,k4,k5⟩:=id cM;have a7:Hid _:=cM;have a5:Hid (Below w3.heap.size w3 wr):=a1;clear hN c0 c1 c2 hx cM a1 HM;go_wp2;go_region_held (fun w'=>w'.cell? ⟨g0,2,none⟩=some (.slice (some ⟨gg,off,none⟩) l.length cap)/\w'.cell? ⟨gg,off+i*3,none⟩=some (.int .i64 x1)/\w'.cell? ⟨w.heap.size,0,none⟩=some (.int .i64 a)/\w'.cell? ⟨w.heap.size,1,none⟩=some (.int .i64 b)) (go_keep) (first
    | (go_at_call 42;refine(HI0.out _).mono ?_;rintro x wa0 ⟨rfl,hA⟩;have q0:=cell_kept hA ⟨g0,2,none⟩ (.slice (some ⟨gg,off,none⟩) l.length cap) a3;have q1:=cell_kept hA ⟨gg,off+i*3,none⟩ (.int .i64 x1) d0;have q2:=cell_kept hA ⟨w.heap.size,0,none⟩ (.int .i64 a) k0;have q3:=cell_kept hA ⟨w.heap.size,1,none⟩ (.int .i64 b) k1))
   have cJ:=a7.out.below ((YQ _ _).drew.trans hA);have HT0:Hid _:=a5.out.trans (((YQ _ _).drew.trans hA).mono a5.out.size);have a9:=cell_kept ((YQ _ _).drew.trans hA) _ _ d0;have aE:=cell_kept ((YQ _ _).drew.trans hA) _ _ d1;have aG:=cell_kept ((YQ _ _).drew.trans hA) _ _ d2;have a2:=cell_kept ((YQ _ _).drew.trans hA) _ _ a3;clear k0 k1 k2 k3 k4 k5 d0 d1 d2 a3 hA q0 q1 q2 q3 a7 a5;obtain⟨k0,k1,k2,k3,k4,k5⟩:=id cJ;have a7:Hid _:=cJ;have a5:Hid (Below w3.heap.size w3 wa0):=HT0.out;have d0:=a9;have d1:=aE;have d2:=aG;have a3:=a2;clear cJ HT0 a9 aE aG a2;go_wp2;go_region_held (fun w'=>w'.cell? ⟨g0,2,none⟩=some (.slice (some ⟨gg,off,none⟩) l.length cap)/\w'.cell? ⟨gg,off+i*3+1,none⟩=some (.int .i64 x2)/\w'.cell? ⟨w.heap.size+1,0,none⟩=some (.int .i64 c)/\w'.cell? ⟨w.heap.size+1,1,none⟩=some (.int .i64 d)) (go_keep) (first
    | (go_at_call 42;refine(HI1.out _).mono ?_;rintro x wa1 ⟨rfl,hA⟩;have q0:=cell_kept hA ⟨g0,2,none⟩ (.slice (some ⟨gg,off,none⟩) l.length cap) a3;have q1:=cell_kept hA ⟨gg,off+i*3+1,none⟩ (.int .i64 x2) d1;have q2:=cell_kept hA ⟨w.heap.size+1,0,none⟩ (.int .i64 c) k2;have q3:=cell_kept hA ⟨w.heap.size+1,1,none⟩ (.int .i64 d) k3))
   have b3:=a7.out.below ((YQ _ _).drew.trans hA);have b9:Hid _:=a5.out.trans (((YQ _ _).drew.trans hA).mono a5.out.size);have a9:=cell_kept ((YQ _ _).drew.trans hA) _ _ d0;have aE:=cell_kept ((YQ _ _).drew.trans hA) _ _ d1;have aG:=cell_kept ((YQ _ _).drew.trans hA) _ _ d2;have a2:=cell_kept ((YQ _ _).drew.trans hA) _ _ a3;clear k0 k1 k2 k3 k4 k5 d0 d1 d2 a3 hA q0 q1 q2 q3 a7 a5;obtain⟨k0,k1,k2,k3,k4,k5⟩:=id b3;have a7:Hid _:=b3;have a5:Hid (Below w3.heap.size w3 wa1):=b9.out;have d0:=a9;have d1:=aE;have d2:=aG;have a3:=a2;clear b3 b9 a9 aE aG a2;go_wp2;go_region_held (fun w'=>w'.cell? ⟨g0,2,none⟩=some (.slice (some ⟨gg,off,none⟩) l.length cap)/\w'.cell? ⟨gg,off+i*3+2,none⟩=some (.int .i64 x3)/\w'.cell? ⟨w.heap.size+1+1,0,none⟩=some (.int .i64 e)/\w'.cell? ⟨w.heap.size+1+1,1,none⟩=some (.int .i64 f)) (go_keep) (first
    | (go_at_call 42;refine(HI2.out _).mono ?_;rintro x wa2 ⟨rfl,hA⟩;have q0:=cell_kept hA ⟨g0,2,none⟩ (.slice (some ⟨gg,off,none⟩) l.length cap) a3;have q1:=cell_kept hA ⟨gg,off+i*3+2,none⟩ (.int .i64 x3) d2;have q2:=cell_kept hA ⟨w.heap.size+1+1,0,none⟩ (.int .i64 e) k4;have q3:=cell_kept hA ⟨w.heap.size+1+1,1,none⟩ (.int .i64 f) k5))
   have b4:=a7.out.below ((YQ _ _).drew.trans hA);have bS:Hid _:=a5.out.trans (((YQ _ _).drew.trans hA).mono a5.out.size);have a9:=cell_kept ((YQ _ _).drew.trans hA) _ _ d0;have aE:=cell_kept ((YQ _ _).drew.trans hA) _ _ d1;have aG:=cell_kept ((YQ _ _).drew.trans hA) _ _ d2;have a2:=cell_kept ((YQ _ _).drew.trans hA) _ _ a3;clear k0 k1 k2 k3 k4 k5 d0 d1 d2 a3 hA q0 q1 q2 q3 a7 a5;obtain⟨k0,k1,k2,k3,k4,k5⟩:=id b4;have a7:Hid _:=b4;have a5:Hid (Below w3.heap.size w3 wa2):=bS.out;have d0:=a9;have d1:=aE;have d2:=aG;have a3:=a2;clear b4 bS a9 aE aG a2;cases X <;> cases Y <;> cases Z;all_goals
    have hN:=HN.out;simp at hN;have HN2:Hid _:=hN.symm;clear hN HN;go_wp2;go_roundw;case rel=>first | exact⟨i+1,m,by omega,by go_num,rfl,by omega,HN2.out,a5.out⟩ | exact⟨i+1,m+1,by omega,by go_num,by go_num,by omega,HN2.out,a5.out⟩
    case measure=>simp[intOf];omega
  ·obtain rfl:i=l.length:=by omega
   go_wp2;go_ret2;exact⟨by rw[<-HM.out];rfl,chain cB.out a1⟩
theorem RH{b:Nat}(hg:dR w b n s v l)(hl:l.length<=1000000)(f c t:Int):
 Calls Tryz.prog 21 #[.pointer (some ⟨b,0,none⟩),.agg #[.int .i64 f,.int .i64 c,.int .i64 t]] w fun e w'=>e = .returned (.tuple #[.bool (decide (0<=f/\f<n/\0<=c/\c<s/\0<=t/\t<n)&&decide ((f,c,t)∈l)),.int .i64 (if 0<=f/\f<n/\0<=c/\c<s/\0<=t/\t<n then 0 else 1)])/\Below w.heap.size w w':=by
 have a4:=aA w (.cells #[.int .i64 f,.int .i64 c,.int .i64 t] 38);have a6:=hg.below a4;have h0:=a6.cn;have h1:=a6.cs;have HW:Hid (∀ w2,Calls Tryz.prog 38 _ w2 _):=fun w2=>wF f c t n s w2;have HG:Hid (dR w b n s v l):=hg;have HB:Hid _:=a4;clear hg a6 a4;by_cases hin:0<=f/\f<n/\0<=c/\c<s/\0<=t/\t<n
 ·rw[decide_eq_true hin]at HW;rw[decide_eq_true hin,if_pos hin,Bool.true_and];clear hin;go_enter Tryz.func21,Tryz.ntmps21
  go_wp2;go_region_held (fun w'=>w'.cell? ⟨w.heap.size,0,none⟩=some (.int .i64 f)/\w'.cell? ⟨w.heap.size,1,none⟩=some (.int .i64 c)/\w'.cell? ⟨w.heap.size,2,none⟩=some (.int .i64 t)/\w'.cell? ⟨b,0,none⟩=some (.int .i64 n)/\w'.cell? ⟨b,1,none⟩=some (.int .i64 s)) (go_keep) (first
   | (go_at_call 38;refine(HW.out _).mono ?_;rintro e w' ⟨rfl,hB⟩;have q0:=cell_kept hB ⟨w.heap.size,0,none⟩ (.int .i64 f) (by simp);have q1:=cell_kept hB ⟨w.heap.size,1,none⟩ (.int .i64 c) (by simp);have q2:=cell_kept hB ⟨w.heap.size,2,none⟩ (.int .i64 t) (by simp);have q3:=cell_kept hB ⟨b,0,none⟩ (.int .i64 n) h0;have q4:=cell_kept hB ⟨b,1,none⟩ (.int .i64 s) h1))
  have aL:=chain (HB.out.drew) hB;have b1:=HG.out.below aL;obtain⟨a0,cap,rfl,bX⟩:=id b1.ed;have HE:Hid _:=bX;have a3:=b1.ce;have HB2:Hid _:=aL;clear bX b1 aL hB h0 h1 q3 q4;go_wp2;go_loopw [7] (fun si wr=>∃ i q:Nat,i<=l.length/\si = .int .i64 (i:Int)/\wr=w'.drewN q/\Hid (∀ x∈l.take i,x≠(f,c,t))) (fun si _=>l.length-(intOf si).toNat)
  case atStart=>exact⟨0,0,aC6 _,rfl,rfl,(fun x hx=>by simp at hx:∀ x∈l.take 0,x≠(f,c,t))⟩
  case round =>
   obtain⟨i,q,hil,rfl,rfl,HI⟩:=hrel;by_cases hlt:i<l.length
   ·obtain⟨x,hx⟩:∃ x,l[i]?=some x:=⟨l[i],A7 hlt⟩;obtain⟨g,off,rfl,c0,c1,c2⟩:=HE.out i x hx;have hiI:(i:Int)<(l.length:Int):=by omega
    obtain⟨x1,x2,x3⟩:=x;simp only at c0 c1 c2;have HX:Hid (l[i]?=some (x1,x2,x3)):=hx;clear hx;have gE:=guardE;by_cases hxe:(x1,x2,x3)=(f,c,t)
    ·have hEq:=EC x1 x2 x3 f c t true (decide_eq_true hxe);have HM:Hid (decide ((f,c,t)∈l)=true):=(decide_eq_true (by rw[<-hxe];exact aC3 HX.out):_=_);clear hxe;go_wp2;go_quiet (fail)
     go_wp2;go_ret2;exact⟨by rw[HM.out];rfl,below_drewN (below_drewN HB2.out _) _⟩
    ·have hEq:=EC x1 x2 x3 f c t false (decide_eq_false hxe);have HN:Hid (∀ x∈l.take (i+1),x≠(f,c,t)):=(fun x hx=>by
      rw[aE0,HX.out,aH4]at hx;rcases aC9.1 hx with h | h
      ·exact HI.out x h
      ·simp at h;rw[h];exact hxe:∀ x∈l.take (i+1),x≠(f,c,t))
     clear hxe;go_wp2;go_quiet (fail)
     go_wp2;go_roundw;case rel=>exact⟨i+1,_,by omega,by go_num,rfl,HN.out⟩
     case measure=>simp[intOf];omega
   ·obtain rfl:i=l.length:=by omega
    have HM:Hid (decide ((f,c,t)∈l)=false):=(decide_eq_false (fun h=>by
     have:=HI.out (f,c,t);rw[aE3]at this;exact this h rfl):_=_)
    go_wp2;go_ret2;exact⟨by rw[HM.out];rfl,below_drewN HB2.out _⟩
 ·rw[decide_eq_false hin]at HW;rw[decide_eq_false hin,if_neg hin,Bool.false_and];clear hin;go_enter Tryz.func21,Tryz.ntmps21
  go_wp2;go_region_held (fun w'=>w'.cell? ⟨w.heap.size,0,none⟩=some (.int .i64 f)/\w'.cell? ⟨w.heap.size,1,none⟩=some (.int .i64 c)/\w'.cell? ⟨w.heap.size,2,none⟩=some (.int .i64 t)/\w'.cell? ⟨b,0,none⟩=some (.int .i64 n)/\w'.cell? ⟨b,1,none⟩=some (.int .i64 s)) (go_keep) (first
   | (go_at_call 38;refine(HW.out _).mono ?_;rintro e w' ⟨rfl,hB⟩;have q0:=cell_kept hB ⟨w.heap.size,0,none⟩ (.int .i64 f) (by simp);have q1:=cell_kept hB ⟨w.heap.size,1,none⟩ (.int .i64 c) (by simp);have q2:=cell_kept hB ⟨w.heap.size,2,none⟩ (.int .i64 t) (by simp);have q3:=cell_kept hB ⟨b,0,none⟩ (.int .i64 n) h0;have q4:=cell_kept hB ⟨b,1,none⟩ (.int .i64 s) h1))
  go_wp2;go_ret2;exact⟨rfl,chain (HB.out.drew) hB⟩
end Go.Proofs.YtphjbbbnbmafnaaGreatDoor.G
namespace Go.Proofs.YtphjbbbnbmafnaaGreatDoor.G
open Go.RowKit
variable {c:Nat} {w:World} {l:List Nat}
theorem nU(a b:Nat)(ha:a<9223372036854775808)(hb:b<9223372036854775808):bits .xor .i64 (a:Int) (b:Int)=((a ^^^ b:Nat):Int):=by
 have hx:a ^^^ b<2 ^ 63:=Nat.xor_lt_two_pow (by omega) (by omega);show IntKind.i64.wrap ((BitVec.ofInt 64 (a:Int) ^^^ BitVec.ofInt 64 (b:Int)).toNat:Int)=_;rw[BitVec.toNat_xor];have e1:(BitVec.ofInt 64 (a:Int)).toNat=a:=by simp;omega
 have e2:(BitVec.ofInt 64 (b:Int)).toNat=b:=by simp;omega
 rw[e1,e2,aK6];omega
theorem A9(h1:2147483648<=c)(h2:c<4294967296):Crc.shift c=(2*c-4294967296) ^^^ Crc.poly:=by
 unfold Crc.shift;have hb:c.testBit 31=true:=by
  rw[aJ0];have:c / 2 ^ 31=1:=by omega
  rw[this];rfl
 rw[hb,if_pos rfl,show 2*c % 4294967296=2*c-4294967296 by omega]
theorem vG(h:c<2147483648):Crc.shift c=2*c:=by
 unfold Crc.shift;have hb:c.testBit 31=false:=Nat.testBit_lt_two_pow (by omega);rw[hb,if_neg (by decide),Nat.xor_zero];omega
def aAK(w:World)(v:Value)(l:List Nat):Prop:=∃ g off cap,v = .slice (some ⟨g,off,none⟩) l.length cap/\∀(j x:Nat),l[j]?=some x->w.cell? ⟨g,off+j,none⟩=some (.int .u8 (x:Int))
def valsB(l:List Nat):List Value:=l.map fun(x:Nat)=>Value.int .u8 (x:Int)
theorem Tryz.infoB:(Tryz.prog.info? 5).map (fun i=>(i.zero,i.size,i.bytes))=some (some (.int .u8 0),1,1):=by kernel_rfl
theorem addr_add(b off i:Nat):(⟨b,off,none⟩:Addr).add i=⟨b,off+i,none⟩:=by
 by_cases e:i=0
 ·subst e;simp[Addr.add]
 ·simp[Addr.add,e]
theorem U4(w:World)(a b c d:Value)(t:TypeId):(w.alloc (.cells #[a,b,c,d] t)).ownsRow w.heap.size t 1 (.slice (some ⟨w.heap.size,0,none⟩) 4 4) 4 [a,b,c,d]:=by
 refine⟨rfl,.inr ⟨w.heap.size,4,#[a,b,c,d],rfl,V7 _,?_,V7 _,by decide,rfl,rfl⟩⟩;show(w.heap.push _)[w.heap.size]?=_;simp
theorem CL{w':World}{g off:Nat}(hc:∀(j x:Nat),l[j]?=some x->w.cell? ⟨g,off+j,none⟩=some (.int .u8 (x:Int)))(hB:Below w.heap.size w w')(j:Nat)(u:Value)(h:(valsB l)[j]?=some u):w'.cell? ((⟨g,off,none⟩:Addr).add j)=some u:=by
 unfold valsB at h;rw[aD0]at h;cases hx:l[j]? with
 | none=>rw[hx]at h;cases h
 | some x =>
  rw[hx]at h;simp at h;rw[addr_add,<-h];exact cell_kept hB _ _ (hc j x hx)
theorem iA(l:List Nat)(u:Value)(h:u∈valsB l):u.oneCell'=true:=by
 unfold valsB at h;obtain⟨x,_,rfl⟩:=List.mem_map.1 h;rfl
theorem rV{B:Nat}{o:Obj}(h:B<=w.heap.size):B<=(w.alloc o).heap.size:=by simp;omega
theorem TK(p:Nat)(hp:p<=1000):[Value.int .u8 ((p:Int) / 16777216),.int .u8 ((p:Int) / 65536),.int .u8 ((p:Int) / 256),.int .u8 ((p:Int) % 256)]=valsB (Crc.be4 p):=by
 unfold valsB Crc.be4;simp only[aJ4,List.map_nil];rw[show((p / 16777216 % 256:Nat):Int)=(p:Int) / 16777216 by omega,show((p / 65536 % 256:Nat):Int)=(p:Int) / 65536 by omega,show((p / 256 % 256:Nat):Int)=(p:Int) / 256 by omega,show((p % 256:Nat):Int)=(p:Int) % 256 by omega]
theorem TD(c:Nat)(l:List Nat)(x:Nat):Crc.crc c (l++[x])=Crc.feed (Crc.crc c l) x:=by rw[Crc.crc_append];rfl
theorem JM{k x:Nat}(h:l[k]?=some x):Crc.crc c (l.take (k+1))=Crc.feed (Crc.crc c (l.take k)) x:=by
 rw[aE0,h,aH4,TD]
theorem oH(k c:Nat):Crc.shifts (k+1) c=Crc.shift (Crc.shifts k c):=by
 induction k generalizing c with
 | zero=>rfl
 | succ k ih =>
  have e:Crc.shifts (k+1+1) c=Crc.shifts (k+1) (Crc.shift c):=rfl;rw[e,ih];rfl
theorem BS(k c:Nat)(h:c<4294967296):Crc.shifts k c<4294967296:=by
 cases k with
 | zero=>exact h
 | succ k=>rw[oH];exact Crc.shift_lt _
theorem Q4(p:Nat)(page:List Nat)(v:Value)(w:World)(hp:p<=1000)(hlen2:page.length<=1000)(a8:aAK w v page)(hb:∀ x∈page,x<256):
 Calls Tryz.prog 60 #[.int .i64 (p:Int),v] w fun e w'=>e = .returned (.int .i64 (Crc.sumOf p page:Int))/\Below w.heap.size w w':=by
 obtain⟨g,off,cap,rfl,hc⟩:=a8;have HC:Hid _:=hc;have HB:Hid (∀ x∈Crc.be4 p++page,x<256):=(fun x hx=>by
  rcases aC9.1 hx with h | h
  ·simp[Crc.be4]at h;omega
  ·exact hb x h:∀ x∈Crc.be4 p++page,x<256)
 clear hc hb;obtain⟨i0,hi,c7,c8,cA⟩:=info_parts Tryz.infoB;go_enter Tryz.func60,Tryz.ntmps60
 go_wp2_with (at_builtin;refine wpList_append_own _ rfl _ _ 113 rfl w.heap.size 5 i0 (.int .u8 0) 1 1 Tryz.underlying113 hi c7 c8 cA rfl (by decide) _ _ _ rfl (U4 w _ _ _ _ _) ⟨g,off,none⟩ page.length cap (valsB page) rfl (by simp[valsB]) (CL HC.out (aA _ _)) (iA page) (by unfold maxLen;omega) (by omega) (rV (V7 _)) ?_;intro v' w2 hown hgrow hnil)
 have a1:Below w.heap.size w w2:=(aA w _).grown hgrow (rV (V7 _)) (fun j hj=>by cases hj;exact V7 _);rw[TK p hp,show valsB (Crc.be4 p)++valsB page=valsB (Crc.be4 p++page) by simp[valsB]]at hown;have hll:(Crc.be4 p++page).length=4+page.length:=by simp[Crc.be4];omega
 rcases hown.2 with ⟨_,h0⟩ | ⟨g2,cap2,cur,rfl,_⟩
 ·omega
 have HW:Hid (∀(k x:Nat),(Crc.be4 p++page)[k]?=some x->w2.cell? ⟨g2,k,none⟩=some (.int .u8 (x:Int))):=(fun k x hx=>by
  have hk:k<(Crc.be4 p++page).length:=by
   rcases aG5 k (Crc.be4 p++page).length with e | e
   ·exact e
   ·rw[aC7 e]at hx;cases hx
  rw[hown.cellAt k (by omega)];unfold valsB;rw[aD0,hx];rfl:∀(k x:Nat),(Crc.be4 p++page)[k]?=some x->w2.cell? ⟨g2,k,none⟩=some (.int .u8 (x:Int)))
 have HBe:Hid _:=a1;have HLL:Hid _:=hll;clear hown hgrow hnil a1 hll HC;go_wp2;go_loop [5,7] (fun sc si=>∃ k c:Nat,k<=4+page.length/\si = .int .i64 (k:Int)/\sc = .int .i64 (c:Int)/\c<4294967296/\Hid (c=Crc.crc 4294967295 ((Crc.be4 p++page).take k))) (fun _ si=>4+page.length-(intOf si).toNat)
 case atStart=>exact⟨0,4294967295,aC6 _,rfl,rfl,by decide,(rfl:4294967295=Crc.crc 4294967295 ((Crc.be4 p++page).take 0))⟩
 case round =>
  obtain⟨k,c,hk,rfl,rfl,hcl,HI⟩:=hrel;by_cases hlt:k<4+page.length
  ·obtain⟨x,hx⟩:∃ x,(Crc.be4 p++page)[k]?=some x:=⟨_,A7 (by rw[HLL.out];exact hlt)⟩;have hxb:=HB.out x (aC3 hx);have hcell:=HW.out k x hx;have hT:=JM (c:=4294967295) hx;rw[<-HI.out]at hT;have HT:Hid _:=hT;have hkI:(k:Int)<((4+page.length:Nat):Int):=by omega
   have hkI2:(k:Int)<4+(page.length:Int):=by omega
   have hxo:=nU c (x*16777216) (by omega) (by omega);have cL:bits BinOp.xor IntKind.i64 (c:Int) ((x:Int)*16777216)=((c ^^^ (x*16777216):Nat):Int):=by rw[<-hxo];congr 1
   have b5:c ^^^ (x*16777216)<4294967296:=Nat.xor_lt_two_pow (n:=32) hcl (by omega);clear hx hT hxo HI;generalize hy:c ^^^ (x*16777216)=y at cL b5;have HY:Hid (Crc.feed c x=Crc.shifts 8 y):=(by rw[<-hy];rfl:_=_);clear hy;go_wp2;go_loop [5,8] (fun sc sj=>∃ j d:Nat,j<=8/\sj = .int .i64 (j:Int)/\sc = .int .i64 (d:Int)/\d<4294967296/\Hid (d=Crc.shifts j y)) (fun _ sj=>8-(intOf sj).toNat)
   case atStart=>exact⟨0,y,aC6 _,rfl,rfl,b5,(rfl:y=Crc.shifts 0 y)⟩
   case round =>
    obtain⟨j,d,hj,rfl,rfl,hd,HD⟩:=hrel;by_cases hlt8:j<8
    ·have hS:=oH j y;rw[<-HD.out]at hS;have cD:=BS (j+1) y b5;by_cases hbig:2147483648<=d
     ·have hbI:(4294967296:Int)<=2*(d:Int):=by omega
      have hq:=nU (2*d-4294967296) 79764919 (by omega) (by decide);have hq2:bits BinOp.xor IntKind.i64 (2*(d:Int)-4294967296) 79764919=((2*d-4294967296 ^^^ 79764919:Nat):Int):=by rw[<-hq];congr 1;omega
      rw[A9 hbig hd]at hS;have HS:Hid ((2*d-4294967296 ^^^ 79764919)=Crc.shifts (j+1) y):=hS.symm;have hl2:(2*d-4294967296 ^^^ 79764919)<4294967296:=by rw[HS.out];exact cD
      clear hS hq cD;go_wp2;go_round;case rel=>exact⟨j+1,2*d-4294967296 ^^^ 79764919,by omega,by go_num,rfl,hl2,HS.out⟩
      case measure=>simp[intOf];omega
     ·have hbI:¬(4294967296:Int)<=2*(d:Int):=by omega
      rw[vG (by omega)]at hS;have HS:Hid (2*d=Crc.shifts (j+1) y):=hS.symm;clear hS cD;go_wp2;go_round;case rel=>exact⟨j+1,2*d,by omega,by go_num,by go_num,by omega,HS.out⟩
      case measure=>simp[intOf];omega
    ·obtain rfl:j=8:=by omega
     have HE:Hid (d=Crc.crc 4294967295 ((Crc.be4 p++page).take (k+1))):=(by rw[HD.out,HT.out,HY.out]:_=_);clear HD;go_wp2;go_round;case rel=>exact⟨k+1,d,by omega,by go_num,rfl,hd,HE.out⟩
     case measure=>simp[intOf];omega
  ·obtain rfl:k=4+page.length:=by omega
   have hE:=HI.out;rw[<-HLL.out,aE3]at hE;have hq:=nU c 4294967295 (by omega) (by decide);have HE:Hid ((c ^^^ 4294967295)=Crc.sumOf p page):=(by rw[hE];rfl:_=_);clear hE HI;go_wp2;go_ret;exact⟨R7 (by rw[<-HE.out];first | rfl | exact congrArg (Value.int IntKind.i64) hq),HBe.out⟩
end Go.Proofs.YtphjbbbnbmafnaaGreatDoor.G
namespace Go.Proofs.YtphjbbbnbmafnaaGreatDoor.G
open Go.RowKit
variable {w w2 wr:World} {v v':Value} {l m:List Nat}
def sub(l:List Bool)(a k:Nat):List Bool:=(List.range k).map fun i=>l.getD (a+i) false
theorem I9(l:List Bool)(a k:Nat):sub l a (k+1)=sub l a k++[l.getD (a+k) false]:=by unfold sub;rw[List.range_succ];simp
theorem lI(l:List Bool)(a k:Nat):(sub l a k).length=k:=by simp[sub]
def dE(l:List Bool)(p i:Nat):List Nat:=(List.range i).map fun k=>numOf (sub l (2016*p+8*k) 8)
theorem wD(l:List Bool)(p i:Nat):dE l p (i+1)=dE l p i++[numOf (sub l (2016*p+8*i) 8)]:=by unfold dE;rw[List.range_succ];simp
theorem bR(l:List Bool)(p i:Nat):(dE l p i).length=i:=by simp[dE]
theorem XR(l:List Bool)(a:Nat):numOf (sub l a 8)<256:=by
 have:=gW (sub l a 8);rw[lI]at this;exact this
theorem sI(l:List Bool)(p i x:Nat)(h:x∈dE l p i):x<256:=by
 unfold dE at h;obtain⟨k,_,rfl⟩:=List.mem_map.1 h;exact XR _ _
def whole(l:List Bool)(p:Nat):List Nat:=dE l p 252++Crc.be4 (Crc.sumOf p (dE l p 252))
def eQ(l:List Bool)(n:Nat):List Nat:=(List.range n).flatMap (whole l)
theorem kV(l:List Bool)(n:Nat):eQ l (n+1)=eQ l n++whole l n:=by unfold eQ;rw[List.range_succ];simp
theorem gK(l:List Bool)(n:Nat):(eQ l n).length=256*n:=by
 induction n with
 | zero=>rfl
 | succ n ih=>rw[kV,WT,ih];unfold whole;rw[WT,bR];simp[Crc.be4];omega
theorem UH(l:List Bool)(p x:Nat)(h:x∈whole l p):x<256:=by
 unfold whole at h;rcases aC9.1 h with h | h
 ·exact sI _ _ _ _ h
 ·simp[Crc.be4]at h;omega
theorem vK(l:List Bool)(n x:Nat)(h:x∈eQ l n):x<256:=by
 unfold eQ at h;obtain⟨p,_,hp⟩:=List.mem_flatMap.1 h;exact UH _ _ _ hp
theorem IK(l:List Bool)(i:Nat)(h:i<(txt l).size):((txt l)[i].toNat:Int)=48+((l.getD i false).toNat:Int):=by
 have h':=h;rw[bE]at h';have a:=aA5 (txt l) i h;have e:(txt l).data.toList[i]?=some (if l[i]then 49 else 48):=by simp[txt,h']
 rw[e]at a;simp only[aC5]at a;rw[<-a,aC1,A7 h'];cases l[i] <;> rfl
theorem own_below{w':World}{B:Nat}{e:TypeId}{n:Nat}{xs:List Value}(h:w.ownsRow B e 1 v n xs)(hB:Below w.heap.size w w'):w'.ownsRow B e 1 v n xs:=by
 refine⟨h.1,?_⟩;rcases h.2 with h0 | ⟨g,cap,cur,hv,hb,hg,r⟩
 ·exact .inl h0
 ·refine .inr ⟨g,cap,cur,hv,hb,?_,r⟩;rw[hB.block g (by
   rcases aG5 g w.heap.size with h | h
   ·exact h
   ·rw[Array.getElem?_eq_none h]at hg;cases hg)]
  exact hg
def RF(w:World)(wr:World)(v:Value)(l:List Nat):Prop:=wr.ownsRow w.heap.size 5 1 v l.length (valsB l)/\Below w.heap.size w wr
theorem fG(l m:List Nat):valsB (l++m)=valsB l++valsB m:=by simp[valsB]
theorem BV{o:Obj}(h:RF w wr v l)(hown:w2.ownsRow w.heap.size 5 1 v' (l.length+m.length) (valsB l++valsB m))(hg:(wr.alloc o).grownBy w2 v.ownBlock):RF w w2 v' (l++m):=by
 refine⟨by rw[fG,WT];exact hown,?_⟩;exact(h.2.alloc h.2.size o).grown hg (by have:=h.2.size;simp;omega) (fun j hj=>(h.1.lt j hj).1)
theorem MC(h:RF w wr v l)(hown:w2.ownsRow w.heap.size 5 1 v' (l.length+m.length) (valsB l++valsB m))(hg:wr.grownBy w2 v.ownBlock):RF w w2 v' (l++m):=by
 refine⟨by rw[fG,WT];exact hown,?_⟩;exact h.2.grown hg h.2.size (fun j hj=>(h.1.lt j hj).1)
theorem OX(h:RF w wr v l)(hl:l≠[]):aAK wr v l:=by
 rcases h.1.2 with ⟨_,h0⟩ | ⟨g,cap,cur,rfl,_⟩
 ·exact absurd (aI6.1 h0) hl
 ·refine⟨g,0,cap,rfl,fun j x hj => ?_⟩;have cG:j<l.length:=by
   rcases aG5 j l.length with e | e
   ·exact e
   ·rw[aC7 e]at hj;cases hj
  rw[aG1,h.1.cellAt j (by omega)];unfold valsB;rw[aD0,hj];rfl
theorem YW(w:World)(x:Nat)(t:TypeId)(j:Nat)(u:Value)(hj:(valsB [x])[j]?=some u):(w.alloc (.cells #[.int .u8 (x:Int)] t)).cell? ((⟨w.heap.size,0,none⟩:Addr).add j)=some u:=by
 match j,hj with
 | 0,hj=>simp[valsB]at hj;subst hj;simp[Addr.add]
theorem VA(w:World)(a b c d:Value)(t:TypeId)(j:Nat)(u:Value)(hj:[a,b,c,d][j]?=some u):(w.alloc (.cells #[a,b,c,d] t)).cell? ((⟨w.heap.size,0,none⟩:Addr).add j)=some u:=by
 match j,hj with
 | 0,hj=>simp at hj;subst hj;simp[Addr.add]
 | 1,hj=>simp at hj;subst hj;simp[Addr.add]
 | 2,hj=>simp at hj;subst hj;simp[Addr.add]
 | 3,hj=>simp at hj;subst hj;simp[Addr.add]
 | j+4,hj=>simp at hj
theorem GN(a b c d:Int)(u:Value)(hu:u∈[Value.int .u8 a,.int .u8 b,.int .u8 c,.int .u8 d]):u.oneCell'=true:=by
 simp at hu;rcases hu with rfl | rfl | rfl | rfl <;> rfl
theorem RQ(S:Nat)(h:S<4294967296):[Value.int .u8 ((S:Int) / 16777216),.int .u8 ((S:Int) / 65536 % 256),.int .u8 ((S:Int) / 256 % 256),.int .u8 ((S:Int) % 256)]=valsB (Crc.be4 S):=by
 unfold valsB Crc.be4;simp only[aJ4,List.map_nil];rw[show((S / 16777216 % 256:Nat):Int)=(S:Int) / 16777216 by omega,show((S / 65536 % 256:Nat):Int)=(S:Int) / 65536 % 256 by omega,show((S / 256 % 256:Nat):Int)=(S:Int) / 256 % 256 by omega,show((S % 256:Nat):Int)=(S:Int) % 256 by omega]
theorem SI(h:RF w wr v l)(hl:0<l.length)(hb:∀ x,x∈l->x<256):
 ∃ g off cap,v = .slice (some ⟨g,off,none⟩) l.length cap/\(convert 113 9 (.slice (some ⟨g,off,none⟩) l.length cap)).run Tryz.prog wr = .ok (.string ⟨(l.map UInt8.ofNat).toArray⟩) wr:=by
 obtain⟨g,off,cap,hv,hc⟩:=OX h (by intro e;rw[e]at hl;exact absurd hl (by decide));refine⟨g,off,cap,hv,?_⟩;have:=run_convert_bytes_back (P:=Tryz.prog) wr 113 9 5 ⟨g,off,none⟩ cap (l.map UInt8.ofNat) Tryz.underlying113 Tryz.underlying5 Tryz.underlying9 (fun j hj=>by
  have cG:j<l.length:=by simpa using hj
  rw[addr_add,hc j l[j] (A7 cG)];have hx:=hb l[j] (List.getElem_mem cG);simp only[List.getElem_map];congr 2;have:(UInt8.ofNat l[j]).toNat=l[j]:=by simp;omega
  rw[this])
 rw[aH6]at this;exact this
theorem QX(l:List Bool)(w:World)(h1:2016<=l.length)(h2:l.length<=2016000):
 Calls Tryz.prog 53 #[.string (txt l)] w fun e w'=>e = .returned (.string ⟨((eQ l (l.length / 2016)).map UInt8.ofNat).toArray⟩)/\Below w.heap.size w w':=by
 obtain⟨i0,hi,c7,c8,cA⟩:=info_parts Tryz.infoB;have hts:=bE l;go_enter Tryz.func53,Tryz.ntmps53
 go_wp2;go_loopw [3,4] (fun so sp wr=>∃ p:Nat,p<=l.length / 2016/\sp = .int .i64 (p:Int)/\Hid (RF w wr so (eQ l p))) (fun _ sp _=>l.length / 2016-(intOf sp).toNat)
 case atStart=>exact⟨0,aC6 _,rfl,aG2 _ _ _ _,YQ _ _⟩
 case round =>
  obtain⟨p,hp,rfl,HO⟩:=hrel;obtain⟨W0,rfl⟩:∃ W0,W0=wr:=⟨wr,rfl⟩;obtain⟨v0,rfl⟩:∃ v0,v0=u3:=⟨u3,rfl⟩;by_cases hlt:p<l.length / 2016
  ·have hpI:(p:Int)<(l.length:Int) / 2016:=by omega
   go_wp2;go_loopw [5,6] (fun sg si wq=>∃ i:Nat,i<=252/\si = .int .i64 (i:Int)/\Hid (RF W0 wq sg (dE l p i))) (fun _ si _=>252-(intOf si).toNat)
   case atStart=>exact⟨0,aC6 _,rfl,aG2 _ _ _ _,YQ _ _⟩
   case round =>
    obtain⟨i,hi2,rfl,HP⟩:=hrel;by_cases hlt2:i<252
    ·go_wp2;go_loop [7,8] (fun sn sk=>∃ k m:Nat,k<=8/\sk = .int .i64 (k:Int)/\sn = .int .i64 (m:Int)/\m<256/\Hid (m=numOf (sub l (2016*p+8*i) k))) (fun _ sk=>8-(intOf sk).toNat)
     case atStart=>exact⟨0,0,aC6 _,rfl,rfl,by decide,(rfl:0=numOf (sub l (2016*p+8*i) 0))⟩
     case round =>
      obtain⟨k,m,hk,rfl,rfl,hm,HM⟩:=hrel;by_cases hlt3:k<8
      ·obtain⟨q,hq⟩:∃ q:Nat,q=2016*p+8*i+k:=⟨_,rfl⟩;have hqI:2016*(p:Int)+8*(i:Int)+(k:Int)=(q:Int):=by omega
       have hql:q<l.length:=by omega
       have hqs:q<(txt l).size:=by rw[bE];exact hql
       have b6:=IK l q hqs;have hN:=mR (sub l (2016*p+8*i) k) (l.getD (2016*p+8*i+k) false);rw[<-I9,<-HM.out,<-hq]at hN;have hL:=gW (sub l (2016*p+8*i) (k+1));rw[lI]at hL;have hpw:2 ^ (k+1)<=2 ^ 8:=aL0 (by decide) (by omega);have hqsI:(q:Int)<((txt l).size:Int):=by omega
       clear hq;cases hbit:l.getD q false
       ·rw[hbit]at hN b6;have cI:((txt l)[q].toNat:Int)=48:=by rw[b6];rfl
        have HN:Hid (2*m=numOf (sub l (2016*p+8*i) (k+1))):=(by rw[hN];simp:_=_);have cH:2*m<256:=by rw[HN.out];omega
        clear hN b6 hbit hL hpw HM;go_wp2;go_round;case rel=>exact⟨k+1,2*m,by omega,by go_num,by go_num,cH,HN.out⟩
        case measure=>simp[intOf];omega
       ·rw[hbit]at hN b6;have cI:((txt l)[q].toNat:Int)=49:=by rw[b6];rfl
        have HN:Hid (2*m+1=numOf (sub l (2016*p+8*i) (k+1))):=(by rw[hN];simp:_=_);have cH:2*m+1<256:=by rw[HN.out];omega
        clear hN b6 hbit hL hpw HM;go_wp2;go_round;case rel=>exact⟨k+1,2*m+1,by omega,by go_num,by go_num,cH,HN.out⟩
        case measure=>simp[intOf];omega
      ·obtain rfl:k=8:=by omega
       have a8:=HP.out.1;have hsz:=HP.out.2.size;have b2:=bR l p i;have hwr:IntKind.u8.wrap (m:Int)=(m:Int):=by rw[IntKind.wrap_u8];omega
       have hwr2:(m:Int) % 256=(m:Int):=by omega
       have HE:Hid (dE l p (i+1)=dE l p i++[m]):=(by rw[wD,HM.out]:_=_);clear HM;go_wp2_with (at_builtin;refine wpList_append_own _ rfl _ _ 113 rfl W0.heap.size 5 i0 (.int .u8 0) 1 1 Tryz.underlying113 hi c7 c8 cA rfl (by decide) _ _ _ rfl (a8.alloc _) ⟨wr.heap.size,0,none⟩ 1 1 (valsB [m]) rfl rfl (YW _ _ _) (iA _) (by unfold maxLen;omega) (by omega) (rV hsz) ?_;intro v' w2 hown hgrow hnil)
       have HO2:Hid _:=BV (m:=[m]) HP.out hown hgrow;clear hown hgrow hnil a8 b2;go_wp2;go_roundw;case rel=>exact⟨i+1,by omega,by go_num,by rw[HE.out];exact HO2.out⟩
       case measure=>simp[intOf];omega
    ·obtain rfl:i=252:=by omega
     have hOo:=own_below HO.out.1 HP.out.2;have hOb:Below w.heap.size w wr:=chain HO.out.2 HP.out.2;have b0:=OX HP.out (by intro e;have:=bR l p 252;rw[e]at this;cases this);have b8:Hid (Calls Tryz.prog 60 _ wr _):=Q4 p (dE l p 252) u5 wr (by omega) (by rw[bR];decide) b0 (fun x hx=>sI _ _ _ _ hx);have hsl:=Crc.sum_lt p (dE l p 252);have b7:Hid (aAK wr u5 (dE l p 252)):=b0;have HOo:Hid _:=hOo;have HOb:Hid _:=hOb;clear b0 hOo hOb HP;go_wp2_with fail
     refine(aC0 b8.out ?_);rintro e w3 ⟨rfl,hB3⟩;obtain⟨g,off,cap,rfl,hc⟩:=b7.out;generalize hS:Crc.sumOf p (dE l p 252)=S at hsl;have HS:Hid (Crc.sumOf p (dE l p 252)=S):=hS;have cC:=own_below HOo.out hB3;have cE:=chain HOb.out hB3;have bW:=cE.size;have b2:=gK l p;have hcc:=CL hc hB3;have HO3:Hid (RF w w3 v0 (eQ l p)):=⟨cC,cE⟩;clear hS hc hB3 cE HOo HOb b7 b8;go_wp2_with (first | (at_builtin;refine wpList_append_own _ rfl _ _ 113 rfl w.heap.size 5 i0 (.int .u8 0) 1 1 Tryz.underlying113 hi c7 c8 cA rfl (by decide) _ _ _ rfl cC ⟨g,off,none⟩ (dE l p 252).length cap (valsB (dE l p 252)) rfl (by simp[valsB]) hcc (iA _) (by unfold maxLen;rw[b2,bR];omega) (by rw[b2,bR];omega) bW ?_;intro v4 w4 hown4 hgrow4 hnil4) | (at_builtin;refine wpList_append_own _ rfl _ _ 113 rfl w.heap.size 5 i0 (.int .u8 0) 1 1 Tryz.underlying113 hi c7 c8 cA rfl (by decide) _ _ _ rfl (hown4.alloc _) ⟨w4.heap.size,0,none⟩ 4 4 [.int .u8 ((S:Int) / 16777216),.int .u8 ((S:Int) / 65536 % 256),.int .u8 ((S:Int) / 256 % 256),.int .u8 ((S:Int) % 256)] rfl rfl (VA _ _ _ _ _ _) (GN _ _ _ _) (by unfold maxLen;rw[b2,bR];omega) (by rw[b2,bR];omega) (rV (aD9 bW hgrow4.size)) ?_;intro v5 w5 hown5 hgrow5 hnil5))
     have HO4:Hid (RF w w4 v4 (eQ l p++dE l p 252)):=MC HO3.out hown4 hgrow4;have HO5:Hid (RF w w5 v5 (eQ l (p+1))):=by
      have h:=hown5;rw[RQ S hsl]at h;have e:=BV (m:=Crc.be4 S) HO4.out (by rw[WT,fG];exact h) hgrow5;rw[kV];unfold whole;rw[HS.out,<-aD3];exact e
     clear hown4 hgrow4 hnil4 hown5 hgrow5 hnil5 cC hcc b2 HO3 HO4;go_wp2;go_roundw;case rel=>exact⟨p+1,by omega,by go_num,HO5.out⟩
     case measure=>simp[intOf];omega
  ·obtain rfl:p=l.length / 2016:=by omega
   have hpI:¬((l.length / 2016:Nat):Int)<(l.length:Int) / 2016:=by omega
   have hcv:=SI HO.out (by have:=gK l (l.length / 2016);omega) (vK l _);obtain⟨g,off,cap,rfl,hcv⟩:=hcv;have HB:Hid _:=HO.out.2;clear HO;go_wp2;go_ret;exact⟨rfl,HB.out⟩
end Go.Proofs.YtphjbbbnbmafnaaGreatDoor.G
