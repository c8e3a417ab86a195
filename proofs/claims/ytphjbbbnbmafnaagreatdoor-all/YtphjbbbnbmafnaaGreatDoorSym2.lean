/- Parts: Sym2. -/
import Derived.Test.YtphjbbbnbmafnaaGreatDoorIns
set_option maxHeartbeats 8000000
set_option maxRecDepth 100000
namespace Go.Proofs.YtphjbbbnbmafnaaGreatDoor.G
open Go.RowKit
variable {l:List E3} {k:Nat} {z:E3}
theorem kW(h:z∈l.take k):∃ t,t<k/\l[t]?=some z:=by
 obtain⟨t,ht⟩:=List.mem_iff_getElem?.1 h;rw[List.getElem?_take]at ht;split at ht
 ·exact⟨t,by assumption,ht⟩
 ·cases ht
theorem kX(h:z∈l.drop k):∃ t,k<=t/\l[t]?=some z:=by
 obtain⟨t,ht⟩:=List.mem_iff_getElem?.1 h;rw[List.getElem?_drop]at ht;exact⟨k+t,by omega,ht⟩
theorem lJ(h:Gm.S2 l){s t:Nat}{y:E3}(hs:l[s]?=some y)(ht:l[t]?=some z)(hst:s<=t):y.2.1<=z.2.1:=by
 rcases aG5 s t with h1 | h1
 ·have hl:=List.pairwise_iff_getElem.1 h s t (bN hs) (bN ht) h1;rw[A7 (bN hs)]at hs;rw[A7 (bN ht)]at ht;rw[aH5 hs,aH5 ht,Gm.FD]at hl;omega
 ·obtain rfl:s=t:=by omega
  rw[hs]at ht;rw[aH5 ht];exact Int.le_refl _
theorem qH{w W:World}{g cap:Nat}{L:List E3}(h:aR W g cap L/\w.grownBy W (some g))(o o2:Obj):aR ((W.alloc o).alloc o2) g cap L/\w.grownBy ((W.alloc o).alloc o2) (some g) :=
 ⟨(h.1.kept (aF9 _ _ none) (by simp)).kept (aF9 _ _ none) (by simp),(h.2.trans (aF9 _ _ _)).trans (aF9 _ _ _)⟩
theorem UO(P Q:List E3)(y x:E3):swp (P++y::x::Q) P.length (P.length+1)=P++x::y::Q:=by
 have:=CU P [] Q y x;simpa using this
theorem TA(X B Y:List E3)(x:E3)(a m b N g cap:Nat)(w:World)(h:aR w g cap (X++[x]++B++Y))(ha:X.length=a)(hm:a+1=m)(hb:m+B.length=b)(hN:b+Y.length=N)(hl:N<=1000000)(hS:Gm.S2 B)(hbef:∀ y∈B,Gm.ltE x y=true):
 Calls Tryz.prog 207 #[.slice (some ⟨g,0,none⟩) N cap,.int .i64 (a:Int),.int .i64 (m:Int),.int .i64 (b:Int),.func (.func 106) #[] #[]] w fun e w'=>e = .returned (.tuple #[])/\(∃ M,aR w' g cap (X++M++Y)/\M.Perm ([x]++B)/\Gm.S2 M)/\w.grownBy w' (some g):=by
 have hma:((m:Int)-(a:Int) == 1)=true:=by simpa using(by omega:(m:Int)-(a:Int)=1)
 have H0:Hid _:=h;have HS:Hid _:=hS;have HB:Hid _:=hbef;have HL:Hid _:=And.intro ha (And.intro hm (And.intro hb hN));have hxa:(X++[x]++B++Y)[a]?=some x:=by rw[<-ha];simp
 have a9:∀ t y,B[t]?=some y->(X++[x]++B++Y)[m+t]?=some y:=fun t y hy=>by
  have ht:=bN hy;rw[aD3,aC8 (by simp;omega),aD4 (by simp;omega)];rw[show m+t-(X++[x]).length=t by simp;omega];exact hy
 have HBA:Hid _:=a9;have HXA:Hid _:=hxa;have hmb:m<=b:=by omega
 have hbN:b<=N:=by omega
 have ham:a<m:=by omega
 clear h hS hbef ha hm hb hN a9 hxa;go_enter Tryz.func207,Tryz.ntmps207
 go_wp2;go_loopw [10,11] (fun si sj wr=>∃ i j:Nat,m<=i/\i<=j/\j<=b/\si = .int .i64 (i:Int)/\sj = .int .i64 (j:Int)/\Hid (aR wr g cap (X++[x]++B++Y)/\w.grownBy wr (some g)/\(∀ t y,B[t]?=some y->m+t<i->y.2.1<x.2.1)/\(∀ t y,B[t]?=some y->j<=m+t->¬ y.2.1<x.2.1))) (fun si sj _=>(intOf sj).toNat-(intOf si).toNat)
 case atStart=>exact⟨m,b,V7 _,hmb,V7 _,rfl,rfl,H0.out,⟨rfl,rfl,rfl,V7 _,fun _ _ _=>rfl⟩,fun t y _ h2=>by omega,fun t y hy h2=>by have:=bN hy;have:=HL.out;omega⟩
 case round =>
  obtain⟨i,j,hi1,hij,b1,rfl,rfl,HI⟩:=hrel;by_cases hlt:i<j
  ·obtain⟨q,hq⟩:∃ q,q=(i+j) / 2:=⟨_,rfl⟩;have hh:((i:Int)+(j:Int)) / 2=(q:Int):=by omega
   have hqi:i<=q:=by omega
   have hqj:q<j:=by omega
   obtain⟨y,hy⟩:∃ y,B[q-m]?=some y:=⟨_,A7 (by have:=HL.out;omega)⟩;have b3:=HBA.out _ _ hy;rw[show m+(q-m)=q by omega]at b3;obtain⟨c0,c1,c2⟩:=HI.out.1.cells b3;obtain⟨d0,d1,d2⟩:=HI.out.1.cells HXA.out;have HY:Hid _:=hy;clear hy b3 hq;have HX:Hid (aR wr g cap (X++[x]++B++Y)/\w.grownBy wr (some g)):=(⟨HI.out.1,HI.out.2.1⟩:_/\_);have HP:Hid ((∀ t y,B[t]?=some y->m+t<i->y.2.1<x.2.1)/\(∀ t y,B[t]?=some y->j<=m+t->¬ y.2.1<x.2.1)):=HI.out.2.2;clear HI;have hqN:q<N:=by omega
   have haN:a<N:=by omega
   obtain⟨x1,x2,x3⟩:=x;obtain⟨y1,y2,y3⟩:=y;dsimp only at c0 c1 c2 d0 d1 d2;have HC:∀ W,Hid (Calls Tryz.prog 106 _ W _):=fun W=>jY y1 y2 y3 x1 x2 x3 W;have a2:=zR y2 x2;by_cases hc:y2<x2
   ·have b0:=a2.2 hc;clear a2;go_upto_region 5 with fail
    go_region_held (fun w'=>w'.cell? ⟨g,q*3,none⟩=some (.int .i64 y1)/\w'.cell? ⟨g,q*3+1,none⟩=some (.int .i64 y2)/\w'.cell? ⟨g,q*3+2,none⟩=some (.int .i64 y3)/\w'.cell? ⟨g,a*3,none⟩=some (.int .i64 x1)/\w'.cell? ⟨g,a*3+1,none⟩=some (.int .i64 x2)/\w'.cell? ⟨g,a*3+2,none⟩=some (.int .i64 x3)) (refine⟨?_,?_,?_,?_,?_,?_⟩ <;> (repeat (first | assumption | apply fZ | apply dL)))
     (first
      | (go_at_call 106;refine(aC0 (HC _).out ?_);rintro e w' ⟨rfl,rfl⟩))
    have H2:Hid _:=qH HX.out (.cells #[.int .i64 y1,.int .i64 y2,.int .i64 y3] 38) (.cells #[.int .i64 x1,.int .i64 x2,.int .i64 x3] 38);clear c0 c1 c2 d0 d1 d2;revert H2;generalize (wr.alloc _).alloc _=W2;intro H2;go_wp2;go_roundw;case rel=>exact⟨q+1,j,by omega,by omega,b1,by go_num,rfl,H2.out.1,lK H2.out.2,fun t z hz h2=>by
     have:=lJ HS.out hz HY.out (by omega);have hc':y2<x2:=hc;have h3:z.2.1<=y2:=this;show z.2.1<x2;omega,fun t z hz h2=>Int.not_lt.2 (HP.out.2 t z hz h2)⟩
    case measure=>simp[intOf];omega
   ·have b0:¬ Lib.compareInt y2 x2<0:=fun h=>hc (a2.1 h);clear a2;go_upto_region 5 with fail
    go_region_held (fun w'=>w'.cell? ⟨g,q*3,none⟩=some (.int .i64 y1)/\w'.cell? ⟨g,q*3+1,none⟩=some (.int .i64 y2)/\w'.cell? ⟨g,q*3+2,none⟩=some (.int .i64 y3)/\w'.cell? ⟨g,a*3,none⟩=some (.int .i64 x1)/\w'.cell? ⟨g,a*3+1,none⟩=some (.int .i64 x2)/\w'.cell? ⟨g,a*3+2,none⟩=some (.int .i64 x3)) (refine⟨?_,?_,?_,?_,?_,?_⟩ <;> (repeat (first | assumption | apply fZ | apply dL)))
     (first
      | (go_at_call 106;refine(aC0 (HC _).out ?_);rintro e w' ⟨rfl,rfl⟩))
    have H2:Hid _:=qH HX.out (.cells #[.int .i64 y1,.int .i64 y2,.int .i64 y3] 38) (.cells #[.int .i64 x1,.int .i64 x2,.int .i64 x3] 38);clear c0 c1 c2 d0 d1 d2;revert H2;generalize (wr.alloc _).alloc _=W2;intro H2;go_wp2;go_roundw;case rel=>exact⟨i,q,by omega,by omega,by omega,rfl,by go_num,H2.out.1,lK H2.out.2,HP.out.1,fun t z hz h2=>by
     have:=lJ HS.out HY.out hz (by omega);have h3:y2<=z.2.1:=this;show ¬ z.2.1<x2;omega⟩
    case measure=>simp[intOf];omega
  ·obtain rfl:i=j:=by omega
   have HM:Hid (Gm.S2 (B.take (i-m)++x::B.drop (i-m))):=(by
    refine Gm.aA0 _ _ x (by rw[aD5];exact HS.out) (fun z hz => ?_) (fun z hz => ?_)
    ·obtain⟨t,ht,a0⟩:=kX hz;exact((Gm.J2 z x (HB.out z (aC3 a0))).2).2 (HI.out.2.2.2 t z a0 (by omega))
    ·obtain⟨t,ht,a0⟩:=kW hz;exact((Gm.J2 z x (HB.out z (aC3 a0))).1).2 (HI.out.2.2.1 t z a0 (by omega)):Gm.S2 _)
   have aL:Hid (aR wr g cap (X++B.take (a-a)++x::B.drop (a-a)++Y)/\w.grownBy wr (some g)):=(by
    rw[aJ1];exact⟨by simpa using HI.out.1,HI.out.2.1⟩:_/\_)
   have hi1I:(i:Int)-1=((i-1:Nat):Int):=by omega
   clear HI;go_wp2;go_loopw [13] (fun sk wr=>∃ k:Nat,a<=k/\k<=i-1/\sk = .int .i64 (k:Int)/\Hid (aR wr g cap (X++B.take (k-a)++x::B.drop (k-a)++Y)/\w.grownBy wr (some g))) (fun sk _=>i-(intOf sk).toNat)
   case atStart=>exact⟨a,V7 _,by omega,rfl,aL.out⟩
   case round =>
    obtain⟨k,hk1,hk2,rfl,HI⟩:=hrel;by_cases hlt2:k<i-1
    ·obtain⟨y,hy⟩:∃ y,B[k-a]?=some y:=⟨_,A7 (by have:=HL.out;omega)⟩;have a1:(X++B.take (k-a)).length=k:=by rw[WT,aD7];have:=HL.out;have:=bN hy;omega
     have e1:B.drop (k-a)=y::B.drop (k-a+1):=by rw[aG0 (bN hy)];congr 1;rw[A7 (bN hy)]at hy;exact aH5 hy
     have e2:B.take (k-a+1)=B.take (k-a)++[y]:=by rw[aE0,hy];rfl
     have aE:X++B.take (k-a)++x::B.drop (k-a)++Y=(X++B.take (k-a))++x::y::(B.drop (k-a+1)++Y):=by rw[e1];simp
     have hR:=HI.out.1;rw[aE]at hR;have b2:((X++B.take (k-a))++x::y::(B.drop (k-a+1)++Y))[k]?=some x:=by
      have:=aC8 (l₁:=X++B.take (k-a)) (l₂:=x::y::(B.drop (k-a+1)++Y)) (i:=k) (by omega);rw[this,a1,aJ1];rfl
     have a7:((X++B.take (k-a))++x::y::(B.drop (k-a+1)++Y))[k+1]?=some y:=by
      have:=aC8 (l₁:=X++B.take (k-a)) (l₂:=x::y::(B.drop (k-a+1)++Y)) (i:=k+1) (by omega);rw[this,a1,show k+1-k=1 by omega];rfl
     have a6:=UO (X++B.take (k-a)) (B.drop (k-a+1)++Y) x y;rw[a1]at a6;have a5:=hR.swp b2 a7;rw[a6]at a5;obtain⟨c0,c1,c2⟩:=hR.cells b2;obtain⟨d0,d1,d2⟩:=hR.cells a7;have f0:=hR.frozen (k*3);have f1:=hR.frozen (k*3+1);have f2:=hR.frozen (k*3+2);have g0:=hR.frozen ((k+1)*3);have g1:=hR.frozen ((k+1)*3+1);have g2:=hR.frozen ((k+1)*3+2);have a4:Hid (aR _ g cap (X++B.take (k+1-a)++x::B.drop (k+1-a)++Y)):=(by
      rw[show k+1-a=k-a+1 by omega,e2];simpa using a5:aR _ g cap _)
     have aG:Hid _:=HI.out.2;have hne:k+1≠k:=by omega
     have hkN:k+1<N:=by omega
     have hkI:(k:Int)<((i-1:Nat):Int):=by omega
     clear hR a5 a6 b2 a7 aE e1 e2 a1 hy HI;obtain⟨x1,x2,x3⟩:=x;obtain⟨y1,y2,y3⟩:=y;dsimp only at c0 c1 c2 d0 d1 d2;have a3:Hid (w.grownBy _ (some g)):=aG.out.trans (JZ wr g (k*3) (k*3+1) (k*3+2) ((k+1)*3) ((k+1)*3+1) ((k+1)*3+2) (.int .i64 y1) (.int .i64 y2) (.int .i64 y3) (.int .i64 x1) (.int .i64 x2) (.int .i64 x3));go_wp2_with fail
     go_region;clear c0 c1 c2 d0 d1 d2 f0 f1 f2 g0 g1 g2;revert a3 a4;generalize (((((wr.setCell _ _).setCell _ _).setCell _ _).setCell _ _).setCell _ _).setCell _ _=W3;intro a4 a3;go_wp2;go_roundw;case rel=>exact⟨k+1,by omega,by omega,by go_num,a4.out,lK a3.out⟩
     case measure=>simp[intOf];omega
    ·obtain rfl:k=i-1:=by omega
     have HE:Hid ((∃ M,aR wr g cap (X++M++Y)/\M.Perm ([x]++B)/\Gm.S2 M)/\w.grownBy wr (some g)):=(by
      have h2:=HI.out;rw[show i-1-a=i-m by have:=HL.out;omega]at h2;refine⟨⟨_,by simpa using h2.1,?_,HM.out⟩,h2.2⟩;refine List.perm_middle.trans ?_;rw[aD5];exact aK7 _:_/\_)
     clear HI;go_wp2;refine bodyPost_ret (results_none rfl _ _ _) rfl ?_;exact⟨rfl,HE.out⟩
end Go.Proofs.YtphjbbbnbmafnaaGreatDoor.G
namespace Go.Proofs.YtphjbbbnbmafnaaGreatDoor.G
open Go.RowKit
theorem TH(X A Y:List E3)(y:E3)(a m b N g cap:Nat)(w:World)(h:aR w g cap (X++A++[y]++Y))(ha:X.length=a)(hm:a+A.length=m)(hA2:2<=A.length)(hb:m+1=b)(hN:b+Y.length=N)(hl:N<=1000000)(hS:Gm.S2 A)(hbef:∀ z∈A,Gm.ltE z y=true):
 Calls Tryz.prog 207 #[.slice (some ⟨g,0,none⟩) N cap,.int .i64 (a:Int),.int .i64 (m:Int),.int .i64 (b:Int),.func (.func 106) #[] #[]] w fun e w'=>e = .returned (.tuple #[])/\(∃ M,aR w' g cap (X++M++Y)/\M.Perm (A++[y])/\Gm.S2 M)/\w.grownBy w' (some g):=by
 have hma:((m:Int)-(a:Int) == 1)=false:=by simpa using(by omega:¬(m:Int)-(a:Int)=1)
 have hmb:((b:Int)-(m:Int) == 1)=true:=by simpa using(by omega:(b:Int)-(m:Int)=1)
 have H0:Hid _:=h;have HS:Hid _:=hS;have HB:Hid _:=hbef;have HL:Hid _:=And.intro ha (And.intro hm (And.intro hb hN));have hym:(X++A++[y]++Y)[m]?=some y:=by
  rw[aD4 (by simp;omega),aC8 (by simp;omega),show m-(X++A).length=0 by simp;omega];rfl
 have a8:∀ t z,A[t]?=some z->(X++A++[y]++Y)[a+t]?=some z:=fun t z hz=>by
  have ht:=bN hz;rw[aD4 (by simp;omega),aD4 (by simp;omega),aC8 (by omega)];rw[show a+t-X.length=t by omega];exact hz
 have HAA:Hid _:=a8;have HYM:Hid _:=hym;have ham:a<=m:=by omega
 have hmN:m<N:=by omega
 have hbN:b<=N:=by omega
 clear h hS hbef ha hm hb hN a8 hym hA2;go_enter Tryz.func207,Tryz.ntmps207
 go_wp2;go_loopw [14,15] (fun si sj wr=>∃ i j:Nat,a<=i/\i<=j/\j<=m/\si = .int .i64 (i:Int)/\sj = .int .i64 (j:Int)/\Hid (aR wr g cap (X++A++[y]++Y)/\w.grownBy wr (some g)/\(∀ t z,A[t]?=some z->a+t<i->z.2.1<=y.2.1)/\(∀ t z,A[t]?=some z->j<=a+t->y.2.1<z.2.1))) (fun si sj _=>(intOf sj).toNat-(intOf si).toNat)
 case atStart=>exact⟨a,m,V7 _,ham,V7 _,rfl,rfl,H0.out,⟨rfl,rfl,rfl,V7 _,fun _ _ _=>rfl⟩,fun t z _ h2=>by omega,fun t z hz h2=>by have:=bN hz;have:=HL.out;omega⟩
 case round =>
  obtain⟨i,j,hi1,hij,b1,rfl,rfl,HI⟩:=hrel;by_cases hlt:i<j
  ·obtain⟨q,hq⟩:∃ q,q=(i+j) / 2:=⟨_,rfl⟩;have hh:((i:Int)+(j:Int)) / 2=(q:Int):=by omega
   have hqi:i<=q:=by omega
   have hqj:q<j:=by omega
   obtain⟨z,hz⟩:∃ z,A[q-a]?=some z:=⟨_,A7 (by have:=HL.out;omega)⟩;have b5:=HAA.out _ _ hz;rw[show a+(q-a)=q by omega]at b5;obtain⟨c0,c1,c2⟩:=HI.out.1.cells b5;obtain⟨d0,d1,d2⟩:=HI.out.1.cells HYM.out;have HZ:Hid _:=hz;clear hz b5 hq;have HX:Hid (aR wr g cap (X++A++[y]++Y)/\w.grownBy wr (some g)):=(⟨HI.out.1,HI.out.2.1⟩:_/\_);have HP:Hid ((∀ t z,A[t]?=some z->a+t<i->z.2.1<=y.2.1)/\(∀ t z,A[t]?=some z->j<=a+t->y.2.1<z.2.1)):=HI.out.2.2;clear HI;have hqN:q<N:=by omega
   obtain⟨y1,y2,y3⟩:=y;obtain⟨z1,z2,z3⟩:=z;dsimp only at c0 c1 c2 d0 d1 d2;have HC:∀ W,Hid (Calls Tryz.prog 106 _ W _):=fun W=>jY y1 y2 y3 z1 z2 z3 W;have a2:=zR y2 z2;by_cases hc:y2<z2
   ·have b0:decide (Lib.compareInt y2 z2<0)=true:=decide_eq_true (a2.2 hc);clear a2;go_upto_region 17 with fail
    go_region_held (fun w'=>w'.cell? ⟨g,m*3,none⟩=some (.int .i64 y1)/\w'.cell? ⟨g,m*3+1,none⟩=some (.int .i64 y2)/\w'.cell? ⟨g,m*3+2,none⟩=some (.int .i64 y3)/\w'.cell? ⟨g,q*3,none⟩=some (.int .i64 z1)/\w'.cell? ⟨g,q*3+1,none⟩=some (.int .i64 z2)/\w'.cell? ⟨g,q*3+2,none⟩=some (.int .i64 z3)) (refine⟨?_,?_,?_,?_,?_,?_⟩ <;> (repeat (first | assumption | apply fZ | apply dL)))
     (first
      | (go_at_call 106;refine(aC0 (HC _).out ?_);rintro e w' ⟨rfl,rfl⟩))
    have H2:Hid _:=qH HX.out (.cells #[.int .i64 y1,.int .i64 y2,.int .i64 y3] 38) (.cells #[.int .i64 z1,.int .i64 z2,.int .i64 z3] 38);clear c0 c1 c2 d0 d1 d2;revert H2;generalize (wr.alloc _).alloc _=W2;intro H2;go_wp2;go_roundw;case rel=>exact⟨i,q,by omega,by omega,by omega,rfl,by go_num,H2.out.1,lK H2.out.2,HP.out.1,fun t u hu h2=>by
     have:=lJ HS.out HZ.out hu (by omega);have h3:z2<=u.2.1:=this;show y2<u.2.1;omega⟩
    case measure=>simp[intOf];omega
   ·have b0:decide (Lib.compareInt y2 z2<0)=false:=decide_eq_false (fun h=>hc (a2.1 h));clear a2;go_upto_region 17 with fail
    go_region_held (fun w'=>w'.cell? ⟨g,m*3,none⟩=some (.int .i64 y1)/\w'.cell? ⟨g,m*3+1,none⟩=some (.int .i64 y2)/\w'.cell? ⟨g,m*3+2,none⟩=some (.int .i64 y3)/\w'.cell? ⟨g,q*3,none⟩=some (.int .i64 z1)/\w'.cell? ⟨g,q*3+1,none⟩=some (.int .i64 z2)/\w'.cell? ⟨g,q*3+2,none⟩=some (.int .i64 z3)) (refine⟨?_,?_,?_,?_,?_,?_⟩ <;> (repeat (first | assumption | apply fZ | apply dL)))
     (first
      | (go_at_call 106;refine(aC0 (HC _).out ?_);rintro e w' ⟨rfl,rfl⟩))
    have H2:Hid _:=qH HX.out (.cells #[.int .i64 y1,.int .i64 y2,.int .i64 y3] 38) (.cells #[.int .i64 z1,.int .i64 z2,.int .i64 z3] 38);clear c0 c1 c2 d0 d1 d2;revert H2;generalize (wr.alloc _).alloc _=W2;intro H2;go_wp2;go_roundw;case rel=>exact⟨q+1,j,by omega,by omega,b1,by go_num,rfl,H2.out.1,lK H2.out.2,fun t u hu h2=>by
     have:=lJ HS.out hu HZ.out (by omega);have h3:u.2.1<=z2:=this;show u.2.1<=y2;omega,HP.out.2⟩
    case measure=>simp[intOf];omega
  ·obtain rfl:i=j:=by omega
   have HM:Hid (Gm.S2 (A.take (i-a)++y::A.drop (i-a))):=(by
    refine Gm.aA0 _ _ y (by rw[aD5];exact HS.out) (fun z hz => ?_) (fun z hz => ?_)
    ·obtain⟨t,ht,a0⟩:=kX hz;exact((Gm.J2 y z (HB.out z (aC3 a0))).1).2 (HI.out.2.2.2 t z a0 (by omega))
    ·obtain⟨t,ht,a0⟩:=kW hz;have:=HI.out.2.2.1 t z a0 (by omega);exact((Gm.J2 y z (HB.out z (aC3 a0))).2).2 (by omega):Gm.S2 _)
   have aL:Hid (aR wr g cap (X++A.take (m-a)++y::A.drop (m-a)++Y)/\w.grownBy wr (some g)):=(by
    have hLo:=HL.out;rw[aD2 (by omega),aH0 (by omega)];exact⟨by simpa using HI.out.1,HI.out.2.1⟩:_/\_)
   clear HI;go_wp2;go_loopw [17] (fun sk wr=>∃ k:Nat,i<=k/\k<=m/\sk = .int .i64 (k:Int)/\Hid (aR wr g cap (X++A.take (k-a)++y::A.drop (k-a)++Y)/\w.grownBy wr (some g))) (fun sk _=>(intOf sk).toNat)
   case atStart=>exact⟨m,by omega,V7 _,rfl,aL.out⟩
   case round =>
    obtain⟨k,hk1,hk2,rfl,HI⟩:=hrel;by_cases hlt2:k>i
    ·obtain⟨p,hp⟩:∃ p,k=p+1:=⟨k-1,by omega⟩;obtain⟨z,hz⟩:∃ z,A[p-a]?=some z:=⟨_,A7 (by have:=HL.out;omega)⟩;have a1:(X++A.take (p-a)).length=p:=by rw[WT,aD7];have:=HL.out;have:=bN hz;omega
     have e1:A.drop (p-a)=z::A.drop (p-a+1):=by rw[aG0 (bN hz)];congr 1;rw[A7 (bN hz)]at hz;exact aH5 hz
     have e2:A.take (p-a+1)=A.take (p-a)++[z]:=by rw[aE0,hz];rfl
     have e3:k-a=p-a+1:=by omega
     have aE:X++A.take (k-a)++y::A.drop (k-a)++Y=(X++A.take (p-a))++z::y::(A.drop (p-a+1)++Y):=by rw[e3,e2];simp
     have hR:=HI.out.1;rw[aE]at hR;have b4:((X++A.take (p-a))++z::y::(A.drop (p-a+1)++Y))[p]?=some z:=by
      have:=aC8 (l₁:=X++A.take (p-a)) (l₂:=z::y::(A.drop (p-a+1)++Y)) (i:=p) (by omega);rw[this,a1,aJ1];rfl
     have a7:((X++A.take (p-a))++z::y::(A.drop (p-a+1)++Y))[k]?=some y:=by
      have:=aC8 (l₁:=X++A.take (p-a)) (l₂:=z::y::(A.drop (p-a+1)++Y)) (i:=k) (by omega);rw[this,a1,show k-p=1 by omega];rfl
     have a6:=IG (X++A.take (p-a)) (A.drop (p-a+1)++Y) z y;rw[a1,<-hp]at a6;have a5:=hR.swp a7 b4;rw[a6]at a5;obtain⟨c0,c1,c2⟩:=hR.cells a7;obtain⟨d0,d1,d2⟩:=hR.cells b4;have f0:=hR.frozen (k*3);have f1:=hR.frozen (k*3+1);have f2:=hR.frozen (k*3+2);have g0:=hR.frozen (p*3);have g1:=hR.frozen (p*3+1);have g2:=hR.frozen (p*3+2);have a4:Hid (aR _ g cap (X++A.take (p-a)++y::A.drop (p-a)++Y)):=(by
      rw[e1];simpa using a5:aR _ g cap _)
     have aG:Hid _:=HI.out.2;have hne:k≠p:=by omega
     have hkN:k<N:=by omega
     have hpN:p<N:=by omega
     have hkI:(k:Int)>(i:Int):=by omega
     have e8:IntKind.i64.wrap (p:Int)=(p:Int):=by rw[aK6];omega
     have e9:(k:Int)-1=(p:Int):=by omega
     have hip:i<=p:=by omega
     have HPK:Hid _:=hp;clear hR a5 a6 b4 a7 aE e1 e2 e3 a1 hz HI hp;obtain⟨y1,y2,y3⟩:=y;obtain⟨z1,z2,z3⟩:=z;dsimp only at c0 c1 c2 d0 d1 d2;have a3:Hid (w.grownBy _ (some g)):=aG.out.trans (JZ wr g (k*3) (k*3+1) (k*3+2) (p*3) (p*3+1) (p*3+2) (.int .i64 z1) (.int .i64 z2) (.int .i64 z3) (.int .i64 y1) (.int .i64 y2) (.int .i64 y3));go_wp2_with fail
     go_region;clear c0 c1 c2 d0 d1 d2 f0 f1 f2 g0 g1 g2;revert a3 a4;generalize (((((wr.setCell _ _).setCell _ _).setCell _ _).setCell _ _).setCell _ _).setCell _ _=W3;intro a4 a3;go_wp2;go_roundw;case rel=>exact⟨p,hip,by omega,rfl,a4.out,lK a3.out⟩
     case measure=>have:=HPK.out;simp[intOf];omega
    ·obtain rfl:k=i:=by omega
     have HE:Hid ((∃ M,aR wr g cap (X++M++Y)/\M.Perm (A++[y])/\Gm.S2 M)/\w.grownBy wr (some g)):=(by
      have h2:=HI.out;refine⟨⟨_,by simpa using h2.1,?_,HM.out⟩,h2.2⟩;refine List.perm_middle.trans ?_;rw[aD5];exact(List.perm_append_comm (l₁:=[y]) (l₂:=A)):_/\_)
     clear HI;go_wp2;refine bodyPost_ret (results_none rfl _ _ _) rfl ?_;exact⟨rfl,HE.out⟩
end Go.Proofs.YtphjbbbnbmafnaaGreatDoor.G
