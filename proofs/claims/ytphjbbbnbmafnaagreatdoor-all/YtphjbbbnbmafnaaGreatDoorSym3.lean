/- Parts: Sym3. -/
import Derived.Test.YtphjbbbnbmafnaaGreatDoorSym2
import Derived.Test.YtphjbbbnbmafnaaGreatDoorExt
set_option maxHeartbeats 16000000
set_option maxRecDepth 100000
namespace Go.Proofs.YtphjbbbnbmafnaaGreatDoor.G
open Go.RowKit
def SymP(X A B Y:List E3)(a m b N g cap:Nat)(w:World):Prop:=aR w g cap (X++A++B++Y)/\X.length=a/\a+A.length=m/\m+B.length=b/\b+Y.length=N/\Gm.S2 A/\Gm.S2 B/\(∀ x∈A,∀ y∈B,Gm.ltE x y=true)/\A≠[]/\B≠[]
def aAj(X A B Y:List E3)(a m b N g cap:Nat)(w:World):Prop:=Calls Tryz.prog 207 #[.slice (some ⟨g,0,none⟩) N cap,.int .i64 (a:Int),.int .i64 (m:Int),.int .i64 (b:Int),.func (.func 106) #[] #[]] w fun e w'=>e = .returned (.tuple #[])/\(∃ M,aR w' g cap (X++M++Y)/\M.Perm (A++B)/\Gm.S2 M)/\w.grownBy w' (some g)
theorem VE{A B:List E3}{a m b s mid s0 r0:Nat}(hA:a+A.length=m)(hB:m+B.length=b)(b4:Gm.S2 A)(b5:Gm.S2 B)(a9:∀ x∈A,∀ y∈B,Gm.ltE x y=true)
 (hE:a<=s0/\r0<=m/\r0<=mid/\mid+m<=s0+b/\(s0=a\/s0+b=mid+m)/\(r0=m\/r0=mid)) (cB:s0<=s) (cA:s<=r0)
 (P1:∀ c x y,s0<=c->c<s->A[c-a]?=some x->B[mid+m-1-c-m]?=some y->x.2.1<=y.2.1) (P2:∀ c x y,s<=c->c<r0->A[c-a]?=some x->B[mid+m-1-c-m]?=some y->y.2.1<x.2.1)
 (M1 M2:List E3) (p1:M1.Perm (A.take (s-a)++B.take (mid-s))) (p2:M2.Perm (A.drop (s-a)++B.drop (mid-s))) (s1:Gm.S2 M1) (s2:Gm.S2 M2):Gm.S2 (M1++M2)/\(M1++M2).Perm (A++B):=by
 have eA:=aD5 (s-a) A;have eB:=aD5 (mid-s) B;constructor
 ·refine Gm.aAN (A.take (s-a)) (A.drop (s-a)) (B.take (mid-s)) (B.drop (mid-s)) M1 M2 (by rw[eA];exact b4) (by rw[eB];exact b5) (by rw[eA,eB];exact a9) (fun x hx y hy => ?_) (fun y hy x hx => ?_) p1 p2 s1 s2
  ·obtain⟨t,ht,hxt⟩:=kW hx;obtain⟨u,hu,hyu⟩:=kX hy;have hxl:=bN hxt;have hyl:=bN hyu;rcases aG5 s0 s with hlt | hge
   ·obtain⟨x',bW⟩:∃ x',A[s-1-a]?=some x':=⟨_,A7 (by omega)⟩;obtain⟨y',bX⟩:∃ y',B[mid-s]?=some y':=⟨_,A7 (by omega)⟩;have k1:=P1 (s-1) x' y' (by omega) (by omega) bW (by rw[show mid+m-1-(s-1)-m=mid-s by omega];exact bX);have k2:=lJ b4 hxt bW (by omega);have k3:=lJ b5 bX hyu (by omega);omega
   ·omega
  ·obtain⟨t,ht,hyt⟩:=kW hy;obtain⟨u,hu,hxu⟩:=kX hx;have hyl:=bN hyt;have hxl:=bN hxu;rcases aG5 s r0 with hlt | hge
   ·obtain⟨x',bW⟩:∃ x',A[s-a]?=some x':=⟨_,A7 (by omega)⟩;obtain⟨y',bX⟩:∃ y',B[mid-1-s]?=some y':=⟨_,A7 (by omega)⟩;have k1:=P2 s x' y' (by omega) (by omega) bW (by rw[show mid+m-1-s-m=mid-1-s by omega];exact bX);have k2:=lJ b4 bW hxu (by omega);have k3:=lJ b5 hyt bX (by omega);omega
   ·omega
 ·have h:=Gm.perm4 (A.take (s-a)) (A.drop (s-a)) (B.take (mid-s)) (B.drop (mid-s)) M1 M2 p1 p2;rw[eA,eB]at h;exact h
theorem V3(X A B Y:List E3)(a m b N g cap:Nat)(w:World)(h:SymP X A B Y a m b N g cap w)(aE:2<=A.length)(aG:2<=B.length)(hl:N<=1000000)
 (IH:∀(X' A' B' Y':List E3) (a' m' b':Nat) (w':World),A'.length+B'.length<A.length+B.length->SymP X' A' B' Y' a' m' b' N g cap w'->aAj X' A' B' Y' a' m' b' N g cap w'):aAj X A B Y a m b N g cap w:=by
 obtain⟨hR,ha,hm,hb,hN,b4,b5,a9,_,_⟩:=h;have hma:((m:Int)-(a:Int) == 1)=false:=by simpa using(by omega:¬(m:Int)-(a:Int)=1)
 have hmb:((b:Int)-(m:Int) == 1)=false:=by simpa using(by omega:¬(b:Int)-(m:Int)=1)
 have H0:Hid _:=hR;have b2:Hid _:=b4;have b3:Hid _:=b5;have HB:Hid _:=a9;have HL:Hid _:=And.intro ha (And.intro hm (And.intro hb (And.intro hN (And.intro aE aG))));have b7:∀ t z,A[t]?=some z->(X++A++B++Y)[a+t]?=some z:=fun t z hz=>by
  have ht:=bN hz;rw[aD4 (by simp;omega),aD4 (by simp;omega),aC8 (by omega)];rw[show a+t-X.length=t by omega];exact hz
 have b9:∀ t z,B[t]?=some z->(X++A++B++Y)[m+t]?=some z:=fun t z hz=>by
  have ht:=bN hz;rw[aD4 (by simp;omega),aC8 (by simp;omega)];rw[show m+t-(X++A).length=t by simp;omega];exact hz
 have HAA:Hid _:=b7;have HBA:Hid _:=b9;have b1:Hid _:=IH;have ham:a+2<=m:=by omega
 have hmb2:m+2<=b:=by omega
 have hbN:b<=N:=by omega
 clear hR ha hm hb hN b4 b5 a9 b7 b9 aE aG IH;obtain⟨mid,bS⟩:∃ mid,mid=(a+b) / 2:=⟨_,rfl⟩;have hmidI:((a:Int)+(b:Int)) / 2=(mid:Int):=by omega
 obtain⟨p,hp⟩:∃ p,p=mid+m-1:=⟨_,rfl⟩;have hpI:(mid:Int)+(m:Int)-1=(p:Int):=by omega
 obtain⟨s0,hs⟩:∃ s0,s0=(if m>mid then mid+m-b else a):=⟨_,rfl⟩;obtain⟨r0,hr⟩:∃ r0,r0=(if m>mid then mid else m):=⟨_,rfl⟩;have hsr:s0<=r0:=by rw[hs,hr];split <;> omega
 have HC0:Hid (∀ c,s0<=c->c<r0->a<=c/\c<m/\m<=p-c/\p-c<b):=(by
  intro c h1 h2;rw[hs]at h1;rw[hr]at h2;split at h1 <;> split at h2 <;> omega:∀ c,_)
 have HE0:Hid (a<=s0/\r0<=m/\r0<=mid/\mid+m<=s0+b/\(s0=a\/s0+b=mid+m)/\(r0=m\/r0=mid)):=(by
  rw[hs,hr];split <;> omega:_/\_)
 have hmidb:mid<b:=by omega
 have hamid:a+2<=mid:=by omega
 have hpN:p<2*N:=by omega
 have HM:Hid (mid=(a+b) / 2/\p=mid+m-1):=(⟨bS,hp⟩:_/\_);show Calls Tryz.prog 207 _ _ _;clear bS hp;by_cases hmm:m>mid;case' pos =>
  rw[if_pos hmm]at hs hr;have hs0I:(mid:Int)+(m:Int)-(b:Int)=(s0:Int):=by omega
  have HEs:Hid (Value.int .i64 (s0:Int) = .int .i64 (s0:Int)):=(rfl:_=_);have HEr:Hid (Value.int .i64 (mid:Int) = .int .i64 (r0:Int)):=(by rw[hr]:_=_)
 case' neg =>
  rw[if_neg hmm]at hs hr;have HEs:Hid (Value.int .i64 (a:Int) = .int .i64 (s0:Int)):=(by rw[hs]:_=_);have HEr:Hid (Value.int .i64 (m:Int) = .int .i64 (r0:Int)):=(by rw[hr]:_=_)
 all_goals
  have hrN:r0<=N:=by omega
  clear hs hr;go_enter Tryz.func207,Tryz.ntmps207
  go_wp2;go_loopw [20,21] (fun ss sr wr=>∃ s r:Nat,s0<=s/\s<=r/\r<=r0/\ss = .int .i64 (s:Int)/\sr = .int .i64 (r:Int)/\Hid (aR wr g cap (X++A++B++Y)/\w.grownBy wr (some g)/\(∀ c x y,s0<=c->c<s->A[c-a]?=some x->B[p-c-m]?=some y->x.2.1<=y.2.1)/\(∀ c x y,r<=c->c<r0->A[c-a]?=some x->B[p-c-m]?=some y->y.2.1<x.2.1))) (fun ss sr _=>(intOf sr).toNat-(intOf ss).toNat)
  case atStart=>exact⟨s0,r0,V7 _,hsr,V7 _,(by first | rfl | exact HEs.out),(by first | rfl | exact HEr.out),H0.out,⟨rfl,rfl,rfl,V7 _,fun _ _ _=>rfl⟩,fun c x y _ h2=>by omega,fun c x y h1 h2=>by omega⟩
  case round =>
   obtain⟨s,r,cB,hsr2,cA,rfl,rfl,HI⟩:=hrel;by_cases hlt:s<r
   ·obtain⟨c,hc⟩:∃ c,c=(s+r) / 2:=⟨_,rfl⟩;have hh:((s:Int)+(r:Int)) / 2=(c:Int):=by omega
    have hcs:s<=c:=by omega
    have hcr:c<r:=by omega
    obtain⟨hca,hcm,hpm,hpb⟩:=HC0.out c (by omega) (by omega);obtain⟨d,hd⟩:∃ d,d=p-c:=⟨_,rfl⟩;have hpc:(p:Int)-(c:Int)=(d:Int):=by omega
    have hdw:IntKind.i64.wrap (d:Int)=(d:Int):=by rw[aK6];omega
    obtain⟨z,hz⟩:∃ z,A[c-a]?=some z:=⟨_,A7 (by have:=HL.out;omega)⟩;obtain⟨y,hy⟩:∃ y,B[d-m]?=some y:=⟨_,A7 (by have:=HL.out;omega)⟩;have cD:=HAA.out _ _ hz;rw[show a+(c-a)=c by omega]at cD;have cC:=HBA.out _ _ hy;rw[show m+(d-m)=d by omega]at cC;obtain⟨c0,c1,c2⟩:=HI.out.1.cells cD;obtain⟨d0,d1,d2⟩:=HI.out.1.cells cC;have HZ:Hid _:=And.intro hz hy;have hcN:c<N:=by omega
    have hdN:d<N:=by omega
    have HD:Hid _:=And.intro hd (And.intro hpm hpb);clear hz hy cD cC hc hd hpm hpb;have HX:Hid (aR wr g cap (X++A++B++Y)/\w.grownBy wr (some g)):=(⟨HI.out.1,HI.out.2.1⟩:_/\_);have HP:Hid ((∀ c x y,s0<=c->c<s->A[c-a]?=some x->B[p-c-m]?=some y->x.2.1<=y.2.1)/\(∀ c x y,r<=c->c<r0->A[c-a]?=some x->B[p-c-m]?=some y->y.2.1<x.2.1)):=HI.out.2.2;clear HI;obtain⟨y1,y2,y3⟩:=y;obtain⟨z1,z2,z3⟩:=z;dsimp only at c0 c1 c2 d0 d1 d2;have HC:∀ W,Hid (Calls Tryz.prog 106 _ W _):=fun W=>jY y1 y2 y3 z1 z2 z3 W;have c7:=zR y2 z2;by_cases hcc:y2<z2
    ·have hcl:decide (Lib.compareInt y2 z2<0)=true:=decide_eq_true (c7.2 hcc);clear c7;go_upto_region 35 with fail
     go_region_held (fun w'=>w'.cell? ⟨g,d*3,none⟩=some (.int .i64 y1)/\w'.cell? ⟨g,d*3+1,none⟩=some (.int .i64 y2)/\w'.cell? ⟨g,d*3+2,none⟩=some (.int .i64 y3)/\w'.cell? ⟨g,c*3,none⟩=some (.int .i64 z1)/\w'.cell? ⟨g,c*3+1,none⟩=some (.int .i64 z2)/\w'.cell? ⟨g,c*3+2,none⟩=some (.int .i64 z3)) (refine⟨?_,?_,?_,?_,?_,?_⟩ <;> (repeat (first | assumption | apply fZ | apply dL)))
      (first
       | (go_at_call 106;refine(aC0 (HC _).out ?_);rintro e w' ⟨rfl,rfl⟩))
     have H2:Hid _:=qH HX.out (.cells #[.int .i64 y1,.int .i64 y2,.int .i64 y3] 38) (.cells #[.int .i64 z1,.int .i64 z2,.int .i64 z3] 38);clear c0 c1 c2 d0 d1 d2;revert H2;generalize (wr.alloc _).alloc _=W2;intro H2;go_wp2;go_roundw;case rel=>exact⟨s,c,cB,by omega,by omega,rfl,rfl,H2.out.1,lK H2.out.2,HP.out.1,fun e u v h1 h2 hu hv=>by
      have k1:=lJ b2.out HZ.out.1 hu (by omega);have k2:=lJ b3.out hv HZ.out.2 (by have:=HD.out;omega);have k3:z2<=u.2.1:=k1;have k4:v.2.1<=y2:=k2;omega⟩
     case measure=>simp[intOf];omega
    ·have hcl:decide (Lib.compareInt y2 z2<0)=false:=decide_eq_false (fun h=>hcc (c7.1 h));clear c7;go_upto_region 35 with fail
     go_region_held (fun w'=>w'.cell? ⟨g,d*3,none⟩=some (.int .i64 y1)/\w'.cell? ⟨g,d*3+1,none⟩=some (.int .i64 y2)/\w'.cell? ⟨g,d*3+2,none⟩=some (.int .i64 y3)/\w'.cell? ⟨g,c*3,none⟩=some (.int .i64 z1)/\w'.cell? ⟨g,c*3+1,none⟩=some (.int .i64 z2)/\w'.cell? ⟨g,c*3+2,none⟩=some (.int .i64 z3)) (refine⟨?_,?_,?_,?_,?_,?_⟩ <;> (repeat (first | assumption | apply fZ | apply dL)))
      (first
       | (go_at_call 106;refine(aC0 (HC _).out ?_);rintro e w' ⟨rfl,rfl⟩))
     have H2:Hid _:=qH HX.out (.cells #[.int .i64 y1,.int .i64 y2,.int .i64 y3] 38) (.cells #[.int .i64 z1,.int .i64 z2,.int .i64 z3] 38);clear c0 c1 c2 d0 d1 d2;revert H2;generalize (wr.alloc _).alloc _=W2;intro H2;go_wp2;go_roundw;case rel=>exact⟨c+1,r,by omega,by omega,cA,by go_num,rfl,H2.out.1,lK H2.out.2,fun e u v h1 h2 hu hv=>by
      have k1:=lJ b2.out hu HZ.out.1 (by omega);have k2:=lJ b3.out HZ.out.2 hv (by have:=HD.out;omega);have k3:u.2.1<=z2:=k1;have k4:y2<=v.2.1:=k2;omega,HP.out.2⟩
     case measure=>simp[intOf];omega
   ·obtain rfl:s=r:=by omega
    have c8:=HM.out.2;have hEo:=HE0.out;obtain⟨e,he⟩:∃ e,e=mid+m-s:=⟨_,rfl⟩;have heI:(mid:Int)+(m:Int)-(s:Int)=(e:Int):=by omega
    have HH0:Hid _:=VE (s:=s) (mid:=mid) (s0:=s0) (r0:=r0) HL.out.2.1 HL.out.2.2.1 b2.out b3.out HB.out HE0.out cB cA (by rw[<-c8];exact HI.out.2.2.1) (by rw[<-c8];exact HI.out.2.2.2);have eA:=aD5 (s-a) A;have eB:=aD5 (mid-s) B;have cE:a+(A.take (s-a)).length=s:=by rw[aD7];have:=HL.out;omega
    have cF:s+(A.drop (s-a)).length=m:=by rw[aE1];have:=HL.out;omega
    have cG:s+(B.take (mid-s)).length=mid:=by rw[aD7];have:=HL.out;omega
    have cH:e+(B.drop (mid-s)).length=b:=by rw[aE1];have:=HL.out;omega
    obtain⟨A1,b6⟩:∃ A1,A1=A.take (s-a):=⟨_,rfl⟩;obtain⟨A2,aE⟩:∃ A2,A2=A.drop (s-a):=⟨_,rfl⟩;obtain⟨B1,b8⟩:∃ B1,B1=B.take (mid-s):=⟨_,rfl⟩;obtain⟨B2,aG⟩:∃ B2,B2=B.drop (mid-s):=⟨_,rfl⟩;rw[<-b6,<-aE]at eA;rw[<-b8,<-aG]at eB;rw[<-b6]at cE;rw[<-aE]at cF;rw[<-b8]at cG;rw[<-aG]at cH;have HH:Hid (∀ M1 M2:List E3,M1.Perm (A1++B1)->M2.Perm (A2++B2)->Gm.S2 M1->Gm.S2 M2->Gm.S2 (M1++M2)/\(M1++M2).Perm (A++B)):=(by rw[b6,aE,b8,aG];exact HH0.out:∀ M1 M2:List E3,_);have a1:Hid (Gm.S2 A1/\Gm.S2 A2/\Gm.S2 B1/\Gm.S2 B2/\(∀ x∈A1,∀ y∈B1,Gm.ltE x y=true)/\(∀ x∈A2,∀ y∈B2,Gm.ltE x y=true)):=(by
     rw[b6,aE,b8,aG];exact⟨b2.out.sublist (List.take_sublist _ _),b2.out.sublist (List.drop_sublist _ _),b3.out.sublist (List.take_sublist _ _),b3.out.sublist (List.drop_sublist _ _),fun x hx y hy=>HB.out x (List.mem_of_mem_take hx) y (List.mem_of_mem_take hy),fun x hx y hy=>HB.out x (List.mem_of_mem_drop hx) y (List.mem_of_mem_drop hy)⟩:_/\_)
    have a0:Hid (a+A1.length=s/\s+A2.length=m/\s+B1.length=mid/\e+B2.length=b/\A.length=A1.length+A2.length/\B.length=B1.length+B2.length/\e=mid+m-s):=(⟨cE,cF,cG,cH,by rw[<-eA,WT],by rw[<-eB,WT],he⟩:_/\_);have b0:Hid (aR wr g cap (X++A1++A2++B1++(B2++Y))):=(by
     have h:=HI.out.1;rw[<-eA,<-eB]at h;simpa using h:aR _ _ _ _)
    have aL:Hid (w.grownBy wr (some g)):=HI.out.2.1;have hsm:s<=m:=by omega
    have hsmid:s<=mid:=by omega
    have has:a<=s:=by omega
    have heb:e<=b:=by omega
    have hme:m<=e:=by omega
    have hmide:mid<=e:=by omega
    have hnse:e+s=mid+m:=by omega
    clear HI HH0 eA eB cE cF cG cH b6 aE b8 aG c8 hEo he b2 b3;by_cases qA1:a<s
    ·by_cases qA2:s<m
     ·by_cases qB1:s<mid
      ·by_cases qB2:e<b
       ·have f1:(s:Int)<(m:Int):=by omega
        have f2:(m:Int)<(e:Int):=by omega
        have f3:(a:Int)<(s:Int):=by omega
        have f4:(s:Int)<(mid:Int):=by omega
        have f5:(mid:Int)<(e:Int):=by omega
        have f6:(e:Int)<(b:Int):=by omega
        have HC:Hid (Calls Tryz.prog 215 _ wr _):=yU (X++A1) A2 B1 (B2++Y) s m e N g cap (.func (.func 106) #[] #[]) wr b0.out (by rw[WT];have:=HL.out;have:=a0.out;omega) (by have:=a0.out;omega) (by have:=a0.out;omega) (by rw[WT];have:=HL.out;have:=a0.out;omega) (fun e=>by have:=a0.out;rw[e]at this;simp at this;omega) (fun e=>by have:=a0.out;rw[e]at this;simp at this;omega) hl;go_wp2_with fail
        refine(aC0 HC.out ?_);rintro e9 w1 ⟨rfl,hr9,hg9⟩;have a7:Hid (aR w1 g cap (X++A1++B1++(A2++(B2++Y)))):=(by simpa using hr9:aR _ _ _ _);have a5:Hid (w.grownBy w1 (some g)):=aL.out.trans hg9;clear hr9 hg9 HC;have HC:Hid (Calls Tryz.prog 207 _ w1 _):=b1.out X A1 B1 (A2++(B2++Y)) a s mid w1 (by have:=HL.out;have:=a0.out;omega) ⟨by simpa using a7.out,HL.out.1,by have:=a0.out;omega,by have:=a0.out;omega,by simp only[WT];have:=HL.out;have:=a0.out;omega,a1.out.1,a1.out.2.2.1,a1.out.2.2.2.2.1,(fun e=>by have:=a0.out;rw[e]at this;simp at this;omega),(fun e=>by have:=a0.out;rw[e]at this;simp at this;omega)⟩;go_wp2_with fail
        refine(aC0 HC.out ?_);rintro e9 w2 ⟨rfl,⟨M1,hr9,hp1,hs1⟩,hg9⟩;have a8:Hid (aR w2 g cap (X++M1++(A2++(B2++Y)))):=(by simpa using hr9:aR _ _ _ _);have a6:Hid (w.grownBy w2 (some g)):=a5.out.trans hg9;have a2:Hid (M1.Perm (A1++B1)/\Gm.S2 M1):=And.intro hp1 hs1;clear hr9 hg9 HC hp1 hs1;have HC:Hid (Calls Tryz.prog 207 _ w2 _):=b1.out (X++M1) A2 B2 Y mid e b w2 (by have:=HL.out;have:=a0.out;omega) ⟨by simpa using a8.out,by rw[WT,a2.out.1.length_eq,WT];have:=HL.out;have:=a0.out;omega,by have:=a0.out;omega,by have:=a0.out;omega,by have:=HL.out;omega,a1.out.2.1,a1.out.2.2.2.1,a1.out.2.2.2.2.2,(fun e=>by have:=a0.out;rw[e]at this;simp at this;omega),(fun e=>by have:=a0.out;rw[e]at this;simp at this;omega)⟩;go_wp2_with fail
        refine(aC0 HC.out ?_);rintro e9 w3 ⟨rfl,⟨M2,hr9,hp1,hs1⟩,hg9⟩;have a3:Hid ((∃ M,aR w3 g cap (X++M++Y)/\M.Perm (A++B)/\Gm.S2 M)/\w.grownBy w3 (some g)):=(by
         have hh:=HH.out M1 M2 a2.out.1 hp1 a2.out.2 hs1;exact⟨⟨M1++M2,by simpa using hr9,hh.2,hh.1⟩,a6.out.trans hg9⟩:_/\_)
        clear hr9 hg9 HC hp1 hs1;go_wp2;all_goals go_end0
        all_goals (first | exact⟨rfl,a3.out⟩ | exact⟨rfl,by simpa using a3.out⟩)
       ·have f1:(s:Int)<(m:Int):=by omega
        have f2:(m:Int)<(e:Int):=by omega
        have f3:(a:Int)<(s:Int):=by omega
        have f4:(s:Int)<(mid:Int):=by omega
        have f5:(mid:Int)<(e:Int):=by omega
        have f6:¬(e:Int)<(b:Int):=by omega
        have HC:Hid (Calls Tryz.prog 215 _ wr _):=yU (X++A1) A2 B1 (B2++Y) s m e N g cap (.func (.func 106) #[] #[]) wr b0.out (by rw[WT];have:=HL.out;have:=a0.out;omega) (by have:=a0.out;omega) (by have:=a0.out;omega) (by rw[WT];have:=HL.out;have:=a0.out;omega) (fun e=>by have:=a0.out;rw[e]at this;simp at this;omega) (fun e=>by have:=a0.out;rw[e]at this;simp at this;omega) hl;go_wp2_with fail
        refine(aC0 HC.out ?_);rintro e9 w1 ⟨rfl,hr9,hg9⟩;have a7:Hid (aR w1 g cap (X++A1++B1++(A2++(B2++Y)))):=(by simpa using hr9:aR _ _ _ _);have a5:Hid (w.grownBy w1 (some g)):=aL.out.trans hg9;clear hr9 hg9 HC;have HC:Hid (Calls Tryz.prog 207 _ w1 _):=b1.out X A1 B1 (A2++(B2++Y)) a s mid w1 (by have:=HL.out;have:=a0.out;omega) ⟨by simpa using a7.out,HL.out.1,by have:=a0.out;omega,by have:=a0.out;omega,by simp only[WT];have:=HL.out;have:=a0.out;omega,a1.out.1,a1.out.2.2.1,a1.out.2.2.2.2.1,(fun e=>by have:=a0.out;rw[e]at this;simp at this;omega),(fun e=>by have:=a0.out;rw[e]at this;simp at this;omega)⟩;go_wp2_with fail
        refine(aC0 HC.out ?_);rintro e9 w2 ⟨rfl,⟨M1,hr9,hp1,hs1⟩,hg9⟩;have a8:Hid (aR w2 g cap (X++M1++(A2++(B2++Y)))):=(by simpa using hr9:aR _ _ _ _);have a6:Hid (w.grownBy w2 (some g)):=a5.out.trans hg9;have a2:Hid (M1.Perm (A1++B1)/\Gm.S2 M1):=And.intro hp1 hs1;clear hr9 hg9 HC hp1 hs1;have a3:Hid ((∃ M,aR w2 g cap (X++M++Y)/\M.Perm (A++B)/\Gm.S2 M)/\w.grownBy w2 (some g)):=(by
         obtain e8:B2=[]:=aD8 (by have:=a0.out;omega);have hh:=HH.out M1 (A2++B2) a2.out.1 (aK7 _) a2.out.2 (by rw[e8,aE4];exact a1.out.2.1);exact⟨⟨M1++(A2++B2),by simpa using a8.out,hh.2,hh.1⟩,a6.out⟩:_/\_)
        go_wp2;all_goals go_end0
        all_goals (first | exact⟨rfl,a3.out⟩ | exact⟨rfl,by simpa using a3.out⟩)
      ·by_cases qB2:e<b
       ·have f1:(s:Int)<(m:Int):=by omega
        have f2:¬(m:Int)<(e:Int):=by omega
        have f3:(a:Int)<(s:Int):=by omega
        have f4:¬(s:Int)<(mid:Int):=by omega
        have f5:(mid:Int)<(e:Int):=by omega
        have f6:(e:Int)<(b:Int):=by omega
        have a7:Hid (aR wr g cap (X++A1++B1++(A2++(B2++Y)))):=(by
         obtain e8:B1=[]:=aD8 (by have:=a0.out;omega);have h:=b0.out;rw[e8]at h ⊢;simpa using h:aR _ _ _ _)
        have a5:Hid (w.grownBy wr (some g)):=aL.out;obtain⟨M1,a4⟩:∃ M1,M1=A1++B1:=⟨_,rfl⟩;have a8:Hid (aR wr g cap (X++M1++(A2++(B2++Y)))):=(by rw[a4];simpa using a7.out:aR _ _ _ _);have a6:Hid (w.grownBy wr (some g)):=a5.out;have a2:Hid (M1.Perm (A1++B1)/\Gm.S2 M1):=(by
         rw[a4];obtain e8:B1=[]:=aD8 (by have:=a0.out;omega);exact⟨aK7 _,by rw[e8,aE4];exact a1.out.1⟩:_/\_)
        clear a4;have HC:Hid (Calls Tryz.prog 207 _ wr _):=b1.out (X++M1) A2 B2 Y mid e b wr (by have:=HL.out;have:=a0.out;omega) ⟨by simpa using a8.out,by rw[WT,a2.out.1.length_eq,WT];have:=HL.out;have:=a0.out;omega,by have:=a0.out;omega,by have:=a0.out;omega,by have:=HL.out;omega,a1.out.2.1,a1.out.2.2.2.1,a1.out.2.2.2.2.2,(fun e=>by have:=a0.out;rw[e]at this;simp at this;omega),(fun e=>by have:=a0.out;rw[e]at this;simp at this;omega)⟩;go_wp2_with fail
        refine(aC0 HC.out ?_);rintro e9 w3 ⟨rfl,⟨M2,hr9,hp1,hs1⟩,hg9⟩;have a3:Hid ((∃ M,aR w3 g cap (X++M++Y)/\M.Perm (A++B)/\Gm.S2 M)/\w.grownBy w3 (some g)):=(by
         have hh:=HH.out M1 M2 a2.out.1 hp1 a2.out.2 hs1;exact⟨⟨M1++M2,by simpa using hr9,hh.2,hh.1⟩,a6.out.trans hg9⟩:_/\_)
        clear hr9 hg9 HC hp1 hs1;go_wp2;all_goals go_end0
        all_goals (first | exact⟨rfl,a3.out⟩ | exact⟨rfl,by simpa using a3.out⟩)
       ·exfalso;have:=HL.out;have:=a0.out;have:=HM.out;omega
     ·by_cases qB1:s<mid
      ·by_cases qB2:e<b
       ·have f1:¬(s:Int)<(m:Int):=by omega
        have f2:(m:Int)<(e:Int):=by omega
        have f3:(a:Int)<(s:Int):=by omega
        have f4:(s:Int)<(mid:Int):=by omega
        have f5:¬(mid:Int)<(e:Int):=by omega
        have f6:(e:Int)<(b:Int):=by omega
        have a7:Hid (aR wr g cap (X++A1++B1++(A2++(B2++Y)))):=(by
         obtain e8:A2=[]:=aD8 (by have:=a0.out;omega);have h:=b0.out;rw[e8]at h ⊢;simpa using h:aR _ _ _ _)
        have a5:Hid (w.grownBy wr (some g)):=aL.out;have HC:Hid (Calls Tryz.prog 207 _ wr _):=b1.out X A1 B1 (A2++(B2++Y)) a s mid wr (by have:=HL.out;have:=a0.out;omega) ⟨by simpa using a7.out,HL.out.1,by have:=a0.out;omega,by have:=a0.out;omega,by simp only[WT];have:=HL.out;have:=a0.out;omega,a1.out.1,a1.out.2.2.1,a1.out.2.2.2.2.1,(fun e=>by have:=a0.out;rw[e]at this;simp at this;omega),(fun e=>by have:=a0.out;rw[e]at this;simp at this;omega)⟩;go_wp2_with fail
        refine(aC0 HC.out ?_);rintro e9 w2 ⟨rfl,⟨M1,hr9,hp1,hs1⟩,hg9⟩;have a8:Hid (aR w2 g cap (X++M1++(A2++(B2++Y)))):=(by simpa using hr9:aR _ _ _ _);have a6:Hid (w.grownBy w2 (some g)):=a5.out.trans hg9;have a2:Hid (M1.Perm (A1++B1)/\Gm.S2 M1):=And.intro hp1 hs1;clear hr9 hg9 HC hp1 hs1;have a3:Hid ((∃ M,aR w2 g cap (X++M++Y)/\M.Perm (A++B)/\Gm.S2 M)/\w.grownBy w2 (some g)):=(by
         obtain e8:A2=[]:=aD8 (by have:=a0.out;omega);have hh:=HH.out M1 (A2++B2) a2.out.1 (aK7 _) a2.out.2 (by rw[e8];exact a1.out.2.2.2.1);exact⟨⟨M1++(A2++B2),by simpa using a8.out,hh.2,hh.1⟩,a6.out⟩:_/\_)
        go_wp2;all_goals go_end0
        all_goals (first | exact⟨rfl,a3.out⟩ | exact⟨rfl,by simpa using a3.out⟩)
       ·exfalso;have:=HL.out;have:=a0.out;have:=HM.out;omega
      ·by_cases qB2:e<b
       ·have f1:¬(s:Int)<(m:Int):=by omega
        have f2:¬(m:Int)<(e:Int):=by omega
        have f3:(a:Int)<(s:Int):=by omega
        have f4:¬(s:Int)<(mid:Int):=by omega
        have f5:¬(mid:Int)<(e:Int):=by omega
        have f6:(e:Int)<(b:Int):=by omega
        have a7:Hid (aR wr g cap (X++A1++B1++(A2++(B2++Y)))):=(by
         obtain e8:A2=[]:=aD8 (by have:=a0.out;omega);have h:=b0.out;rw[e8]at h ⊢;simpa using h:aR _ _ _ _)
        have a5:Hid (w.grownBy wr (some g)):=aL.out;obtain⟨M1,a4⟩:∃ M1,M1=A1++B1:=⟨_,rfl⟩;have a8:Hid (aR wr g cap (X++M1++(A2++(B2++Y)))):=(by rw[a4];simpa using a7.out:aR _ _ _ _);have a6:Hid (w.grownBy wr (some g)):=a5.out;have a2:Hid (M1.Perm (A1++B1)/\Gm.S2 M1):=(by
         rw[a4];obtain e8:B1=[]:=aD8 (by have:=a0.out;omega);exact⟨aK7 _,by rw[e8,aE4];exact a1.out.1⟩:_/\_)
        clear a4;have a3:Hid ((∃ M,aR wr g cap (X++M++Y)/\M.Perm (A++B)/\Gm.S2 M)/\w.grownBy wr (some g)):=(by
         obtain e8:A2=[]:=aD8 (by have:=a0.out;omega);have hh:=HH.out M1 (A2++B2) a2.out.1 (aK7 _) a2.out.2 (by rw[e8];exact a1.out.2.2.2.1);exact⟨⟨M1++(A2++B2),by simpa using a8.out,hh.2,hh.1⟩,a6.out⟩:_/\_)
        go_wp2;all_goals go_end0
        all_goals (first | exact⟨rfl,a3.out⟩ | exact⟨rfl,by simpa using a3.out⟩)
       ·exfalso;have:=HL.out;have:=a0.out;have:=HM.out;omega
    ·by_cases qA2:s<m
     ·by_cases qB1:s<mid
      ·by_cases qB2:e<b
       ·have f1:(s:Int)<(m:Int):=by omega
        have f2:(m:Int)<(e:Int):=by omega
        have f3:¬(a:Int)<(s:Int):=by omega
        have f4:(s:Int)<(mid:Int):=by omega
        have f5:(mid:Int)<(e:Int):=by omega
        have f6:(e:Int)<(b:Int):=by omega
        have HC:Hid (Calls Tryz.prog 215 _ wr _):=yU (X++A1) A2 B1 (B2++Y) s m e N g cap (.func (.func 106) #[] #[]) wr b0.out (by rw[WT];have:=HL.out;have:=a0.out;omega) (by have:=a0.out;omega) (by have:=a0.out;omega) (by rw[WT];have:=HL.out;have:=a0.out;omega) (fun e=>by have:=a0.out;rw[e]at this;simp at this;omega) (fun e=>by have:=a0.out;rw[e]at this;simp at this;omega) hl;go_wp2_with fail
        refine(aC0 HC.out ?_);rintro e9 w1 ⟨rfl,hr9,hg9⟩;have a7:Hid (aR w1 g cap (X++A1++B1++(A2++(B2++Y)))):=(by simpa using hr9:aR _ _ _ _);have a5:Hid (w.grownBy w1 (some g)):=aL.out.trans hg9;clear hr9 hg9 HC;obtain⟨M1,a4⟩:∃ M1,M1=A1++B1:=⟨_,rfl⟩;have a8:Hid (aR w1 g cap (X++M1++(A2++(B2++Y)))):=(by rw[a4];simpa using a7.out:aR _ _ _ _);have a6:Hid (w.grownBy w1 (some g)):=a5.out;have a2:Hid (M1.Perm (A1++B1)/\Gm.S2 M1):=(by
         rw[a4];obtain e8:A1=[]:=aD8 (by have:=a0.out;omega);exact⟨aK7 _,by rw[e8];exact a1.out.2.2.1⟩:_/\_)
        clear a4;have HC:Hid (Calls Tryz.prog 207 _ w1 _):=b1.out (X++M1) A2 B2 Y mid e b w1 (by have:=HL.out;have:=a0.out;omega) ⟨by simpa using a8.out,by rw[WT,a2.out.1.length_eq,WT];have:=HL.out;have:=a0.out;omega,by have:=a0.out;omega,by have:=a0.out;omega,by have:=HL.out;omega,a1.out.2.1,a1.out.2.2.2.1,a1.out.2.2.2.2.2,(fun e=>by have:=a0.out;rw[e]at this;simp at this;omega),(fun e=>by have:=a0.out;rw[e]at this;simp at this;omega)⟩;go_wp2_with fail
        refine(aC0 HC.out ?_);rintro e9 w3 ⟨rfl,⟨M2,hr9,hp1,hs1⟩,hg9⟩;have a3:Hid ((∃ M,aR w3 g cap (X++M++Y)/\M.Perm (A++B)/\Gm.S2 M)/\w.grownBy w3 (some g)):=(by
         have hh:=HH.out M1 M2 a2.out.1 hp1 a2.out.2 hs1;exact⟨⟨M1++M2,by simpa using hr9,hh.2,hh.1⟩,a6.out.trans hg9⟩:_/\_)
        clear hr9 hg9 HC hp1 hs1;go_wp2;all_goals go_end0
        all_goals (first | exact⟨rfl,a3.out⟩ | exact⟨rfl,by simpa using a3.out⟩)
       ·have f1:(s:Int)<(m:Int):=by omega
        have f2:(m:Int)<(e:Int):=by omega
        have f3:¬(a:Int)<(s:Int):=by omega
        have f4:(s:Int)<(mid:Int):=by omega
        have f5:(mid:Int)<(e:Int):=by omega
        have f6:¬(e:Int)<(b:Int):=by omega
        have HC:Hid (Calls Tryz.prog 215 _ wr _):=yU (X++A1) A2 B1 (B2++Y) s m e N g cap (.func (.func 106) #[] #[]) wr b0.out (by rw[WT];have:=HL.out;have:=a0.out;omega) (by have:=a0.out;omega) (by have:=a0.out;omega) (by rw[WT];have:=HL.out;have:=a0.out;omega) (fun e=>by have:=a0.out;rw[e]at this;simp at this;omega) (fun e=>by have:=a0.out;rw[e]at this;simp at this;omega) hl;go_wp2_with fail
        refine(aC0 HC.out ?_);rintro e9 w1 ⟨rfl,hr9,hg9⟩;have a7:Hid (aR w1 g cap (X++A1++B1++(A2++(B2++Y)))):=(by simpa using hr9:aR _ _ _ _);have a5:Hid (w.grownBy w1 (some g)):=aL.out.trans hg9;clear hr9 hg9 HC;obtain⟨M1,a4⟩:∃ M1,M1=A1++B1:=⟨_,rfl⟩;have a8:Hid (aR w1 g cap (X++M1++(A2++(B2++Y)))):=(by rw[a4];simpa using a7.out:aR _ _ _ _);have a6:Hid (w.grownBy w1 (some g)):=a5.out;have a2:Hid (M1.Perm (A1++B1)/\Gm.S2 M1):=(by
         rw[a4];obtain e8:A1=[]:=aD8 (by have:=a0.out;omega);exact⟨aK7 _,by rw[e8];exact a1.out.2.2.1⟩:_/\_)
        clear a4;have a3:Hid ((∃ M,aR w1 g cap (X++M++Y)/\M.Perm (A++B)/\Gm.S2 M)/\w.grownBy w1 (some g)):=(by
         obtain e8:B2=[]:=aD8 (by have:=a0.out;omega);have hh:=HH.out M1 (A2++B2) a2.out.1 (aK7 _) a2.out.2 (by rw[e8,aE4];exact a1.out.2.1);exact⟨⟨M1++(A2++B2),by simpa using a8.out,hh.2,hh.1⟩,a6.out⟩:_/\_)
        go_wp2;all_goals go_end0
        all_goals (first | exact⟨rfl,a3.out⟩ | exact⟨rfl,by simpa using a3.out⟩)
      ·by_cases qB2:e<b
       ·exfalso;have:=HL.out;have:=a0.out;have:=HM.out;omega
       ·exfalso;have:=HL.out;have:=a0.out;have:=HM.out;omega
     ·by_cases qB1:s<mid
      ·by_cases qB2:e<b
       ·exfalso;have:=HL.out;have:=a0.out;have:=HM.out;omega
       ·exfalso;have:=HL.out;have:=a0.out;have:=HM.out;omega
      ·by_cases qB2:e<b
       ·exfalso;have:=HL.out;have:=a0.out;have:=HM.out;omega
       ·exfalso;have:=HL.out;have:=a0.out;have:=HM.out;omega
end Go.Proofs.YtphjbbbnbmafnaaGreatDoor.G
