/- Parts: Dec. -/
import Derived.Test.YtphjbbbnbmafnaaGreatDoorPEdg
namespace Go.Proofs.YtphjbbbnbmafnaaGreatDoor.G
open Go.RowKit
variable {m t:List Bool} {K a j k n np s:Nat} {l:List E3} {img:ByteArray}
def At(t:List Bool)(a:Nat)(m:List Bool):Prop:=∀ i,i<m.length->t.getD (a+i) false=m.getD i false
theorem At.left{l:List Bool}(h:At t a (l++m)):At t a l:=fun i hi=>by
 have:=h i (by rw[WT];omega);rw[this,aC1,aC1,aD4 hi]
theorem At.right{l:List Bool}(h:At t a (l++m)):At t (a+l.length) m:=fun i hi=>by
 have:=h (l.length+i) (by rw[WT];omega);rw[Nat.add_assoc,this,aC1,aC1,aC8 (by omega),Nat.add_sub_cancel_left]
theorem At.sub(h:At t a m):sub t a m.length=m:=by
 apply aG6;intro i;unfold G.sub;by_cases hi:i<m.length
 ·rw[aD0,aI7 hi,A7 hi];have:=h i hi;rw[aC1 (l:=m),A7 hi]at this;simp only[aH9,this];rfl
 ·rw[aC7 (by simp;omega),aC7 (by omega)]
theorem wL:∀(k n:Nat),numOf (dD k n)=n % 2 ^ k
 | 0,n=>by simp[dD,numOf,Nat.mod_one]
 | k+1,n=>by
  have h:∀(l:List Bool) (c:Nat),l.foldl (fun n b=>2*n+b.toNat) c=c*2 ^ l.length+numOf l:=by
   intro l
   induction l with
   | nil=>intro c;simp[numOf]
   | cons b l ih =>
    intro c;unfold numOf at *;rw[List.foldl_cons,ih,List.foldl_cons,ih (2*0+b.toNat),aE7,Nat.pow_succ,Nat.add_mul];simp;rw[<-Nat.add_assoc,Nat.mul_comm 2 c,Nat.mul_assoc,Nat.mul_comm 2]
  unfold dD;unfold numOf;rw[List.foldl_cons,h,aU,wL k n,Nat.mod_pow_succ,Nat.testBit,Nat.shiftRight_eq_div_pow];have:(1 &&& n / 2 ^ k != 0).toNat=n / 2 ^ k % 2:=by
   rw[Nat.and_comm,Nat.and_one_is_mod];rcases Nat.mod_two_eq_zero_or_one (n / 2 ^ k)with e | e <;> rw[e] <;> rfl
  rw[Nat.mul_zero,aG1,this,Nat.mul_comm,Nat.add_comm]
theorem LQ(l:List Bool):dD l.length (numOf l)=l:=by
 have hl:∀(k n:Nat) (b:Bool),dD (k+1) (2*n+b.toNat)=dD k n++[b]:=by
  intro k
  induction k with
  | zero=>intro n b;cases b <;> simp[dD] <;> omega
  | succ k ih =>
   intro n b;unfold dD;rw[ih,Nat.testBit_succ,show(2*n+b.toNat) / 2=n by cases b <;> simp <;> omega,aG9]
 have hr:∀ m:List Bool,dD m.reverse.length (numOf m.reverse)=m.reverse:=by
  intro m
  induction m with
  | nil=>rfl
  | cons b m ih=>rw[List.reverse_cons,mR,WT,aF6,hl,ih]
 have:=hr l.reverse;rwa [List.reverse_reverse]at this
theorem At.num(h:At t a (dD k n))(hn:n<2 ^ k):numOf (G.sub t a k)=n:=by
 have:=h.sub;rw[aU]at this;rw[this,wL,Nat.mod_eq_of_lt hn]
theorem At.nums:∀(l:List Nat) {a:Nat},At t a (G.nums k l)->(∀ x∈l,x<2 ^ k)->∀(i x:Nat),l[i]?=some x->numOf (G.sub t (a+i*k) k)=x
 | [],_,_,_,_,_,hx=>by simp at hx
 | y::l,a,h,hl,i,x,hx=>by
  have h':At t a (dD k y++G.nums k l):=by
   have e:G.nums k (y::l)=dD k y++G.nums k l:=by unfold G.nums;rw[List.flatMap_cons]
   rw[<-e];exact h
  cases i with
  | zero =>
   simp at hx;subst hx;rw[Nat.zero_mul,Nat.add_zero];exact h'.left.num (hl y (by simp))
  | succ i =>
   have h2:=h'.right;rw[aU]at h2;have:=At.nums l h2 (fun x hx=>hl x (by simp[hx])) i x (by simpa using hx);rw[<-this,Nat.add_mul,Nat.one_mul];congr 2;omega
theorem aB4(n:Nat):n<2 ^ wid n:=by
 unfold wid;split
 ·rename_i h;subst h;decide
 ·exact Nat.lt_log2_self
theorem WH{x:Nat}(h:x<s):x<2 ^ wid (s-1):=by
 have:=aB4 (s-1);omega
def frs(l:List E3):List Nat:=l.map fun e=>e.1.toNat
theorem NR(h:At t a (List.replicate j true++[false])):(∀ i<j,t.getD (a+i) false=true)/\t.getD (a+j) false=false:=by
 constructor
 ·intro i hi;rw[h i (by simp;omega),aC1,aD4 (by simpa using hi),aE9,if_pos hi];rfl
 ·rw[h j (by simp),aC1,aC8 (by simp)];simp
theorem zO(k:Nat)(fs:List Nat)(u:Nat)(h:rdf t a k=(fs,u)):∀ j,(∀ i<j,t.getD (a+k+i) false=true)->rdf t a (k+j)=(fs++List.replicate j u,u)
 | 0,_=>by simpa using h
 | j+1,ho=>by
  have ih:=zO k fs u h j (fun i hi=>ho i (by omega));show rdf t a ((k+j)+1)=_;unfold rdf;rw[ih,<-Nat.add_assoc,ho j (by omega),if_pos rfl,aL1,aD3]
theorem VF(l:List E3)(u:Nat)(hr:Gm.P6 l)(h0:∀ e∈l,0<=e.1):frs (l.take (Gm.ah l (u+1)))=frs (l.take (Gm.ah l u))++List.replicate (Gm.ah l (u+1)-Gm.ah l u) u:=by
 have hm:=Gm.Y4 l (show u<=u+1 by omega);have hle:=Gm.ah_le l (u+1);unfold frs;apply aG6;intro i;by_cases hi:i<Gm.ah l u
 ·rw[aD4 (by simp;omega),aD0,aD0,aI4 (by omega),aI4 hi]
 ·rw[aC8 (by simp;omega)];have a5:(List.map (fun e:E3=>e.1.toNat) (l.take (Gm.ah l u))).length=Gm.ah l u:=by simp;omega
  rw[a5];by_cases hi2:i<Gm.ah l (u+1)
  ·have hx:=A7 (l:=l) (i:=i) (by omega);rw[aD0,aI4 hi2,hx,aE9,if_pos (by omega)];have h1:=(Gm.ah_at l (u+1) i _ hr hx).2 hi2;have h2:¬ _:=fun h=>hi ((Gm.ah_at l u i _ hr hx).1 h);have h3:=h0 _ (aC3 hx);simp only[aH9];congr 1;omega
  ·rw[aC7 (by simp;omega),aC7 (by simp;omega)]
theorem zF(l:List E3)(hr:Gm.P6 l)(h0:∀ e∈l,0<=e.1):∀(u:Nat),At t a (eF l u)->rdf t a (Gm.ah l u+u)=(frs (l.take (Gm.ah l u)),u)
 | 0,_=>by rw[Gm.ah_zero l h0];rfl
 | u+1,h=>by
  have h':At t a (eF l u++(List.replicate (Gm.ah l (u+1)-Gm.ah l u) true++[false])):=h;have ih:=zF l hr h0 u h'.left;have h2:=h'.right;rw[iK l (Gm.ah_zero l h0)]at h2;obtain⟨h3,h4⟩:=NR h2;have h5:=zO _ _ _ ih _ h3;have hm:=Gm.Y4 l (show u<=u+1 by omega);have e:Gm.ah l (u+1)+(u+1)=(Gm.ah l u+u+(Gm.ah l (u+1)-Gm.ah l u))+1:=by omega
  rw[e];unfold rdf;rw[h5,if_neg (by rw[<-Nat.add_assoc,h4];simp),VF l u hr h0]
theorem I4(t:List Bool)(a:Nat)(h:j<=k):(rdf t a j).1.length<=(rdf t a k).1.length/\(rdf t a j).2<=(rdf t a k).2:=by
 induction k with
 | zero =>
  obtain rfl:j=0:=by omega
  exact⟨V7 _,V7 _⟩
 | succ k ih =>
  by_cases e:j=k+1
  ·subst e;exact⟨V7 _,V7 _⟩
  ·have:=ih (by omega);show _<=(if _ then _ else _:List Nat×Nat).1.length/\_<=(if _ then _ else _:List Nat×Nat).2;split <;> simp <;> omega
theorem VL{E J:Nat}(h1:Stop t a n E K)(h2:Stop t a n E J):K=J:=by
 rcases Nat.lt_trichotomy K J with h | h | h
 ·exact absurd (h2.1 K h) h1.2
 ·exact h
 ·exact absurd (h1.1 J h) h2.2
theorem uY(l:List E3)(hr:Gm.P6 l)(h0:∀ e∈l,0<=e.1/\e.1<(n:Int))(hn:1<=n)(h:At t a (eF l n)):Stop t a n l.length (l.length+n)/\(rdf t a (l.length+n)).1=frs l:=by
 have hz:=fun e he=>(h0 e he).1;have a0:=Gm.ah_all l n (fun e he=>(h0 e he).2);have e1:=zF l hr hz n h;rw[a0,aE3]at e1;refine⟨⟨fun k hk => ?_,by rw[e1];simp⟩,by rw[e1]⟩;have hm:=I4 t a (show k<=l.length+n by omega);rw[e1]at hm;have hs:=NS t a k;have a5:(frs l).length=l.length:=by simp[frs]
 refine⟨?_,by have:=hm.1;simp only at this;omega⟩;obtain⟨m,rfl⟩:∃ m,n=m+1:=⟨n-1,by omega⟩;have h':At t a (eF l m++(List.replicate (Gm.ah l (m+1)-Gm.ah l m) true++[false])):=h;have ih:=zF l hr hz m h'.left;have h2:=h'.right;rw[iK l (Gm.ah_zero l hz)]at h2;have h5:=zO _ _ _ ih _ (NR h2).1;have hmm:=Gm.Y4 l (show m<=m+1 by omega);have h6:=I4 t a (show k<=Gm.ah l m+m+(Gm.ah l (m+1)-Gm.ah l m) by rw[a0];omega);rw[h5]at h6;have:=h6.2;simp only at this;omega
theorem dec(hs:Gm.fO l)(hok:okG n s l)(h:At t 0 (dG n s l)):
 numOf (sub t 0 14)=n/\numOf (sub t 14 5)=s/\numOf (sub t 19 15)=l.length/\∀ K,Stop t 34 n l.length K->edg t 34 n s K=l/\K=l.length+n:=by
 obtain⟨⟨g1,g2,g3,g4,g5⟩,he⟩:=hok;unfold dG at h;have h6:=h.right;have h5:=h.left.right;have h4:=h.left.left.right;have h3:=h.left.left.left.right;have h2:=h.left.left.left.left.right;have h1:=h.left.left.left.left.left;simp only[WT,aU,iK l (Gm.ah_zero l (fun e h=>(he e h).1)),Gm.ah_all l n (fun e h=>(he e h).2.1),jP,aM,aH6]at h6 h5 h4 h3 h2;refine⟨h1.num (by omega),h2.num (by omega),h3.num (by omega),fun K hK => ?_⟩;have hr:=Gm.SY hs;obtain⟨hst,hfr⟩:=uY l hr (fun e h=>⟨(he e h).1,(he e h).2.1⟩) (by omega) h4;obtain rfl:=VL hK hst;refine⟨?_,rfl⟩;unfold edg;rw[hfr];apply aG6;intro i;have hfl:(frs l).length=l.length:=by simp[frs]
 by_cases hi:i<l.length
 ·have hx:=A7 (l:=l) (i:=i) hi;have hm:=aC3 hx;rw[kD _ _ _ _ _ _ (by omega),hx,hfl,if_pos hi,if_pos hi];obtain⟨k1,k2,k3,k4,k5,k6⟩:=he _ hm;have e1:=At.nums (k:=wid (s-1)) _ h5 (fun x hx=>by
   obtain⟨e,a6,rfl⟩:=List.mem_map.1 hx;have:=he e a6;exact WH (by omega)) i l[i].2.1.toNat (by rw[aD0,hx];rfl)
  have e2:=At.nums (k:=wid (n-1)) _ h6 (fun x hx=>by
   obtain⟨e,a6,rfl⟩:=List.mem_map.1 hx;have:=he e a6;exact WH (by omega)) i l[i].2.2.toNat (by unfold tos;rw[aD0,hx];rfl)
  rw[show(frs l).getD i 0=l[i].1.toNat by rw[frs,aC1,aD0,hx];rfl];rw[show 34+(l.length+n)+i*wid (s-1)=0+(14+5+15+(l.length+n))+i*wid (s-1) by omega,e1];rw[show 34+(l.length+n)+l.length*wid (s-1)+i*wid (n-1)=0+(14+5+15+(l.length+n)+wid (s-1)*l.length)+i*wid (n-1) by rw[Nat.mul_comm l.length];omega,e2];congr 1;rw[Int.toNat_of_nonneg k1,Int.toNat_of_nonneg k3,Int.toNat_of_nonneg k5]
 ·rw[aC7 (by rw[bF];omega),aC7 (by omega)]
theorem ZA(l:List Nat)(hl:∀ x∈l,x<256)(i:Nat):((str l).data.toList.getD i 0).toNat=l.getD i 0:=by
 unfold str;simp only[aC1,aD0];cases h:l[i]? with
 | none=>rfl
 | some x =>
  have:=hl x (aC3 h);simp;omega
theorem ZN(l:List Nat)(hl:∀ x∈l,x<256)(a n:Nat):byt (str l) a n=(List.range n).map fun i=>l.getD (a+i) 0:=by
 unfold byt;exact aF2 (fun i _=>ZA l hl _)
theorem KC(m:List Nat):((List.range m.length).map fun i=>m.getD i 0)=m:=by
 apply aG6;intro i;by_cases hi:i<m.length
 ·rw[aD0,aI7 hi,aH9,aC1,A7 hi];rfl
 ·rw[aC7 (by simp;omega),aC7 (by omega)]
theorem PV(l:List Bool)(p:Nat):(whole l p).length=256:=by unfold whole;rw[WT,bR];rfl
theorem OP(l:List Bool)(n p:Nat)(hp:p<n):((List.range 256).map fun i=>(eQ l n).getD (256*p+i) 0)=whole l p:=by
 induction n with
 | zero=>omega
 | succ n ih =>
  rw[kV];by_cases e:p=n
  ·subst e;refine Eq.trans (aF2 (fun i hi => ?_)) ((congrArg (fun k=>(List.range k).map fun i=>(whole l p).getD i 0) (PV l p)).symm.trans (KC (whole l p)));rw[aC1,aC8 (by rw[gK];omega),gK,Nat.add_sub_cancel_left,<-aC1]
  ·rw[<-ih (by omega)];refine aF2 (fun i hi => ?_);have:i<256:=by simpa using hi
   rw[aC1,aD4 (by rw[gK];omega),<-aC1]
theorem nM{α:Type}(f:Nat->α)(a b:Nat):(List.range (a+b)).map f=(List.range a).map f++(List.range b).map fun i=>f (a+i):=by
 rw[List.range_add,aJ3,List.map_map];rfl
theorem wW(l:List Bool)(p:Nat)(hp:p<bK l.length):byt (image l) (256*p) 252=dE l p 252/\eT (image l) p:=by
 have hb:=fun x h=>vK l (bK l.length) x h;have h1:byt (image l) (256*p) 252++byt (image l) (256*p+252) 4=whole l p:=by
  rw[<-vZ,image,ZN _ hb,OP l _ p hp]
 unfold whole at h1;obtain⟨h2,h3⟩:=List.append_inj h1 (by rw[fA,bR]);exact⟨h2,by unfold eT;rw[h3,h2]⟩
theorem wZ(l:List Bool)(p:Nat):∀ i,nums 8 (dE l p i)=sub l (2016*p) (8*i)
 | 0=>rfl
 | i+1=>by
  rw[wD,BX,wZ l p i];have h:=LQ (sub l (2016*p+8*i) 8);rw[lI]at h;rw[h];unfold sub;rw[show 8*(i+1)=8*i+8 by omega,nM (fun i=>l.getD (2016*p+i) false)];refine congrArg (fun m=>_++m) (aF2 (fun k _ => ?_));rw[Nat.add_assoc]
theorem vJ(l:List Bool):∀ k,k<=bK l.length->bH (image l) k=sub l 0 (2016*k)
 | 0,_=>rfl
 | k+1,hk=>by
  show bH (image l) k++_=_;rw[vJ l k (by omega),(wW l k (by omega)).1,wZ];have e:sub l 0 (2016*k+8*252)=sub l 0 (2016*k)++sub l (2016*k) (8*252):=by
   unfold sub;rw[nM (fun i=>l.getD (0+i) false)];refine congrArg (fun m=>_++m) (aF2 (fun j _ => ?_));rw[aG1]
  rw[show 2016*(k+1)=2016*k+8*252 by omega,e]
theorem AL(k:Nat):k<=2016*bK k:=by unfold bK;omega
theorem FH(l:List Bool):At (bH (image l) (bK l.length)) 0 l:=fun i hi=>by
 have h:=AL l.length;rw[vJ l _ (V7 _),aG1];unfold sub;rw[aC1,aD0,aI7 (by omega),aH9,Option.getD_some,aG1]
def Is(img:ByteArray)(n s:Nat)(l:List E3):Prop:=okG n s l/\Gm.fO l/\img=image (dG n s l)
theorem ZQ(h:okG n s l):(dG n s l).length<=2016000/\34<(dG n s l).length:=by
 obtain⟨⟨g1,g2,g3,g4,g5⟩,he⟩:=h;have h0:=Gm.ah_zero l (fun e h=>(he e h).1);have hn:=Gm.ah_all l n (fun e h=>(he e h).2.1);refine⟨yS n s l h0 hn (by omega) (by omega) (by omega),?_⟩;rw[l7 n s l h0 hn];omega
theorem Is.size(h:Is img n s l):kQ img/\img.size=256*bK (dG n s l).length/\bK (dG n s l).length<=1000/\bK (dG n s l).length≠0/\∀ p<bK (dG n s l).length,eT img p:=by
 obtain⟨h1,h2,rfl⟩:=h;obtain⟨h3,h4⟩:=ZQ h1;have hs:=xI (dG n s l);have hp:bK (dG n s l).length<=1000:=by unfold bK;omega
 have hq:bK (dG n s l).length≠0:=by unfold bK;omega
 exact⟨⟨by omega,by omega,by omega⟩,hs,hp,hq,fun p hp=>(wW _ p hp).2⟩
theorem Is.read(h:Is img n s l)(hnp:img.size=256*np):
 numOf (sub (bH img np) 0 14)=n/\numOf (sub (bH img np) 14 5)=s/\numOf (sub (bH img np) 19 15)=l.length/\∀ K,Stop (bH img np) 34 n l.length K->edg (bH img np) 34 n s K=l/\K=l.length+n:=by
 have e:np=bK (dG n s l).length:=by have:=h.size.2.1;omega
 subst e;obtain⟨h1,h2,rfl⟩:=h;exact dec h2 h1 (FH _)
theorem Is.one{img:ByteArray}{n s n' s':Nat}{l l':List E3}(h:Is img n s l)(h':Is img n' s' l'):n=n'/\s=s'/\l=l':=by
 obtain⟨a1,a2,a3,a4⟩:=h.read h.size.2.1;obtain⟨b1,b2,b3,b4⟩:=h'.read h.size.2.1;have en:n=n':=by rw[<-a1,<-b1]
 have es:s=s':=by rw[<-a2,<-b2]
 refine⟨en,es,?_⟩;subst en es;have el:l.length=l'.length:=by rw[<-a3,<-b3]
 have hK:=(uY (t:=bH img (bK (dG n s l).length)) (a:=34) (n:=n) l (Gm.SY h.2.1) (fun e he=>⟨(h.1.2 e he).1,(h.1.2 e he).2.1⟩) (by have:=h.1.1.1;omega) (by
  have ht:=FH (dG n s l);rw[<-h.2.2]at ht;generalize bH img (bK (dG n s l).length)=t at ht;unfold dG at ht;have:=ht.left.left.right;simpa only[WT,aU,aG1]using this)).1
 rw[<-(a4 _ hK).1,<-(b4 _ (by rw[<-el];exact hK)).1]
theorem TS(h:okG n s l):Is (built n s l) n s (Gm.TM l):=by
 refine⟨⟨⟨h.1.1,h.1.2.1,h.1.2.2.1,h.1.2.2.2.1,aD9 (Gm.ordE_len l) h.1.2.2.2.2⟩,fun e he=>h.2 e ((Gm.VW l e).1 he)⟩,Gm.F3 l,rfl⟩
theorem xX(h:okG n s l):Is (eY n s l) n s (Gm.TM l):=by
 have:=TS h;unfold eY;rw[if_pos h,aG3,aG3];exact this
theorem UU(hnp:img.size=256*np)(hK:Stop (bH img np) 34 (numOf (sub (bH img np) 0 14)) (numOf (sub (bH img np) 19 15)) K)
 (hok:okG (numOf (sub (bH img np) 0 14)) (numOf (sub (bH img np) 14 5)) (edg (bH img np) 34 (numOf (sub (bH img np) 0 14)) (numOf (sub (bH img np) 14 5)) K))
 (he:eY (numOf (sub (bH img np) 0 14)) (numOf (sub (bH img np) 14 5)) (edg (bH img np) 34 (numOf (sub (bH img np) 0 14)) (numOf (sub (bH img np) 14 5)) K)=img) :
 Is img (numOf (sub (bH img np) 0 14)) (numOf (sub (bH img np) 14 5)) (edg (bH img np) 34 (numOf (sub (bH img np) 0 14)) (numOf (sub (bH img np) 14 5)) K):=by
 have h:=xX hok;rw[he]at h;obtain⟨_,_,h3,h4⟩:=h.read hnp;rw[<-h3]at h4;rw[<-(h4 K hK).1]at h;exact h
end Go.Proofs.YtphjbbbnbmafnaaGreatDoor.G
