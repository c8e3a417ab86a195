/- Parts: QMath Shelf ShelfS Bld. -/
import Derived.Test.YtphjbbbnbmafnaaGreatDoorOwnM
import Derived.Test.YtphjbbbnbmafnaaGreatDoorExt
import Derived.Test.YtphjbbbnbmafnaaGreatDoorAsk16
import Derived.Ground.SlsfProg
import Derived.Shelf.SlSortCmp.NoneTotal
import Derived.Shelf.SlGeneric
import Derived.Shelf.Strings.Builder1
import Derived.Shelf.Small.Bits
import Derived.Shelf.Strings.BuilderF
import Derived.Shelf.Strings.BuilderK
import Derived.Shelf.Strconv.Itoa0
import Derived.Shelf.Sort.Plain
import Derived.Ground.Names2Prog
import Derived.Shelf.Slices.SearchI
import Derived.Shelf.Slices.In.SortNone
import Derived.Ground.SlgcProg
import Derived.Shelf.SlicesG.Cmp
import Derived.Test.YtphjbbbnbmafnaaGreatDoorProg
import Derived.Test.YtphjbbbnbmafnaaGreatDoorRows
import Derived.Lib.FrozenHead2
import Derived.Lib.OthersKept
import Derived.WalkKit
set_option maxHeartbeats 2000000
set_option maxRecDepth 100000
namespace Go.Proofs.YtphjbbbnbmafnaaGreatDoor.G
open Go.RowKit
variable {L R:List E3} {α:Type} {l:List Nat} {c p q t:Nat}
def bf(l:List Bool)(i:Nat):Bool:=l.getD i false
theorem FM(l m:List Bool)(i:Nat)(h:i<l.length):bf (l++m) i=bf l i:=by
 unfold bf;rw[List.getD_eq_getElem?_getD,List.getElem?_append_left h,<-List.getD_eq_getElem?_getD]
theorem IR(l m:List Bool)(i:Nat):bf (l++m) (l.length+i)=bf m i:=by
 unfold bf;rw[List.getD_eq_getElem?_getD,List.getElem?_append_right (by omega),Nat.add_sub_cancel_left,<-List.getD_eq_getElem?_getD]
theorem T9(l m:List Bool)(i:Nat)(h:i<=l.length):cnt (bf (l++m)) i=cnt (bf l) i:=fT fun j hj=>FM l m j (by omega)
theorem sN(l m:List Bool)(i:Nat):cnt (bf (l++m)) (l.length+i)=cnt (bf l) l.length+cnt (bf m) i:=by
 rw[dU,T9 l m _ (Nat.le_refl _)];congr 1;exact fT fun j _=>IR l m j
theorem G5(j k:Nat)(m:List Bool)(h:k<=j):cnt (bf (List.replicate j true++m)) k=k:=by
 induction k with
 | zero=>rfl
 | succ k ih =>
  rw[bL,ih (by omega),FM _ _ _ (by simp;omega)];unfold bf;rw[List.getD_eq_getElem?_getD,List.getElem?_replicate,if_pos (by omega)];rfl
theorem wX(l:List E3)(h0:Gm.ah l 0=0)(u:Nat):cnt (bf (eF l u)) (eF l u).length=Gm.ah l u:=by
 induction u with
 | zero=>rw[h0];rfl
 | succ u ih =>
  have hm:=Gm.Y4 l (show u<=u+1 by omega);show cnt (bf (eF l u++(List.replicate (Gm.ah l (u+1)-Gm.ah l u) true++[false]))) (eF l u++(List.replicate (Gm.ah l (u+1)-Gm.ah l u) true++[false])).length=_;rw[List.length_append,sN,ih,List.length_append,sN,List.length_replicate];have e:=G5 (Gm.ah l (u+1)-Gm.ah l u) (Gm.ah l (u+1)-Gm.ah l u) [] (Nat.le_refl _);rw[List.append_nil]at e;rw[e];show _+(_+(cnt (bf [false]) (0+1)))=_;rw[bL];show _+(_+(0+0))=_;omega
theorem R9(l:List E3)(u:Nat):∀ n,u<=n->∃ m,eF l n=eF l u++m:=by
 intro n
 induction n with
 | zero =>
  intro h;obtain rfl:u=0:=by omega
  exact⟨[],by simp⟩
 | succ n ih =>
  intro h;by_cases e:u=n+1
  ·subst e;exact⟨[],by simp⟩
  ·obtain⟨m,hm⟩:=ih (by omega);exact⟨m++(List.replicate (Gm.ah l (n+1)-Gm.ah l n) true++[false]),by show eF l n++_=_;rw[hm,List.append_assoc]⟩
theorem TF(l:List E3)(n p:Nat)(e:E3)(hr:Gm.P6 l)(h0:∀ e∈l,0<=e.1/\e.1<(n:Int))(hp:l[p]?=some e):bf (eF l n) (p+e.1.toNat)=true/\cnt (bf (eF l n)) (p+e.1.toNat)=p:=by
 have hz:=Gm.ah_zero l (fun e h=>(h0 e h).1);obtain⟨k1,k2⟩:=h0 e (List.mem_of_getElem? hp);have hu:e.1.toNat<n:=by omega
 generalize hu':e.1.toNat=u at hu;have a1:=(Gm.ah_at l (u+1) p e hr hp).1 (by omega);have a2:¬ p<Gm.ah l u:=fun h=>by have:=(Gm.ah_at l u p e hr hp).2 h;omega
 obtain⟨m,hm⟩:=R9 l (u+1) n (by omega);have hs:eF l n=eF l u++(List.replicate (Gm.ah l (u+1)-Gm.ah l u) true++([false]++m)):=by
  rw[hm];show eF l u++(List.replicate (Gm.ah l (u+1)-Gm.ah l u) true++[false])++m=_;simp
 have hsl:=iK l hz u;have e1:p+u=(eF l u).length+(p-Gm.ah l u):=by omega
 rw[hs,e1,IR,sN,wX l hz,G5 _ _ _ (by omega)];refine⟨?_,by omega⟩;rw[FM _ _ _ (by simp;omega)];unfold bf;rw[List.getD_eq_getElem?_getD,List.getElem?_replicate,if_pos (by omega)];rfl
theorem JI(l:List E3)(n:Nat)(h0:∀ e∈l,0<=e.1/\e.1<(n:Int)):cnt (bf (eF l n)) (eF l n).length=l.length/\(eF l n).length=l.length+n:=by
 have hz:=Gm.ah_zero l (fun e h=>(h0 e h).1);have ha:=Gm.ah_all l n (fun e h=>(h0 e h).2);exact⟨by rw[wX l hz,ha],by rw[iK l hz,ha]⟩
theorem BJ(R:List E3)(h:Gm.S2 R)(c:Int):R=R.filter (fun e=>decide (e.2.1<c))++R.filter (fun e=>decide (e.2.1=c))++R.filter (fun e=>decide (c<e.2.1)):=by
 induction R with
 | nil=>rfl
 | cons a R ih =>
  unfold Gm.S2 at h;rw[List.pairwise_cons]at h;have ih:=ih h.2;have hb:∀ b∈R,a.2.1<=b.2.1:=fun b hb=>by have:=(Gm.FD a b).1 (h.1 b hb);omega
  rcases Int.lt_trichotomy a.2.1 c with hc | hc | hc
  ·rw[List.filter_cons_of_pos (by simpa using hc),List.filter_cons_of_neg (by simp;omega),List.filter_cons_of_neg (by simp;omega),List.cons_append,List.cons_append,<-ih]
  ·have e1:R.filter (fun e=>decide (e.2.1<c))=[]:=by
    rw[List.filter_eq_nil_iff];intro b a7;have:=hb b a7;simp;omega
   rw[List.filter_cons_of_neg (by simp;omega),List.filter_cons_of_pos (by simpa using hc),List.filter_cons_of_neg (by simp;omega),e1];rw[e1]at ih;simp only[List.nil_append,List.cons_append]at ih ⊢;rw[<-ih]
  ·have e1:R.filter (fun e=>decide (e.2.1<c))=[]:=by
    rw[List.filter_eq_nil_iff];intro b a7;have:=hb b a7;simp;omega
   have e2:R.filter (fun e=>decide (e.2.1=c))=[]:=by
    rw[List.filter_eq_nil_iff];intro b a7;have:=hb b a7;simp;omega
   rw[List.filter_cons_of_neg (by simp;omega),List.filter_cons_of_neg (by simp;omega),List.filter_cons_of_pos (by simpa using hc),e1,e2];rw[e1,e2]at ih;simp only[List.nil_append]at ih ⊢;rw[<-ih]
theorem MW(hL:Gm.fO L)(hp:R.Perm L)(hs:Gm.S2 R)(c:Int):R.filter (fun e=>decide (e.2.1=c))=L.filter (fun e=>decide (e.2.1=c)):=by
 refine Gm.xK _ _ ?_ (List.Pairwise.sublist (List.filter_sublist) hL) (fun x => ?_)
 ·have h1:(R.filter (fun e=>decide (e.2.1=c))).Pairwise (fun a b=>Gm.lt2 a b=true):=List.Pairwise.sublist (List.filter_sublist) hs;refine h1.imp_of_mem (fun{a b} ha hb hab => ?_);have e1:=(List.mem_filter.1 ha).2;have e2:=(List.mem_filter.1 hb).2;simp at e1 e2;rcases(Gm.FD a b).1 hab with h | h
  ·omega
  ·exact h.2
 ·rw[List.mem_filter,List.mem_filter,hp.mem_iff]
abbrev JN(L:List E3):Prop:=∀ e∈L,0<=e.2.1/\0<=e.2.2
theorem JC(L:List E3)(h0:JN L)(c:Nat):bel (aM L) 0 (aM L).length c=(L.filter (fun e=>decide (e.2.1<(c:Int)))).length:=by
 unfold bel aM;rw[List.take_length,List.drop_zero,List.filter_map,List.length_map];congr 1;refine List.filter_congr (fun e he => ?_);have:=h0 e he;simp only[Function.comp];rw[Bool.eq_iff_iff];simp;omega
theorem zI(L:List E3)(h0:JN L)(c i:Nat)(hi:i<=L.length):cnt (eqf (aM L) c) i=((L.take i).filter (fun e=>decide (e.2.1=(c:Int)))).length:=by
 rw[yI _ _ _ (by simpa[aM]using hi)];unfold aM;rw[<-List.map_take,List.filter_map,List.length_map];congr 1;refine List.filter_congr (fun e he => ?_);have:=h0 e (List.mem_of_mem_take he);simp only[Function.comp];rw[Bool.eq_iff_iff];simp;omega
theorem mid(A B C D:List α):((A++B++(C++D)).take (A.length+(B.length+C.length))).drop (A.length+B.length)=C:=by
 have h1:(A++B++(C++D)).take (A.length+(B.length+C.length))=A++B++C:=by
  rw[<-List.append_assoc,List.take_left' (by simp only[List.length_append];omega)]
 rw[h1,List.drop_left' (by simp)]
theorem AZ(hL:Gm.fO L)(hp:R.Perm L)(hs:Gm.S2 R)(h0:JN L)(c a b:Nat)(hab:a<=b)(hb:b<=L.length):
 (R.take (bel (aM L) 0 (aM L).length c+cnt (eqf (aM L) c) b)).drop (bel (aM L) 0 (aM L).length c+cnt (eqf (aM L) c) a)=((L.take b).drop a).filter (fun e=>decide (e.2.1=(c:Int))):=by
 have aL:=BJ R hs (c:Int);rw[MW hL hp hs]at aL;have aE:(R.filter (fun e=>decide (e.2.1<(c:Int)))).length=bel (aM L) 0 (aM L).length c:=by
  rw[JC L h0,<-List.countP_eq_length_filter,<-List.countP_eq_length_filter];exact hp.countP_eq _
 have e1:L=L.take a++(L.take b).drop a++L.drop b:=by
  have h1:L.take a++(L.take b).drop a=L.take b:=by
   have:=List.take_append_drop a (L.take b);rwa [List.take_take,Nat.min_eq_left hab]at this
  rw[h1,List.take_append_drop]
 have hf:L.filter (fun e=>decide (e.2.1=(c:Int)))=(L.take a).filter (fun e=>decide (e.2.1=(c:Int)))++((L.take b).drop a).filter (fun e=>decide (e.2.1=(c:Int)))++(L.drop b).filter (fun e=>decide (e.2.1=(c:Int))):=by
  conv=>lhs;rw[e1,List.filter_append,List.filter_append]
 have ca:=zI L h0 c a (by omega);have cb:cnt (eqf (aM L) c) b=((L.take a).filter (fun e=>decide (e.2.1=(c:Int)))).length+(((L.take b).drop a).filter (fun e=>decide (e.2.1=(c:Int)))).length:=by
  rw[zI L h0 c b hb];have h1:L.take a++(L.take b).drop a=L.take b:=by
   have:=List.take_append_drop a (L.take b);rwa [List.take_take,Nat.min_eq_left hab]at this
  conv=>lhs;rw[<-h1,List.filter_append,List.length_append]
 rw[hf]at aL;generalize (R.filter (fun e=>decide (e.2.1<(c:Int))))=A at aL aE;generalize (L.take a).filter (fun e=>decide (e.2.1=(c:Int)))=B at aL ca cb;generalize ((L.take b).drop a).filter (fun e=>decide (e.2.1=(c:Int)))=C at aL cb ⊢;rw[<-aE,ca,cb];have e2:R=(A++B)++(C++((L.drop b).filter (fun e=>decide (e.2.1=(c:Int)))++R.filter (fun e=>decide ((c:Int)<e.2.1)))):=by
  conv=>lhs;rw[aL]
  simp only[List.append_assoc]
 generalize ((L.drop b).filter (fun e=>decide (e.2.1=(c:Int)))++R.filter (fun e=>decide ((c:Int)<e.2.1)))=D at e2;rw[e2];exact mid A B C D
theorem y9(l:List α)(p:Nat)(e:α)(h:l[p]?=some e):(l.take (p+1)).drop p=[e]:=by
 have hp:=(List.getElem?_eq_some_iff.1 h).1;rw[List.take_add_one,h,List.drop_append_of_le_length (by simp;omega),List.drop_of_length_le (by simp;omega)];rfl
theorem KQ(l:List α)(p:Nat)(e:α)(h:(l.take (p+1)).drop p=[e]):l[p]?=some e:=by
 have h1:((l.take (p+1)).drop p)[0]?=some e:=by rw[h];rfl
 rwa [List.getElem?_drop,Nat.add_zero,List.getElem?_take_of_lt (by omega)]at h1
theorem WU(l:List Nat)(p c:Nat)(h:l[p]?=some c):cnt (eqf l c) (p+1)=cnt (eqf l c) p+1:=by
 rw[bL];unfold eqf;rw[h];simp
theorem D7(hL:Gm.fO L)(hp:R.Perm L)(hs:Gm.S2 R)(h0:JN L)(p c:Nat)(e:E3)(he:L[p]?=some e)(hc:e.2.1=(c:Int)):
 R[bel (aM L) 0 (aM L).length c+cnt (eqf (aM L) c) p]?=some e:=by
 have a8:=(List.getElem?_eq_some_iff.1 he).1;have h:=AZ hL hp hs h0 c p (p+1) (by omega) (by omega);rw[y9 L p e he,WU (aM L) p c (by unfold aM;rw[List.getElem?_map,he];simp;omega),<-Nat.add_assoc]at h;rw[List.filter_cons_of_pos (by simpa using hc),List.filter_nil]at h;exact KQ _ _ _ h
def Pl(l:List Nat)(q t:Nat):Prop:=∃ c,l[t]?=some c/\bel l 0 l.length c+cnt (eqf l c) t=q
theorem mG(l:List Nat)(a b:Nat)(h:a<=b):(l.filter (fun z=>decide (z<a))).length<=(l.filter (fun z=>decide (z<b))).length:=by
 rw[<-List.countP_eq_length_filter,<-List.countP_eq_length_filter];exact List.countP_mono_left (fun x _ hx=>by simp at hx ⊢;omega)
theorem lV(l:List Nat)(a b:Nat)(h:a<b):(l.filter (fun z=>decide (z<a))).length+(l.filter (fun z=>z == a)).length<=(l.filter (fun z=>decide (z<b))).length:=by
 induction l with
 | nil=>simp
 | cons z r ih =>
  simp only[List.filter_cons];by_cases h1:z<a
  ·have e2:(z == a)=false:=by simp;omega
   have e3:z<b:=by omega
   simp only[h1,e2,e3,decide_true,if_true,Bool.false_eq_true,if_false,List.length_cons];omega
  ·by_cases h2:z=a
   ·subst h2;simp only[h1,h,decide_true,decide_false,if_true,Bool.false_eq_true,if_false,List.length_cons,beq_self_eq_true];omega
   ·have e2:(z == a)=false:=by simpa using h2
    simp only[h1,e2,decide_false,Bool.false_eq_true,if_false];split <;> simp <;> omega
theorem kK(l:List Nat)(c:Nat):bel l 0 l.length c=(l.filter (fun z=>decide (z<c))).length:=by unfold bel;rw[List.take_length,List.drop_zero]
theorem uB(l:List Nat)(c:Nat):eqn l 0 l.length c=(l.filter (fun z=>z == c)).length:=by unfold eqn;rw[List.take_length,List.drop_zero]
theorem pJ(l:List Nat)(t c:Nat)(h:l[t]?=some c):cnt (eqf l c) t<eqn l 0 l.length c:=by
 have a8:=(List.getElem?_eq_some_iff.1 h).1;have h1:=WU l t c h;have h2:=cnt_mono (eqf l c) (show t+1<=l.length by omega);have h3:=NJ (l:=l) (x:=0) (y:=l.length) c (Nat.zero_le _) (Nat.le_refl _);have h4:cnt (eqf l c) 0=0:=rfl;omega
theorem Pl.span(h:Pl l q t)(hc:l[t]?=some c)(a b:Nat):(bel l 0 l.length a<=q/\q<bel l 0 l.length b)↔(a<=c/\c<b):=by
 obtain⟨c',aG,hq⟩:=h;rw[hc]at aG;cases aG;have h1:=pJ l t c hc;rw[uB]at h1;rw[kK]at hq ⊢;rw[kK];constructor
 ·rintro⟨h2,h3⟩;constructor
  ·rcases Nat.lt_or_ge c a with h | h
   ·have:=lV l c a h;omega
   ·exact h
  ·rcases Nat.lt_or_ge c b with h | h
   ·exact h
   ·have:=mG l b c h;omega
 ·rintro⟨h2,h3⟩;have e1:=mG l a c h2;have e2:=lV l c b h3;omega
theorem Pl.lt(h:Pl l q t):q<l.length/\t<l.length:=by
 obtain⟨c,hc,hq⟩:=h;have h1:=pJ l t c hc;rw[uB]at h1;rw[kK]at hq;have h2:=lV l c (c+1) (by omega);have h3:=List.length_filter_le (fun z=>decide (z<c+1)) l;exact⟨by omega,(List.getElem?_eq_some_iff.1 hc).1⟩
theorem Pl.q_one{q':Nat}(h:Pl l q t)(h':Pl l q' t):q=q':=by
 obtain⟨c,hc,hq⟩:=h;obtain⟨c',aG,hq'⟩:=h';rw[hc]at aG;cases aG;omega
theorem Pl.t_one{t':Nat}(h:Pl l q t)(h':Pl l q t'):t=t':=by
 obtain⟨c,hc,hq⟩:=h;obtain⟨c',aG,hq'⟩:=h';have h1:=pJ l t c hc;have h2:=pJ l t' c' aG;rw[uB]at h1 h2;rw[kK]at hq hq';have e:c=c':=LF (s:=l) (k:=q) (by omega) (by omega) (by omega) (by omega);subst e;exact sD (eqf l c) (by unfold eqf;rw[hc];simp) (by unfold eqf;rw[aG];simp) (by omega)
theorem pl_of(ht:l[t]?=some c)(hk:cnt (eqf l c) t=q-bel l 0 l.length c)(h1:bel l 0 l.length c<=q):Pl l q t:=⟨c,ht,by omega⟩
theorem pl_find(h1:bel l 0 l.length c<=q)(h2:q<bel l 0 l.length c+eqn l 0 l.length c):∃ t,l[t]?=some c/\cnt (eqf l c) t=q-bel l 0 l.length c:=by
 have h3:=NJ (l:=l) (x:=0) (y:=l.length) c (Nat.zero_le _) (Nat.le_refl _);have h4:cnt (eqf l c) 0=0:=rfl;obtain⟨t,_,h6,h7⟩:=I8 (eqf l c) (q-bel l 0 l.length c) l.length (by omega);exact⟨t,by unfold eqf at h6;simpa using h6,h7⟩
theorem aAE(h:l[t]?=some c):Pl l (bel l 0 l.length c+cnt (eqf l c) t) t:=⟨c,h,rfl⟩
theorem PR(hL:Gm.fO L)(hp:R.Perm L)(hs:Gm.S2 R)(h0:JN L)(h:Pl (aM L) t p):R[t]?=L[p]?/\p<L.length:=by
 obtain⟨c,hc,rfl⟩:=h;have a8:=(List.getElem?_eq_some_iff.1 hc).1;unfold aM at a8;rw[List.length_map]at a8;have he:=List.getElem?_eq_getElem a8;have hl:L[p].2.1.toNat=c:=by
  unfold aM at hc;rw[List.getElem?_map,he]at hc;simpa using hc
 have:=h0 _ (List.mem_of_getElem? he);rw[D7 hL hp hs h0 p c _ he (by omega),he];exact⟨rfl,a8⟩
def Pl2(L R:List E3)(q p:Nat):Prop:=∃ t,Pl (tos R) q t/\Pl (aM L) t p
theorem Pl2.one{L R:List E3}{q q' p:Nat}(h:Pl2 L R q p)(h':Pl2 L R q' p):q=q':=by
 obtain⟨t,h1,h2⟩:=h;obtain⟨t',b5,b6⟩:=h';have:=h2.q_one b6;subst this;exact h1.q_one b5
theorem Pl2.p_one{p':Nat}(h:Pl2 L R q p)(h':Pl2 L R q p'):p=p':=by
 obtain⟨t,h1,h2⟩:=h;obtain⟨t',b5,b6⟩:=h';have:=h1.t_one b5;subst this;exact h2.t_one b6
theorem Pl2.lt(h:Pl2 L R q p):p<L.length:=by
 obtain⟨t,_,h2⟩:=h;have:=h2.lt.2;unfold aM at this;rwa [List.length_map]at this
theorem Pl2.span(hL:Gm.fO L)(hp:R.Perm L)(hs:Gm.S2 R)(h0:JN L)(h:Pl2 L R q p){e:E3}(he:L[p]?=some e)(a b:Nat):(bel (tos R) 0 (tos R).length a<=q/\q<bel (tos R) 0 (tos R).length b)↔((a:Int)<=e.2.2/\e.2.2<(b:Int)):=by
 obtain⟨t,h1,h2⟩:=h;have h3:=(PR hL hp hs h0 h2).1;rw[he]at h3;have:=h0 e (List.mem_of_getElem? he);rw[h1.span (c:=e.2.2.toNat) (by unfold tos;rw[List.getElem?_map,h3];rfl) a b];omega
theorem aAO(hL:Gm.fO L)(hp:R.Perm L)(hs:Gm.S2 R)(h0:JN L)(h:p<L.length):∃ q,Pl2 L R q p:=by
 have he:=List.getElem?_eq_getElem h;have hc:(aM L)[p]?=some L[p].2.1.toNat:=by unfold aM;rw[List.getElem?_map,he];rfl
 have h2:=aAE hc;have h3:=(PR hL hp hs h0 h2).1;rw[he]at h3;exact⟨_,_,aAE (c:=L[p].2.2.toNat) (by unfold tos;rw[List.getElem?_map,h3];rfl),h2⟩
def at_(L:List E3)(f:E3->Bool):List Nat:=(List.range L.length).filter fun p=>(L[p]?).any f
theorem at_mem(L:List E3)(f:E3->Bool)(p:Nat):p∈at_ L f↔∃ e,L[p]?=some e/\f e=true:=by
 unfold at_;rw[List.mem_filter,List.mem_range];constructor
 ·rintro⟨h1,h2⟩;rw[List.getElem?_eq_getElem h1]at h2 ⊢;exact⟨_,rfl,by simpa using h2⟩
 ·rintro⟨e,h1,h2⟩;exact⟨(List.getElem?_eq_some_iff.1 h1).1,by rw[h1];simpa using h2⟩
theorem DK(L:List E3)(f:E3->Bool):(at_ L f).Pairwise (· < ·):=List.Pairwise.sublist List.filter_sublist List.pairwise_lt_range
theorem NV(L:List E3)(f:E3->Bool):(at_ L f).map (fun p=>L.getD p (0,0,0))=L.filter f:=by
 have h:∀(n:Nat),n<=L.length->(((List.range n).filter fun p=>(L[p]?).any f).map (fun p=>L.getD p (0,0,0)))=(L.take n).filter f:=by
  intro n
  induction n with
  | zero=>intro _;rfl
  | succ n ih =>
   intro hn;have he:=List.getElem?_eq_getElem (l:=L) (i:=n) (by omega);rw[List.range_succ,List.filter_append,List.map_append,ih (by omega),List.take_add_one,he,List.filter_append];congr 1;simp only[List.filter_cons,List.filter_nil,he,Option.any_some,Option.toList_some];split
   ·simp[List.getD_eq_getElem?_getD,he]
   ·rfl
 have:=h L.length (Nat.le_refl _);rwa [List.take_length]at this
theorem at_len(L:List E3)(f:E3->Bool):(at_ L f).length=(L.filter f).length:=by rw[<-NV,List.length_map]
theorem mK:∀(l m:List Nat),l.Pairwise (· < ·)->m.Pairwise (· < ·)->(∀ x,x∈l↔x∈m)->l=m
 | [],[],_,_,_=>rfl
 | [],b::m,_,_,h=>by have:=(h b).2 (List.mem_cons_self ..);cases this
 | a::l,[],_,_,h=>by have:=(h a).1 (List.mem_cons_self ..);cases this
 | a::l,b::m,hl,hm,h=>by
  rw[List.pairwise_cons]at hl hm;have e:a=b:=by
   rcases List.mem_cons.1 ((h a).1 (List.mem_cons_self ..))with e | ha
   ·exact e
   ·rcases List.mem_cons.1 ((h b).2 (List.mem_cons_self ..))with e | hb
    ·exact e.symm
    ·have h1:=hm.1 a ha;have h2:=hl.1 b hb;omega
  subst e;rw[mK l m hl.2 hm.2 (fun x => ?_)];constructor
  ·intro hx;rcases List.mem_cons.1 ((h x).1 (List.mem_cons_of_mem _ hx))with e | hx'
   ·have:=hl.1 x hx;omega
   ·exact hx'
  ·intro hx;rcases List.mem_cons.1 ((h x).2 (List.mem_cons_of_mem _ hx))with e | hx'
   ·have:=hm.1 x hx;omega
   ·exact hx'
theorem DZ(hL:Gm.fO L)(hp:R.Perm L)(hs:Gm.S2 R)(h0:JN L)(a b:Nat)(P S:List Nat)
 (hP:P.length=bel (tos R) 0 (tos R).length b-bel (tos R) 0 (tos R).length a) (hq:∀ i p,P[i]?=some p->Pl2 L R (bel (tos R) 0 (tos R).length a+i) p)
 (hS:S.Perm P) (hso:S.Pairwise (· <= ·)):S=at_ L (fun e=>decide ((a:Int)<=e.2.2/\e.2.2<(b:Int))):=by
 have b7:∀ p,p∈P↔∃ q,Pl2 L R q p/\bel (tos R) 0 (tos R).length a<=q/\q<bel (tos R) 0 (tos R).length b:=by
  intro p;constructor
  ·intro h;obtain⟨i,hi⟩:=List.getElem?_of_mem h;have:=(List.getElem?_eq_some_iff.1 hi).1;exact⟨_,hq i p hi,by omega,by omega⟩
  ·rintro⟨q,h1,h2,h3⟩;have hi:=List.getElem?_eq_getElem (l:=P) (i:=q-bel (tos R) 0 (tos R).length a) (by omega);have h4:=hq _ _ hi;rw[show bel (tos R) 0 (tos R).length a+(q-bel (tos R) 0 (tos R).length a)=q by omega]at h4;rw[h1.p_one h4];exact List.mem_of_getElem? hi
 have hnd:P.Nodup:=by
  rw[List.nodup_iff_pairwise_ne,List.pairwise_iff_getElem];intro i j hi hj hij e;have h1:=hq i _ (List.getElem?_eq_getElem hi);have h2:=hq j _ (List.getElem?_eq_getElem hj);rw[e]at h1;have:=h1.one h2;omega
 have b8:S.Nodup:=hS.nodup_iff.2 hnd;have a8:S.Pairwise (· < ·):=by
  refine List.Pairwise.imp₂ (fun x y h1 h2 => ?_) hso b8;exact Nat.lt_of_le_of_ne h1 h2
 refine mK _ _ a8 (DK _ _) (fun p => ?_);rw[hS.mem_iff,b7,at_mem];constructor
 ·rintro⟨q,h1,h2⟩;have he:=List.getElem?_eq_getElem h1.lt;exact⟨_,he,by simpa using(h1.span hL hp hs h0 he a b).1 h2⟩
 ·rintro⟨e,he,hf⟩;obtain⟨q,h1⟩:=aAO (R:=R) hL hp hs h0 ((List.getElem?_eq_some_iff.1 he).1);exact⟨q,h1,(h1.span hL hp hs h0 he a b).2 (by simpa using hf)⟩
theorem JW(L:List E3)(hr:Gm.P6 L)(u v:Nat):(L.take (Gm.ah L v)).drop (Gm.ah L u)=L.filter (fun e=>decide ((u:Int)<=e.1/\e.1<(v:Int))):=by
 rw[<-NV];have h:at_ L (fun e=>decide ((u:Int)<=e.1/\e.1<(v:Int)))=(List.range (Gm.ah L v)).filter (fun p=>decide (Gm.ah L u<=p)):=by
  refine mK _ _ (DK _ _) (List.Pairwise.sublist List.filter_sublist List.pairwise_lt_range) (fun p => ?_);rw[at_mem,List.mem_filter,List.mem_range];have hle:=Gm.ah_le L v;constructor
  ·rintro⟨e,he,hf⟩;have h1:=Gm.ah_at L u p e hr he;have h2:=Gm.ah_at L v p e hr he;simp at hf;exact⟨h2.1 hf.2,by simp;exact Nat.le_of_not_lt fun h=>by have:=h1.2 h;omega⟩
  ·rintro⟨h1,h2⟩;have he:=List.getElem?_eq_getElem (l:=L) (i:=p) (by omega);have h3:=Gm.ah_at L u p _ hr he;have h4:=Gm.ah_at L v p _ hr he;refine⟨_,he,?_⟩;simp at h2 ⊢;exact⟨Int.not_lt.1 fun h=>by have:=h3.1 h;omega,h4.2 h1⟩
 rw[h];apply List.ext_getElem?;intro i;rw[List.getElem?_drop];have hr2:(List.range (Gm.ah L v)).filter (fun p=>decide (Gm.ah L u<=p))=(List.range (Gm.ah L v-Gm.ah L u)).map (fun i=>Gm.ah L u+i):=by
  refine mK _ _ (List.Pairwise.sublist List.filter_sublist List.pairwise_lt_range) (List.pairwise_map.2 (List.pairwise_lt_range.imp (fun h=>by omega))) (fun p => ?_);rw[List.mem_filter,List.mem_range,List.mem_map];constructor
  ·rintro⟨h1,h2⟩;simp at h2;exact⟨p-Gm.ah L u,by rw[List.mem_range];omega,by omega⟩
  ·rintro⟨j,h1,rfl⟩;rw[List.mem_range]at h1;exact⟨by omega,by simp⟩
 have hle:=Gm.ah_le L v;rw[hr2,List.map_map];by_cases hi:i<Gm.ah L v-Gm.ah L u
 ·rw[List.getElem?_take_of_lt (by omega),List.getElem?_map,List.getElem?_range hi,Option.map_some,Function.comp,List.getD_eq_getElem?_getD,List.getElem?_eq_getElem (by omega)];rfl
 ·rw[List.getElem?_eq_none (by simp;omega),List.getElem?_eq_none (by simp;omega)]
theorem O8(R:List E3)(h0:JN R)(x y c:Nat):bel (tos R) x y c=(((R.take y).drop x).filter (fun e=>decide (e.2.2<(c:Int)))).length:=by
 unfold bel tos;rw[<-List.map_take,<-List.map_drop,List.filter_map,List.length_map];congr 1;refine List.filter_congr (fun e he => ?_);have:=h0 e (List.mem_of_mem_take (List.mem_of_mem_drop he));simp only[Function.comp];rw[Bool.eq_iff_iff];simp;omega
theorem TL(S:List E3)(a b:Int)(h:a<=b):(S.filter (fun e=>decide (e.2.2<b))).length=(S.filter (fun e=>decide (e.2.2<a))).length+(S.filter (fun e=>decide (a<=e.2.2/\e.2.2<b))).length:=by
 induction S with
 | nil=>rfl
 | cons z S ih =>
  simp only[List.filter_cons,decide_eq_true_eq];split <;> split <;> split <;> (try simp only[List.length_cons]) <;> omega
def inB(f1 f2 l1 l2 t1 t2:Int)(e:E3):Bool:=decide (f1<=e.1/\e.1<f2)&&decide (l1<=e.2.1/\e.2.1<l2)&&decide (t1<=e.2.2/\e.2.2<t2)
theorem FK(hL:Gm.fO L)(hp:R.Perm L)(hs:Gm.S2 R)(h0:JN L)(u v c a b:Nat)(huv:u<=v)(hab:a<=b):
 bel (tos R) (bel (aM L) 0 (aM L).length c+cnt (eqf (aM L) c) (Gm.ah L u)) (bel (aM L) 0 (aM L).length c+cnt (eqf (aM L) c) (Gm.ah L v)) b
  = bel (tos R) (bel (aM L) 0 (aM L).length c+cnt (eqf (aM L) c) (Gm.ah L u)) (bel (aM L) 0 (aM L).length c+cnt (eqf (aM L) c) (Gm.ah L v)) a+(L.filter (inB u v c (c+1) a b)).length:=by
 have hr0:JN R:=fun e he=>h0 e (hp.mem_iff.1 he);rw[O8 R hr0,O8 R hr0,AZ hL hp hs h0 c _ _ (Gm.Y4 L huv) (Gm.ah_le L v),JW L (Gm.SY hL),TL _ (a:Int) (b:Int) (by omega)];congr 2;rw[List.filter_filter,List.filter_filter];refine List.filter_congr (fun e _ => ?_);unfold inB;rw[Bool.eq_iff_iff];simp;omega
theorem L9(L:List E3)(f1 f2 t1 t2:Int)(a c:Nat)(h:a<=c):(L.filter (inB f1 f2 a (c+1:Nat) t1 t2)).length=(L.filter (inB f1 f2 a c t1 t2)).length+(L.filter (inB f1 f2 c (c+1) t1 t2)).length:=by
 induction L with
 | nil=>rfl
 | cons z S ih =>
  simp only[List.filter_cons];have e:∀ x y:Int,inB f1 f2 x y t1 t2 z=((decide (f1<=z.1/\z.1<f2)&&decide (t1<=z.2.2/\z.2.2<t2))&&decide (x<=z.2.1/\z.2.1<y)):=fun x y=>by
   unfold inB;rw[Bool.and_right_comm]
  rw[e,e,e];generalize (decide (f1<=z.1/\z.1<f2)&&decide (t1<=z.2.2/\z.2.2<t2))=g;cases g
  ·simpa only[Bool.false_and,Bool.false_eq_true,if_false]using ih
  ·simp only[Bool.true_and,decide_eq_true_eq];split <;> split <;> split <;> (try simp only[List.length_cons]) <;> omega
theorem MU(L:List E3)(f1 f2 t1 t2 a:Int):(L.filter (inB f1 f2 a a t1 t2)).length=0:=by
 rw[List.length_eq_zero_iff,List.filter_eq_nil_iff];intro e _;unfold inB;simp;omega
end Go.Proofs.YtphjbbbnbmafnaaGreatDoor.G
namespace Go.Proofs
open Go.Shelf
def Tryz.lays169_ren:Go.Shelf.Ren:=⟨fun | 169=>87 | n=>n,fun | 70=>169 | 9=>9 | 0=>0 | 72=>171 | 37=>113 | 127=>235 | 3=>3 | 5=>5 | n=>n,fun | n=>n⟩
theorem Tryz.lays169:Go.Proofs.Lays.n169 Tryz.prog Tryz.lays169_ren:={
 mixed:=by kernel_rfl
 f169:=Tryz.func87.trans (congrArg some (by kernel_rfl))
 t0:=Tryz.underlying0
 a0:=Tryz.isAgg0
 z0:=Tryz.sizeOf0
 v0:=Tryz.zeroValue0
 t3:=Tryz.underlying3
 a3:=Tryz.isAgg3
 z3:=Tryz.sizeOf3
 v3:=Tryz.zeroValue3
 t9:=Tryz.underlying9
 a9:=Tryz.isAgg9
 z9:=Tryz.sizeOf9
 v9:=Tryz.zeroValue9
 t37:=Tryz.underlying113
 a37:=Tryz.isAgg113
 z37:=Tryz.sizeOf113
 v37:=Tryz.zeroValue113
 t70:=Tryz.underlying169
 a70:=Tryz.isAgg169
 z70:=Tryz.sizeOf169
 v70:=Tryz.zeroValue169
 t72:=Tryz.underlying171
 a72:=Tryz.isAgg171
 z72:=Tryz.sizeOf171
 v72:=Tryz.zeroValue171
 t127:=Tryz.underlying235
 a127:=Tryz.isAgg235
 z127:=Tryz.sizeOf235
 v127:=Tryz.zeroValue235 }
theorem Tryz.Builder_Extra_169:Builder.Extra Tryz.prog Tryz.lays169_ren:={
 sizeBuilder:=by kernel_rfl
 liesBuilder:=by kernel_rfl
 t5:=Tryz.underlying5
 a5:=Tryz.isAgg5
 z5:=Tryz.sizeOf5
 v5:=Tryz.zeroValue5
 infoByte:=by kernel_rfl
 cellsByte:=by kernel_rfl
 sizeByte:=by kernel_rfl
 neB5:=by decide }
def Tryz.lays125_ren:Go.Shelf.Ren:=⟨fun | 125=>128 | 128=>175 | 129=>176 | n=>n,fun | 46=>191 | 3=>3 | 51=>233 | 53=>133 | 4=>4 | 5=>5 | 9=>9 | n=>n,fun | n=>n⟩
theorem Tryz.lays125:Go.Proofs.Lays.n125 Tryz.prog Tryz.lays125_ren:={
 mixed:=by kernel_rfl
 f125:=Tryz.func128.trans (congrArg some (by kernel_rfl))
 f128:=Tryz.func175.trans (congrArg some (by kernel_rfl))
 f129:=Tryz.func176.trans (congrArg some (by kernel_rfl))
 t3:=Tryz.underlying3
 a3:=Tryz.isAgg3
 z3:=Tryz.sizeOf3
 v3:=Tryz.zeroValue3
 t4:=Tryz.underlying4
 a4:=Tryz.isAgg4
 z4:=Tryz.sizeOf4
 v4:=Tryz.zeroValue4
 t5:=Tryz.underlying5
 a5:=Tryz.isAgg5
 z5:=Tryz.sizeOf5
 v5:=Tryz.zeroValue5
 t9:=Tryz.underlying9
 a9:=Tryz.isAgg9
 z9:=Tryz.sizeOf9
 v9:=Tryz.zeroValue9
 t46:=Tryz.underlying191
 a46:=Tryz.isAgg191
 z46:=Tryz.sizeOf191
 v46:=Tryz.zeroValue191
 t51:=Tryz.underlying233
 a51:=Tryz.isAgg233
 z51:=Tryz.sizeOf233
 v51:=Tryz.zeroValue233
 t53:=Tryz.underlying133
 a53:=Tryz.isAgg133
 z53:=Tryz.sizeOf133
 v53:=Tryz.zeroValue133 }
theorem Tryz.bits_Len(x:Int)(w:World)(h0:0<=x)(h1:x<=18446744073709551615):
 Calls Tryz.prog 128 #[.int .u64 x] w fun e w'=>e = .returned (.int .i64 (Lib.bitLen x.toNat))/\w'=w:=Any.bits_Len Tryz.lays125 x w h0 h1
open Go.RowKit in
theorem Tryz.Builder_String_any_k(B b:Nat)(l:List UInt8)(w:World)(h:Lib.IsBuilderF 171 5 B b (Lib.byteCells l) w)(hBw:B<=w.heap.size):
 Calls Tryz.prog 87 #[.pointer (some ⟨b,0,none⟩)] w fun e w'=>e = .returned (.string ⟨l.toArray⟩)/\(Lib.IsBuilderF 171 5 B b (Lib.byteCells l) w'/\Below B w w'/\Lib.OthersKept 5 (some b) w w'):=Any.Builder_String_any_k Tryz.lays169 Tryz.Builder_Extra_169 B b l w h hBw
def Tryz.laysSlC25_f150_ren:Go.Shelf.Ren:=⟨fun | 5=>150 | 7=>185 | n=>n,fun | 22=>3 | 3=>3 | 4=>4 | n=>n,fun | n=>n⟩
theorem Tryz.laysSlC25_f150:Go.Proofs.SlLaysC2.n5 Tryz.prog Tryz.laysSlC25_f150_ren:={
 mixed:=by kernel_rfl
 f5:=⟨Tryz.f150.name,by decide,Tryz.func150.trans (congrArg some (by kernel_rfl))⟩
 f7:=⟨Tryz.f185.name,by decide,Tryz.func185.trans (congrArg some (by kernel_rfl))⟩
 t3:=Tryz.underlying3
 a3:=Tryz.isAgg3
 z3:=Tryz.sizeOf3
 v3:=Tryz.zeroValue3
 t4:=Tryz.underlying4
 a4:=Tryz.isAgg4
 z4:=Tryz.sizeOf4
 v4:=Tryz.zeroValue4
 t22:=Tryz.underlying3
 a22:=Tryz.isAgg3
 z22:=Tryz.sizeOf3
 v22:=Tryz.zeroValue3 }
open Go.Lib in
theorem Tryz.cmp_Compare_int(x y:Int)(w:World):
 Calls Tryz.prog 150 #[.int .i64 x,.int .i64 y] w fun e w'=>e = .returned (.int .i64 (Lib.compareInt x y))/\w'=w:=AnyG.cmp_Compare_int Tryz.laysSlC25_f150 x y w
def Tryz.sortE_ren:Go.Shelf.Ren:=⟨fun | 6=>147 | 15=>128 | 14=>184 | 28=>175 | 29=>176 | 20=>199 | 21=>200 | 22=>201 | 23=>202 | 24=>203 | 25=>204 | 26=>205 | 27=>206 | 46=>212 | 47=>192 | 48=>193 | 49=>213 | 50=>214 | 57=>216 | n=>n,fun | 22=>24 | 24=>38 | 25=>190 | 3=>3 | 39=>191 | 0=>0 | 53=>233 | 55=>133 | 4=>4 | 46=>257 | 45=>256 | 50=>261 | 5=>5 | 9=>9 | 66=>282 | 70=>286 | 76=>295 | 77=>296 | n=>n,fun | n=>n⟩
theorem Tryz.sortE:Go.Proofs.SlLaysF0.n6 Tryz.prog Tryz.sortE_ren:={
 mixed:=by kernel_rfl
 f6:=⟨Tryz.f147.name,by decide,Tryz.func147.trans (congrArg some (by kernel_rfl))⟩
 f14:=⟨Tryz.f184.name,by decide,Tryz.func184.trans (congrArg some (by kernel_rfl))⟩
 f15:=Tryz.func128.trans (congrArg some (by kernel_rfl))
 f20:=⟨Tryz.f199.name,by decide,Tryz.func199.trans (congrArg some (by kernel_rfl))⟩
 f21:=⟨Tryz.f200.name,by decide,Tryz.func200.trans (congrArg some (by kernel_rfl))⟩
 f22:=⟨Tryz.f201.name,by decide,Tryz.func201.trans (congrArg some (by kernel_rfl))⟩
 f23:=⟨Tryz.f202.name,by decide,Tryz.func202.trans (congrArg some (by kernel_rfl))⟩
 f24:=⟨Tryz.f203.name,by decide,Tryz.func203.trans (congrArg some (by kernel_rfl))⟩
 f25:=⟨Tryz.f204.name,by decide,Tryz.func204.trans (congrArg some (by kernel_rfl))⟩
 f26:=⟨Tryz.f205.name,by decide,Tryz.func205.trans (congrArg some (by kernel_rfl))⟩
 f27:=⟨Tryz.f206.name,by decide,Tryz.func206.trans (congrArg some (by kernel_rfl))⟩
 f28:=Tryz.func175.trans (congrArg some (by kernel_rfl))
 f29:=Tryz.func176.trans (congrArg some (by kernel_rfl))
 f46:=⟨Tryz.f212.name,by decide,Tryz.func212.trans (congrArg some (by kernel_rfl))⟩
 f47:=Tryz.func192.trans (congrArg some (by kernel_rfl))
 f48:=Tryz.func193.trans (congrArg some (by kernel_rfl))
 f49:=⟨Tryz.f213.name,by decide,Tryz.func213.trans (congrArg some (by kernel_rfl))⟩
 f50:=⟨Tryz.f214.name,by decide,Tryz.func214.trans (congrArg some (by kernel_rfl))⟩
 f57:=⟨Tryz.f216.name,by decide,Tryz.func216.trans (congrArg some (by kernel_rfl))⟩
 t0:=Tryz.underlying0
 a0:=Tryz.isAgg0
 z0:=Tryz.sizeOf0
 v0:=Tryz.zeroValue0
 t3:=Tryz.underlying3
 a3:=Tryz.isAgg3
 z3:=Tryz.sizeOf3
 v3:=Tryz.zeroValue3
 t4:=Tryz.underlying4
 a4:=Tryz.isAgg4
 z4:=Tryz.sizeOf4
 v4:=Tryz.zeroValue4
 t5:=Tryz.underlying5
 a5:=Tryz.isAgg5
 z5:=Tryz.sizeOf5
 v5:=Tryz.zeroValue5
 t9:=Tryz.underlying9
 a9:=Tryz.isAgg9
 z9:=Tryz.sizeOf9
 v9:=Tryz.zeroValue9
 t22:=Tryz.underlying24
 a22:=Tryz.isAgg24
 z22:=Tryz.sizeOf24
 v22:=Tryz.zeroValue24
 t25:=Tryz.underlying190
 a25:=Tryz.isAgg190
 z25:=Tryz.sizeOf190
 v25:=Tryz.zeroValue190
 t39:=Tryz.underlying191
 a39:=Tryz.isAgg191
 z39:=Tryz.sizeOf191
 v39:=Tryz.zeroValue191
 t45:=Tryz.underlying256
 a45:=Tryz.isAgg256
 z45:=Tryz.sizeOf256
 v45:=Tryz.zeroValue256
 t46:=Tryz.underlying257
 a46:=Tryz.isAgg257
 z46:=Tryz.sizeOf257
 v46:=Tryz.zeroValue257
 t50:=Tryz.underlying261
 a50:=Tryz.isAgg261
 z50:=Tryz.sizeOf261
 v50:=Tryz.zeroValue261
 t53:=Tryz.underlying233
 a53:=Tryz.isAgg233
 z53:=Tryz.sizeOf233
 v53:=Tryz.zeroValue233
 t55:=Tryz.underlying133
 a55:=Tryz.isAgg133
 z55:=Tryz.sizeOf133
 v55:=Tryz.zeroValue133
 t66:=Tryz.underlying282
 a66:=Tryz.isAgg282
 z66:=Tryz.sizeOf282
 v66:=Tryz.zeroValue282
 t70:=Tryz.underlying286
 a70:=Tryz.isAgg286
 z70:=Tryz.sizeOf286
 v70:=Tryz.zeroValue286
 t76:=Tryz.underlying295
 a76:=Tryz.isAgg295
 z76:=Tryz.sizeOf295
 v76:=Tryz.zeroValue295
 t77:=Tryz.underlying296
 a77:=Tryz.isAgg296
 z77:=Tryz.sizeOf296
 v77:=Tryz.zeroValue296 }
def Tryz.lays189_ren:Go.Shelf.Ren:=⟨fun | 189=>71 | 125=>128 | 257=>127 | 128=>175 | 129=>176 | 294=>166 | 295=>167 | 296=>168 | 297=>169 | 298=>170 | 299=>171 | 216=>172 | 300=>173 | 301=>174 | 328=>191 | 329=>192 | 330=>193 | 331=>194 | 332=>195 | 215=>185 | 343=>211 | n=>n,fun | 28=>64 | 3=>3 | 46=>191 | 0=>0 | 51=>233 | 53=>133 | 4=>4 | 183=>257 | 182=>256 | 131=>261 | 5=>5 | 9=>9 | 218=>282 | 222=>286 | 228=>295 | 229=>296 | n=>n,fun | n=>n⟩
theorem Tryz.lays189:Go.Proofs.Lays.n189 Tryz.prog Tryz.lays189_ren:={
 mixed:=by kernel_rfl
 f125:=Tryz.func128.trans (congrArg some (by kernel_rfl))
 f128:=Tryz.func175.trans (congrArg some (by kernel_rfl))
 f129:=Tryz.func176.trans (congrArg some (by kernel_rfl))
 f189:=Tryz.func71.trans (congrArg some (by kernel_rfl))
 f215:=Tryz.func185.trans (congrArg some (by kernel_rfl))
 f216:=Tryz.func172.trans (congrArg some (by kernel_rfl))
 f257:=Tryz.func127.trans (congrArg some (by kernel_rfl))
 f294:=Tryz.func166.trans (congrArg some (by kernel_rfl))
 f295:=Tryz.func167.trans (congrArg some (by kernel_rfl))
 f296:=Tryz.func168.trans (congrArg some (by kernel_rfl))
 f297:=Tryz.func169.trans (congrArg some (by kernel_rfl))
 f298:=Tryz.func170.trans (congrArg some (by kernel_rfl))
 f299:=Tryz.func171.trans (congrArg some (by kernel_rfl))
 f300:=Tryz.func173.trans (congrArg some (by kernel_rfl))
 f301:=Tryz.func174.trans (congrArg some (by kernel_rfl))
 f328:=Tryz.func191.trans (congrArg some (by kernel_rfl))
 f329:=Tryz.func192.trans (congrArg some (by kernel_rfl))
 f330:=Tryz.func193.trans (congrArg some (by kernel_rfl))
 f331:=Tryz.func194.trans (congrArg some (by kernel_rfl))
 f332:=Tryz.func195.trans (congrArg some (by kernel_rfl))
 f343:=Tryz.func211.trans (congrArg some (by kernel_rfl))
 t0:=Tryz.underlying0
 a0:=Tryz.isAgg0
 z0:=Tryz.sizeOf0
 v0:=Tryz.zeroValue0
 t3:=Tryz.underlying3
 a3:=Tryz.isAgg3
 z3:=Tryz.sizeOf3
 v3:=Tryz.zeroValue3
 t4:=Tryz.underlying4
 a4:=Tryz.isAgg4
 z4:=Tryz.sizeOf4
 v4:=Tryz.zeroValue4
 t5:=Tryz.underlying5
 a5:=Tryz.isAgg5
 z5:=Tryz.sizeOf5
 v5:=Tryz.zeroValue5
 t9:=Tryz.underlying9
 a9:=Tryz.isAgg9
 z9:=Tryz.sizeOf9
 v9:=Tryz.zeroValue9
 t28:=Tryz.underlying64
 a28:=Tryz.isAgg64
 z28:=Tryz.sizeOf64
 v28:=Tryz.zeroValue64
 t46:=Tryz.underlying191
 a46:=Tryz.isAgg191
 z46:=Tryz.sizeOf191
 v46:=Tryz.zeroValue191
 t51:=Tryz.underlying233
 a51:=Tryz.isAgg233
 z51:=Tryz.sizeOf233
 v51:=Tryz.zeroValue233
 t53:=Tryz.underlying133
 a53:=Tryz.isAgg133
 z53:=Tryz.sizeOf133
 v53:=Tryz.zeroValue133
 t131:=Tryz.underlying261
 a131:=Tryz.isAgg261
 z131:=Tryz.sizeOf261
 v131:=Tryz.zeroValue261
 t182:=Tryz.underlying256
 a182:=Tryz.isAgg256
 z182:=Tryz.sizeOf256
 v182:=Tryz.zeroValue256
 t183:=Tryz.underlying257
 a183:=Tryz.isAgg257
 z183:=Tryz.sizeOf257
 v183:=Tryz.zeroValue257
 t218:=Tryz.underlying282
 a218:=Tryz.isAgg282
 z218:=Tryz.sizeOf282
 v218:=Tryz.zeroValue282
 t222:=Tryz.underlying286
 a222:=Tryz.isAgg286
 z222:=Tryz.sizeOf286
 v222:=Tryz.zeroValue286
 t228:=Tryz.underlying295
 a228:=Tryz.isAgg295
 z228:=Tryz.sizeOf295
 v228:=Tryz.zeroValue295
 t229:=Tryz.underlying296
 a229:=Tryz.isAgg296
 z229:=Tryz.sizeOf296
 v229:=Tryz.zeroValue296 }
open Go.Sort Go.RowKit in
theorem Tryz.slices_Sort_int(blk off cap:Nat)(zs:List Int)(w:World)(hH:Holds (Value.int .i64) w blk off zs.toArray)(hblk:blk<w.heap.size)(hsz:zs.length<4611686018427387904):
 Calls Tryz.prog 71 #[.slice (some ⟨blk,off,none⟩) zs.length cap] w fun e w' =>
  e = .returned (.tuple #[])/\∃ n os,w'=grow (putRow (Value.int .i64) (Sort.ahead w n) blk off (zs.mergeSort fun x y=>decide (x<=y)).toArray) os:=Any.slices_Sort_int Tryz.lays189 blk off cap zs w hH hblk hsz
open Go.RowKit Go.Sort in
theorem Tryz.slices_Sort_int_none(p:Option Addr)(cap:Nat)(w:World):
 Calls Tryz.prog 71 #[.slice p 0 cap] w fun e w'=>e = .returned (.tuple #[])/\w'=w:=Any.slices_Sort_int_none Tryz.lays189 p cap w
end Go.Proofs
namespace Go.Proofs.YtphjbbbnbmafnaaGreatDoor.G
open Go.RowKit Go.Shelf
theorem Tryz.infoBu:(Tryz.prog.info? 171).map (·.size)=some 2:=by kernel_rfl
theorem Tryz.liesBu:liesAt Tryz.prog Tryz.prog.depth 171 (2 / Tryz.prog.cellsOf 171) 0 171 1=true:=by kernel_rfl
theorem Tryz.infoBy:(Tryz.prog.info? 5).map (fun i=>(i.zero,i.size,i.bytes))=some (some (.int .u8 0),1,1):=by kernel_rfl
abbrev Bu(B b:Nat)(bs:List Value)(w:World):Prop:=Lib.IsBuilderF 171 5 B b bs w
abbrev Oth(b:Nat)(w w':World):Prop:=Lib.OthersKept 5 (some b) w w'
theorem XY(b:Nat)(w:World)(h0:w.cell? ⟨b,0,none⟩=some (.pointer (some ⟨b,0,none⟩))):
 Calls Tryz.prog 144 #[.pointer (some ⟨b,0,none⟩)] w fun e w'=>e = .returned (.tuple #[])/\w'=w:=by
 obtain⟨j,hj,_⟩:=Option.map_eq_some_iff.1 Tryz.infoBu;go_enter Tryz.func144,Tryz.ntmps144
 go_wp2;rw[Lib.run_neq_ptr_same w _ Tryz.underlying169 hj];go_wp2;go_end0;exact⟨rfl,rfl⟩
theorem VJ(b:Nat)(w:World)(h0:w.cell? ⟨b,0,none⟩=some (.pointer none))(hsh:w.shape? b=some (171,2))(hfz:w.frozen? ⟨b,0,none⟩=false):
 Calls Tryz.prog 144 #[.pointer (some ⟨b,0,none⟩)] w fun e w'=>e = .returned (.tuple #[])/\w'=w.setCell ⟨b,0,none⟩ (.pointer (some ⟨b,0,none⟩)):=by
 obtain⟨j,hj,hjs⟩:=Option.map_eq_some_iff.1 Tryz.infoBu;go_enter Tryz.func144,Tryz.ntmps144
 go_wp2;rw[Lib.run_to_unsafe w ⟨b,0,none⟩ Tryz.underlying169 Tryz.underlying272 hj (by rw[hjs];decide) hsh (Nat.zero_lt_succ 1)];simp only[Result.andThen];rw[Oper.upon_value];go_wp2;rw[run_callFunc_extern Tryz.func182 (by kernel_rfl) (by kernel_rfl) (by kernel_rfl) (e:=Extern.AbiNoEscape.same) (by kernel_rfl)];rw[Lib.run_noEscape];simp only[Result.andThen];rw[Oper.upon_value];go_wp2;rw[Lib.run_from_unsafe w ⟨b,0,none⟩ Tryz.underlying272 Tryz.underlying169 hj hsh Tryz.liesBu];simp only[Result.andThen];rw[Oper.upon_value];go_wp2;go_end0;exact⟨rfl,rfl⟩
theorem cc_k(B b:Nat)(bs:List Value)(w:World)(h:Bu B b bs w):
 Calls Tryz.prog 144 #[.pointer (some ⟨b,0,none⟩)] w fun e w'=>e = .returned (.tuple #[])/\(Lib.BuilderAtF 171 5 B b (.pointer (some ⟨b,0,none⟩)) bs w'/\Below B w w'/\Oth b w w'):=by
 rcases h with h | h
 ·refine(VJ b w h.cell0 h.shape h.frozen0).mono ?_;rintro e w' ⟨rfl,rfl⟩;exact⟨rfl,h.used _,(Below.refl B w).setCell (p:=⟨b,0,none⟩) h.1 _,(Lib.OthersKept.refl _ _ w).setCell ⟨b,0,none⟩ rfl _⟩
 ·refine(XY b w h.cell0).mono ?_;rintro e w' ⟨rfl,rfl⟩;exact⟨rfl,h,Below.refl B _,Lib.OthersKept.refl _ _ _⟩
theorem aAu(w:World)(x:Value)(t:TypeId)(j:Nat)(u:Value)(hj:[x][j]?=some u):(w.alloc (.cells #[x] t)).cell? ((⟨w.heap.size,0,none⟩:Addr).add j)=some u:=by
 match j,hj with
 | 0,hj=>simp at hj;subst hj;simp[Addr.add]
theorem LV{b:Nat}{w:World}{o:Obj}(h:w.heap[b]?=some o):b<w.heap.size:=(Array.getElem?_eq_some_iff.1 h).1
theorem wb_k(B b:Nat)(bs:List Value)(c:Int)(w:World)(h:Bu B b bs w)(aE:bs.length+1<=140737488355328)(hBw:B<=w.heap.size):
 Calls Tryz.prog 145 #[.pointer (some ⟨b,0,none⟩),.int .u8 c] w fun e w'=>e = .returned .nilIface/\(Bu B b (bs++[.int .u8 c]) w'/\Below B w w'/\Oth b w w'):=by
 obtain⟨i0,hi,b2,b3,b4⟩:=info_parts Tryz.infoBy;have HC:Hid (Calls Tryz.prog 144 _ w _):=cc_k B b bs w h;go_enter Tryz.func145,Tryz.ntmps145
 go_wp2_with fail
 refine(Calls.mono HC.out ?_);rintro e w1 ⟨rfl,⟨hB,v,hbk,hown,hne⟩,hb1,hk1⟩;have c1:w1.cell? ⟨b,1,none⟩=some v:=by rw[Lib.cell_of_heap hbk];rfl
 have a8:=LV hbk;have hs1:=hb1.size;go_wp2_with (at_builtin;refine wpList_append_ownF _ rfl _ _ 113 rfl B 5 i0 (.int .u8 0) 1 1 Tryz.underlying113 hi b2 b3 b4 rfl (by decide) _ _ _ rfl (hown.alloc _) ⟨w1.heap.size,0,none⟩ 1 1 [.int .u8 c] rfl rfl (aAu _ _ _) (by intro u hu;simp at hu;subst hu;rfl) (by unfold maxLen;omega) (by omega) (by simp;omega) ?_)
 intro v' w2 hown' hgrow hnil;have a7:w2.heap[b]?=some (.cells #[.pointer (some ⟨b,0,none⟩),v] 171 (0,0)):=by
  rw[hgrow.block b (by simp;omega) (fun e=>hne e.symm),Lib.alloc_old w1 _ b a8];exact hbk
 have d1:w2.cell? ⟨b,1,none⟩=some v:=by rw[Lib.cell_of_heap a7];rfl
 have f1:w2.frozen? ⟨b,1,none⟩=false:=Lib.frozen_of_heap a7 1;obtain⟨g,cap,rfl⟩:∃ g cap,v' = .slice (some ⟨g,0,none⟩) (bs.length+1) cap:=by
  rcases hown'.2 with ⟨_,h0⟩ | ⟨g,cap,cur,fz,hv,_⟩
  ·omega
  ·exact⟨g,cap,hv⟩
 have HP:Hid _:=Lib.BuilderAtF.put (T:=171) (e:=5) hB a7 (bs':=bs++[.int .u8 c]) (by simpa using hown') (by decide);have b0:Hid _:=((hb1.alloc (by omega) _).grown hgrow (by simp;omega) (fun k hk=>(hown.lt k hk).1)).setCell (p:=⟨b,1,none⟩) hB (.slice (some ⟨g,0,none⟩) (bs.length+1) cap);have b1:Hid _:=((hk1.alloc _).grown hgrow (Lib.ownsRowF_kind (hown.alloc _))).setCell ⟨b,1,none⟩ rfl (.slice (some ⟨g,0,none⟩) (bs.length+1) cap);clear hown' hgrow hnil hown hbk a7;go_wp2;go_ret;exact⟨rfl,.inr HP.out,b0.out,b1.out⟩
theorem ws_k(B b:Nat)(bs:List Value)(s:ByteArray)(w:World)(h:Bu B b bs w)(aE:bs.length+s.size<=140737488355328)(hBw:B<=w.heap.size):
 Calls Tryz.prog 89 #[.pointer (some ⟨b,0,none⟩),.string s] w fun e w'=>e = .returned (.tuple #[.int .i64 s.size,.nilIface])/\(Bu B b (bs++Lib.strCells s) w'/\Below B w w'/\Oth b w w'):=by
 obtain⟨i0,hi,b2,b3,b4⟩:=info_parts Tryz.infoBy;have HC:Hid (Calls Tryz.prog 144 _ w _):=cc_k B b bs w h;go_enter Tryz.func89,Tryz.ntmps89
 go_wp2_with fail
 refine(Calls.mono HC.out ?_);rintro e w1 ⟨rfl,⟨hB,v,hbk,hown,hne⟩,hb1,hk1⟩;have c1:w1.cell? ⟨b,1,none⟩=some v:=by rw[Lib.cell_of_heap hbk];rfl
 have a8:=LV hbk;have hs1:=hb1.size;go_wp2_with (at_builtin;refine Lib.wpList_append_own_stringF _ rfl _ _ 113 9 rfl B 5 i0 Tryz.underlying113 Tryz.underlying9 hi b2 b3 b4 _ _ _ rfl hown s rfl (by unfold maxLen;omega) (by omega) (by omega) ?_)
 intro v' w2 hown' hgrow hnil;have a7:w2.heap[b]?=some (.cells #[.pointer (some ⟨b,0,none⟩),v] 171 (0,0)):=by
  rw[hgrow.block b a8 (fun e=>hne e.symm)];exact hbk
 have d1:w2.cell? ⟨b,1,none⟩=some v:=by rw[Lib.cell_of_heap a7];rfl
 have f1:w2.frozen? ⟨b,1,none⟩=false:=Lib.frozen_of_heap a7 1;obtain⟨g2,m2,a6,rfl⟩:∃ g2 m2 a6,v' = .slice g2 m2 a6:=by
  rcases hown'.2 with ⟨hv,h0⟩ | ⟨g2,a6,cur,fz,hv,_⟩
  ·exact⟨_,_,_,hv⟩
  ·exact⟨_,_,_,hv⟩
 have HP:Hid _:=Lib.BuilderAtF.put (T:=171) (e:=5) hB a7 (bs':=bs++Lib.strCells s) (by rw[List.length_append,Lib.strCells_length];exact hown') (by decide);have b0:Hid _:=(hb1.grown hgrow (by omega) (fun k hk=>(hown.lt k hk).1)).setCell (p:=⟨b,1,none⟩) hB (.slice g2 m2 a6);have b1:Hid _:=(hk1.grown hgrow (Lib.ownsRowF_kind hown)).setCell ⟨b,1,none⟩ rfl (.slice g2 m2 a6);clear hown' hgrow hnil hown hbk a7;go_wp2;go_ret2;exact⟨rfl,.inr HP.out,b0.out,b1.out⟩
theorem wr_k(B b:Nat)(bs:List Value)(news:List Value)(g cap n:Nat)(w:World)(h:Bu B b bs w)(hn:news.length=n)(hpos:0<n)(hsrc:∀ w1,Oth b w w1->∀ j u,news[j]?=some u->w1.cell? ((⟨g,0,none⟩:Addr).add j)=some u)(h1:∀ u∈news,u.oneCell'=true)(aE:bs.length+n<=140737488355328)(hBw:B<=w.heap.size):
 Calls Tryz.prog 86 #[.pointer (some ⟨b,0,none⟩),.slice (some ⟨g,0,none⟩) n cap] w fun e w'=>e = .returned (.tuple #[.int .i64 n,.nilIface])/\(Bu B b (bs++news) w'/\Below B w w'/\Oth b w w'):=by
 obtain⟨i0,hi,b2,b3,b4⟩:=info_parts Tryz.infoBy;have HC:Hid (Calls Tryz.prog 144 _ w _):=cc_k B b bs w h;go_enter Tryz.func86,Tryz.ntmps86
 go_wp2_with fail
 refine(Calls.mono HC.out ?_);rintro e w1 ⟨rfl,⟨hB,v,hbk,hown,hne⟩,hb1,hk1⟩;have c1:w1.cell? ⟨b,1,none⟩=some v:=by rw[Lib.cell_of_heap hbk];rfl
 have a8:=LV hbk;have hs1:=hb1.size;go_wp2_with (at_builtin;refine wpList_append_ownF _ rfl _ _ 113 rfl B 5 i0 (.int .u8 0) 1 1 Tryz.underlying113 hi b2 b3 b4 rfl (by decide) _ _ _ rfl hown ⟨g,0,none⟩ n cap news rfl (by omega) (hsrc w1 hk1) h1 (by unfold maxLen;omega) (by omega) (by omega) ?_)
 intro v' w2 hown' hgrow hnil;have a7:w2.heap[b]?=some (.cells #[.pointer (some ⟨b,0,none⟩),v] 171 (0,0)):=by
  rw[hgrow.block b a8 (fun e=>hne e.symm)];exact hbk
 have d1:w2.cell? ⟨b,1,none⟩=some v:=by rw[Lib.cell_of_heap a7];rfl
 have f1:w2.frozen? ⟨b,1,none⟩=false:=Lib.frozen_of_heap a7 1;obtain⟨g2,a6,rfl⟩:∃ g2 a6,v' = .slice (some ⟨g2,0,none⟩) (bs.length+n) a6:=by
  rcases hown'.2 with ⟨_,h0⟩ | ⟨g2,a6,cur,fz,hv,_⟩
  ·omega
  ·exact⟨g2,a6,hv⟩
 have HP:Hid _:=Lib.BuilderAtF.put (T:=171) (e:=5) hB a7 (bs':=bs++news) (by rw[List.length_append,hn];exact hown') (by decide);have b0:Hid _:=(hb1.grown hgrow (by omega) (fun k hk=>(hown.lt k hk).1)).setCell (p:=⟨b,1,none⟩) hB (.slice (some ⟨g2,0,none⟩) (bs.length+n) a6);have b1:Hid _:=(hk1.grown hgrow (Lib.ownsRowF_kind hown)).setCell ⟨b,1,none⟩ rfl (.slice (some ⟨g2,0,none⟩) (bs.length+n) a6);clear hown' hgrow hnil hown hbk a7;go_wp2;go_ret2;exact⟨rfl,.inr HP.out,b0.out,b1.out⟩
end Go.Proofs.YtphjbbbnbmafnaaGreatDoor.G
