/- Parts: SeqMath Bel Nums Ask16. -/
import Derived.Test.YtphjbbbnbmafnaaGreatDoorOrdM
import Derived.Deep.RegionHeld
set_option maxHeartbeats 2000000
namespace Go.Proofs.YtphjbbbnbmafnaaGreatDoor
variable {B a b c t x:Nat} {L l s:List Nat} {f:Nat->Bool}
def part(b:Nat)(l:List Nat):List Nat:=l.filter (fun x=>x.testBit b == false)++l.filter (fun x=>x.testBit b == true)
def lev(B:Nat)(l:List Nat):Nat->List Nat
 | 0=>l
 | d+1=>part (B-1-d) (lev B l d)
def fU(l:List Nat)(b i:Nat):Bool:=(l.getD i 0).testBit b
def down(f:Nat->Bool)(n:Nat)(one:Bool)(i:Nat):Nat:=if one then n-cnt f n+cnt f i else i-cnt f i
def eqf(l:List Nat)(c i:Nat):Bool:=l[i]? == some c
def Seg(L:List Nat)(a b:Nat)(s:List Nat):Prop:=∃ l1 l3,L=l1++s++l3/\a=l1.length/\b=l1.length+s.length
theorem fD(b:Nat)(l:List Nat):(l.filter (fun x=>x.testBit b == false)).length+(l.filter (fun x=>x.testBit b == true)).length=l.length:=by
 induction l with
 | nil=>rfl
 | cons x r ih =>
  rw[aG8,aG8];cases x.testBit b <;> simp at ih ⊢ <;> omega
theorem jC(b:Nat)(l:List Nat):(part b l).length=l.length:=by
 unfold part;rw[WT];exact fD b l
theorem aQ(B:Nat)(l:List Nat)(d:Nat):(lev B l d).length=l.length:=by
 induction d with
 | zero=>rfl
 | succ d ih=>unfold lev;rw[jC,ih]
theorem SS(h:x∈part b l):x∈l:=by
 unfold part at h;rw[aC9,List.mem_filter,List.mem_filter]at h;rcases h with h | h <;> exact h.1
theorem yN{d:Nat}(h:x∈lev B l d):x∈l:=by
 induction d with
 | zero=>exact h
 | succ d ih=>exact ih (SS h)
theorem JS(l:List Nat)(b i:Nat)(h:l.length<=i):fU l b i=false:=by
 unfold fU;rw[aC1,aC7 h];simp
theorem IV(g:Nat->Bool)(p:Nat->Bool)(l:List Nat)(h:∀ i (hi:i<l.length),g i=p l[i]):∀ i,i<=l.length->cnt g i=((l.take i).filter p).length:=by
 intro i
 induction i with
 | zero=>intro _;rfl
 | succ i ih =>
  intro hi;rw[bL,ih (by omega),h i (by omega),aE0,A7 (by omega)];rw[aF7,WT];congr 1;simp only[aH4,aG8,List.filter_nil];cases p l[i] <;> simp
theorem zH(l:List Nat)(b i:Nat)(h:i<=l.length):cnt (fU l b) i=((l.take i).filter (fun x=>x.testBit b == true)).length :=
 IV _ (fun x=>x.testBit b == true) l (fun i hi=>by unfold fU;rw[aC1,A7 hi];simp) i h
theorem yI(l:List Nat)(c i:Nat)(h:i<=l.length):cnt (eqf l c) i=((l.take i).filter (fun x=>x == c)).length :=
 IV _ (fun x=>x == c) l (fun i hi=>by unfold eqf;rw[A7 hi];simp) i h
theorem kP(bt:Nat)(h:Seg L a b s)(one:Bool):
 Seg (part bt L) (down (fU L bt) L.length one a) (down (fU L bt) L.length one b) (s.filter (fun x=>x.testBit bt == one)):=by
 obtain⟨l1,l3,rfl,rfl,rfl⟩:=h;have c1:cnt (fU (l1++s++l3) bt) l1.length=(l1.filter (fun x=>x.testBit bt == true)).length:=by
  rw[zH _ _ _ (by simp only[WT];omega),aD3,List.take_left]
 have c2:cnt (fU (l1++s++l3) bt) (l1.length+s.length)=(l1.filter (fun x=>x.testBit bt == true)).length+(s.filter (fun x=>x.testBit bt == true)).length:=by
  rw[zH _ _ _ (by simp only[WT];omega),<-WT,List.take_left,aF7,WT]
 have c3:cnt (fU (l1++s++l3) bt) (l1++s++l3).length=(l1.filter (fun x=>x.testBit bt == true)).length+(s.filter (fun x=>x.testBit bt == true)).length+(l3.filter (fun x=>x.testBit bt == true)).length:=by
  rw[zH _ _ _ (V7 _),aE3,aF7,aF7,WT,WT]
 have c4:(l1++s++l3).length=l1.length+s.length+l3.length:=by simp only[WT]
 have e1:=fD bt l1;have e2:=fD bt s;have e3:=fD bt l3;cases one
 ·refine⟨l1.filter (fun x=>x.testBit bt == false),l3.filter (fun x=>x.testBit bt == false)++(l1++s++l3).filter (fun x=>x.testBit bt == true),?_,?_,?_⟩
  ·unfold part;simp only[aF7,aD3]
  ·unfold down;rw[if_neg (by simp),c1];omega
  ·unfold down;rw[if_neg (by simp),c2];omega
 ·refine⟨(l1++s++l3).filter (fun x=>x.testBit bt == false)++l1.filter (fun x=>x.testBit bt == true),l3.filter (fun x=>x.testBit bt == true),?_,?_,?_⟩
  ·unfold part;simp only[aF7,aD3]
  ·unfold down;rw[if_pos rfl,c3,c1];simp only[aF7,WT];omega
  ·unfold down;rw[if_pos rfl,c3,c2];simp only[aF7,WT];omega
def led(B:Nat)(l:List Nat)(c:Nat):Nat->Nat->Nat
 | 0,t=>t
 | d+1,t=>down (fU (lev B l d) (B-1-d)) l.length (c.testBit (B-1-d)) (led B l c d t)
theorem iJ(x h:Nat):x / 2 ^ h=2*(x / 2 ^ (h+1))+(x.testBit h).toNat:=by
 have e:x / 2 ^ (h+1)=x / 2 ^ h / 2:=by rw[Nat.pow_succ,Nat.div_div_eq_div_mul]
 rw[e,aJ0];have:=Nat.div_add_mod (x / 2 ^ h) 2;have h2:x / 2 ^ h % 2<2:=Nat.mod_lt _ (by decide);rcases(show x / 2 ^ h % 2=0\/x / 2 ^ h % 2=1 by omega)with h3 | h3
 ·rw[h3]at this ⊢;simp;omega
 ·rw[h3]at this ⊢;simp;omega
theorem QM(x P h:Nat)(o:Bool):((x / 2 ^ (h+1) == P)&&(x.testBit h == o))=(x / 2 ^ h == 2*P+o.toNat):=by
 rw[iJ x h];generalize x / 2 ^ (h+1)=y;rw[aI5,aD6,beq_iff_eq,beq_iff_eq,beq_iff_eq];cases x.testBit h <;> cases o <;> simp only[Bool.toNat_false,Bool.toNat_true,reduceCtorEq,and_true,and_false,false_iff] <;> omega
theorem oK(s:List Nat)(P h:Nat)(o:Bool):(s.filter (fun x=>x / 2 ^ (h+1) == P)).filter (fun x=>x.testBit h == o)=s.filter (fun x=>x / 2 ^ h == 2*P+o.toNat):=by
 rw[List.filter_filter];congr 1;funext x;rw[<-QM,Bool.and_comm]
theorem O1(x P h:Nat)(o:Bool):(decide (x / 2 ^ h<2*P+o.toNat)).toNat=(decide (x / 2 ^ (h+1)<P)).toNat+(o&&((x / 2 ^ (h+1) == P)&&(x.testBit h == false))).toNat:=by
 rw[iJ x h];generalize x / 2 ^ (h+1)=y;rcases Nat.lt_trichotomy y P with e | e | e
 ·have h1:2*y+(x.testBit h).toNat<2*P+o.toNat:=by have:=Bool.toNat_le (x.testBit h);omega
  have h2:(y == P)=false:=by simp;omega
  simp[h1,h2,e]
 ·subst e;cases x.testBit h <;> cases o <;> simp
 ·have h1:¬ 2*y+(x.testBit h).toNat<2*P+o.toNat:=by have:=Bool.toNat_le o;omega
  have h2:(y == P)=false:=by simp;omega
  have h3:¬ y<P:=by omega
  simp[h1,h2,h3]
theorem nE(s:List Nat)(P h:Nat)(o:Bool):(s.filter (fun x=>decide (x / 2 ^ h<2*P+o.toNat))).length=(s.filter (fun x=>decide (x / 2 ^ (h+1)<P))).length+(if o then ((s.filter (fun x=>x / 2 ^ (h+1) == P)).filter (fun x=>x.testBit h == false)).length else 0):=by
 induction s with
 | nil=>cases o <;> rfl
 | cons x r ih =>
  have e:=O1 x P h o;rw[List.filter_filter]at ih ⊢;simp only[aG8];cases o
  ·simp only[aG7,if_false,Nat.add_zero,Bool.false_and,Bool.toNat_false]at ih e ⊢;generalize decide (x / 2 ^ h<2*P)=u at e ⊢;generalize decide (x / 2 ^ (h+1)<P)=v at e ⊢;cases u <;> cases v <;> simp only[Bool.toNat_false,Bool.toNat_true,aG7,if_true,if_false,aE7]at e ⊢ <;> omega
  ·simp only[if_true,Bool.true_and,Bool.toNat_true]at ih e ⊢;rw[Bool.and_comm]at e;generalize decide (x / 2 ^ h<2*P+1)=u at e ⊢;generalize decide (x / 2 ^ (h+1)<P)=v at e ⊢;generalize ((x.testBit h == false)&&(x / 2 ^ (h+1) == P))=z at e ⊢;cases u <;> cases v <;> cases z <;> simp only[Bool.toNat_false,Bool.toNat_true,aG7,if_true,if_false,aE7]at e ⊢ <;> omega
theorem sU(c:Nat)(h:Seg l a b s)(hc:c<2 ^ B)(hl:∀ x∈l,x<2 ^ B):∀ d,d<=B->Seg (lev B l d) (led B l c d a) (led B l c d b) (s.filter (fun x=>x / 2 ^ (B-d) == c / 2 ^ (B-d))):=by
 intro d
 induction d with
 | zero =>
  intro _;have e:s.filter (fun x=>x / 2 ^ (B-0) == c / 2 ^ (B-0))=s:=by
   rw[List.filter_eq_self];intro x hx;obtain⟨l1,l3,rfl,_,_⟩:=h;have:=hl x (by simp[hx]);rw[Nat.sub_zero,Nat.div_eq_of_lt this,Nat.div_eq_of_lt hc];rfl
  rw[e];exact h
 | succ d ih =>
  intro hd;have h1:=kP (B-1-d) (ih (by omega)) (c.testBit (B-1-d));rw[show B-d=(B-1-d)+1 by omega,oK,aQ]at h1;rw[show B-(d+1)=B-1-d by omega,iJ c (B-1-d)];exact h1
theorem EI(s:List Nat)(c:Nat):s.filter (fun x=>x / 2 ^ 0 == c / 2 ^ 0)=s.filter (fun x=>x == c):=by simp
theorem l9(h:Seg L a b s):b=a+s.length/\b<=L.length:=by
 obtain⟨l1,l3,rfl,rfl,rfl⟩:=h;simp
theorem vI(l:List Nat)(a b:Nat)(h1:a<=b)(h2:b<=l.length):Seg l a b ((l.take b).drop a):=by
 refine⟨l.take a,l.drop b,?_,?_,?_⟩
 ·have e:l.take a++(l.take b).drop a=l.take b:=by
   have:=aD5 a (l.take b);rwa [List.take_take,aI0 h1]at this
  rw[e,aD5]
 ·simp;omega
 ·simp;omega
theorem XU(c:Nat)(hc:c<2 ^ B)(hl:∀ x∈l,x<2 ^ B)(h1:a<=b)(h2:b<=l.length):
 led B l c B b=led B l c B a+(((l.take b).drop a).filter (fun x=>x == c)).length/\led B l c B b<=l.length:=by
 have h:=sU c (vI l a b h1 h2) hc hl B (V7 _);rw[aJ1,EI]at h;have:=l9 h;rw[aQ]at this;exact this
theorem tO(c:Nat)(hc:c<2 ^ B)(hl:∀ x∈l,x<2 ^ B)(h1:a<=b)(h2:b<=l.length)(d:Nat)(hd:d<=B):
 led B l c d a<=led B l c d b/\led B l c d b<=l.length:=by
 have:=l9 (sU c (vI l a b h1 h2) hc hl d hd);rw[aQ]at this;omega
theorem oV(c:Nat)(hc:c<2 ^ B)(hl:∀ x∈l,x<2 ^ B)(i:Nat)(h2:i<=l.length):
 led B l c B i=led B l c B 0+cnt (eqf l c) i:=by
 rw[(XU c hc hl (aC6 i) h2).1,List.drop_zero,yI l c i h2]
theorem rH(ht:l[t]?=some c)(hl:∀ x∈l,x<2 ^ B)(d:Nat)(hd:d<=B):(lev B l d)[led B l c d t]?=some c/\led B l c d t<l.length:=by
 have a3:t<l.length:=by
  rcases aG5 t l.length with h | h
  ·exact h
  ·rw[aC7 h]at ht;cases ht
 have hm:c∈l:=aC3 ht;have e:(l.take (t+1)).drop t=[c]:=by
  rw[aE0,ht];simp[aI0 (aH2 a3)]
 have h:=sU c (vI l t (t+1) (by omega) (by omega)) (hl c hm) hl d hd;rw[e]at h;have e2:[c].filter (fun x=>x / 2 ^ (B-d) == c / 2 ^ (B-d))=[c]:=by simp
 rw[e2]at h;obtain⟨l1,l3,h1,h3,h4⟩:=h;have h5:=congrArg List.length h1;rw[aQ]at h5;rw[h1,h3];refine⟨by simp,?_⟩;simp at h5;omega
theorem qI(h:l[t]?=some c):fU l b t=c.testBit b:=by
 unfold fU;rw[aC1,h];rfl
theorem RJ{one:Bool}{s:Nat}(hs:f s=one)(ht:f t=one)(h:cnt (side f one) s=cnt (side f one) t):s=t :=
 sD (side f one) (by simp[side,hs]) (by simp[side,ht]) h
theorem NL{n:Nat}(one:Bool)(i:Nat):down f n one i=(if one then n-cnt f n else 0)+cnt (side f one) i:=by
 unfold down;cases one
 ·have:=I6 f i;simp;omega
 ·simp[lS]
end Go.Proofs.YtphjbbbnbmafnaaGreatDoor
namespace Go.Proofs.YtphjbbbnbmafnaaGreatDoor
open Go.RowKit
variable {w w':World} {B P X b ba bw d g n:Nat} {f:Nat->Bool} {W:Nat->Nat} {l:List Nat} {u v:Value}
theorem Y6(x i:Nat)(hx:x<18446744073709551616):(bits .and .u64 ((x:Int) / 2 ^ i) 1 == 1)=x.testBit i:=by
 have e:((x:Int) / 2 ^ i)=((x / 2 ^ i:Nat):Int):=by rw[aK1];simp
 have hl:x / 2 ^ i<18446744073709551616:=aK8 (Nat.div_le_self _ _) hx;have q:bits .and .u64 ((x / 2 ^ i:Nat):Int) 1=((x / 2 ^ i &&& 1:Nat):Int):=u64_and_nat _ 1 hl (by decide);rw[e,q,aJ0,Nat.and_one_is_mod];generalize x / 2 ^ i % 2=m;by_cases h:m=1
 ·subst h;rfl
 ·have:¬((m:Int)=1):=by omega
  simp[h,this]
theorem UF{a b:Bool}(h:a=b):Ending.returned (.bool a) = .returned (.bool b):=by rw[h]
theorem D6(hb:aT w b bw ba f n W)(i:Nat)(h:i<=n):
 Calls Tryz.prog 159 #[.pointer (some ⟨b,0,none⟩),.int .i64 (i:Int)] w fun e w'=>e = .returned (.bool (f i))/\w'=w:=by
 have h2:=hb.words;have hn:=hb.hn;have hw:=hb.word (i / 64) (by omega);have hl:=hb.wlt (i / 64);have hi1:(i:Int) / 64<((n / 64+1:Nat):Int):=by omega
 have e:=hb.wbit (i / 64) (i % 64) (by omega);rw[show 64*(i / 64)+i % 64=i by omega]at e;have HE:Hid _:=e;clear e;go_enter Tryz.func159,Tryz.ntmps159
 go_wp2;go_ret;exact⟨UF (by rw[<-HE.out];exact Y6 _ _ hl),rfl⟩
theorem CQ(hb:aT w b bw ba f n W):
 Calls Tryz.prog 188 #[.pointer (some ⟨b,0,none⟩)] w fun e w'=>e = .returned (.int .i64 ((n:Int)-(cnt f n:Int)))/\∃ q,w'=w.drewN q:=by
 have h0:=hb.len;have h1:=hb.ones;have hn:=hb.hn;have hc:=dX f n;go_enter Tryz.func188,Tryz.ntmps188
 go_wp2;go_quiet (fail)
 go_wp2;go_ret;exact⟨rfl,_,rfl⟩
theorem pF(hb:aT w b bw ba f n W)(one:Bool)(i:Nat)(h:i<=n)(I:Int)(hI:I=(i:Int)):
 Calls Tryz.prog 160 #[.pointer (some ⟨b,0,none⟩),.int .i64 I,.bool one] w fun e w'=>e = .returned (.int .i64 (down f n one i:Int))/\∃ q,w'=w.drewN q:=by
 subst hI;have hn:=hb.hn;have hc:=dX f n;have hci:=dX f i;cases one
 ·have HD:Hid (((i:Int)-(cnt f i:Int))=(down f n false i:Int)):=(by unfold down;simp;omega:_=_);go_enter Tryz.func160,Tryz.ntmps160
  go_wp2_with fail
  refine(XC hb i h _ rfl).mono ?_;rintro e w' ⟨rfl,q,rfl⟩;go_wp2;go_ret;exact⟨iN HD.out,_,rfl⟩
 ·have HD:Hid (((n:Int)-(cnt f n:Int)+(cnt f i:Int))=(down f n true i:Int)):=(by unfold down;simp;omega:_=_);go_enter Tryz.func160,Tryz.ntmps160
  go_wp2_with fail
  refine(CQ hb).mono ?_;rintro e w' ⟨rfl,q,rfl⟩;go_wp2_with fail
  refine(XC (hb.drewN _) i h _ rfl).mono ?_;rintro e w' ⟨rfl,q,rfl⟩;go_wp2;go_ret;exact⟨iN HD.out,_,rfl⟩
theorem WN(hb:aT w b bw ba f n W)(one:Bool)(i:Nat)(h:i<n)(hf:f i=one)(I:Int)(hI:I=(down f n one i:Int)):
 Calls Tryz.prog 164 #[.pointer (some ⟨b,0,none⟩),.int .i64 I,.bool one] w fun e w'=>e = .returned (.int .i64 (i:Int))/\Below w.heap.size w w':=by
 have hn:=hb.hn;have hc:=dX f n;have hk:cnt (side f one) i<cnt (side f one) n:=by
  have:=cnt_mono (side f one) (show i+1<=n by omega);rw[bL,show side f one i=true by simp[side,hf]]at this;simp at this;omega
 have hd:=NL (f:=f) (n:=n) one i;have a4:=dX (side f one) i;cases one
 ·have HI:Hid (I=(cnt (side f false) i:Int)):=(by rw[hI,hd];simp:_=_);have HF:Hid (f i=false):=hf;clear hd hI hf;go_enter Tryz.func164,Tryz.ntmps164
  go_wp2_with fail
  refine(zU hb false _ hk _ HI.out).mono ?_;rintro e w' ⟨s,rfl,hs,hfs,a4,hB⟩;obtain rfl:s=i:=RJ hfs HF.out a4;clear hfs a4;go_wp2;go_ret;exact⟨rfl,hB⟩
 ·have hii:I=(n:Int)-(cnt f n:Int)+(cnt (side f true) i:Int):=by rw[hI,hd];simp;omega
  have HF:Hid (f i=true):=hf;clear hd hI hf;subst hii;go_enter Tryz.func164,Tryz.ntmps164
  go_wp2_with fail
  refine(CQ hb).mono ?_;rintro e w' ⟨rfl,q,rfl⟩;go_wp2_with fail
  refine(zU (hb.drewN q) true _ hk _ (by omega)).mono ?_;rintro e w' ⟨s,rfl,hs,hfs,a4,hB⟩;obtain rfl:s=i:=RJ hfs HF.out a4;clear hfs a4;go_wp2;go_ret;exact⟨rfl,(below_drewN (YQ _ _) q).trans hB⟩
theorem iH(x y:Int)(hx:0<=x/\x<=1000000)(hy:0<=y/\y<=1000000)(w:World):
 Calls Tryz.prog 73 #[.agg #[.int .i64 x,.int .i64 y]] w fun e w'=>e = .returned (.int .i64 (y-x))/\Below w.heap.size w w':=by
 go_enter Tryz.func73,Tryz.ntmps73
 go_wp2;go_ret;exact⟨rfl,(YQ _ _).alloc (V7 _) _⟩
theorem bO(x y n:Int)(w:World):
 Calls Tryz.prog 39 #[.agg #[.int .i64 x,.int .i64 y],.int .i64 n] w fun e w'=>e = .returned (.bool (decide (0<=x/\x<=y/\y<=n)))/\Below w.heap.size w w':=by
 by_cases h1:0<=x
 ·by_cases h2:x<=y
  ·by_cases h3:y<=n
   ·have HD:Hid _:=decide_eq_true (show 0<=x/\x<=y/\y<=n from⟨h1,h2,h3⟩);rw[HD.out];go_enter Tryz.func39,Tryz.ntmps39
    go_wp2;go_ret;exact⟨rfl,(YQ _ _).alloc (V7 _) _⟩
   ·have HD:Hid _:=decide_eq_false (show ¬(0<=x/\x<=y/\y<=n)from fun h=>h3 h.2.2);rw[HD.out];go_enter Tryz.func39,Tryz.ntmps39
    go_wp2;go_ret;exact⟨rfl,(YQ _ _).alloc (V7 _) _⟩
  ·have HD:Hid _:=decide_eq_false (show ¬(0<=x/\x<=y/\y<=n)from fun h=>h2 h.2.1);rw[HD.out];go_enter Tryz.func39,Tryz.ntmps39
   go_wp2;go_ret;exact⟨rfl,(YQ _ _).alloc (V7 _) _⟩
 ·have HD:Hid _:=decide_eq_false (show ¬(0<=x/\x<=y/\y<=n)from fun h=>h1 h.1);rw[HD.out];go_enter Tryz.func39,Tryz.ntmps39
  go_wp2;go_ret;exact⟨rfl,(YQ _ _).alloc (V7 _) _⟩
theorem tC(w:World)(x y:Obj):Below w.heap.size w ((w.alloc x).alloc y):=((YQ _ _).alloc (V7 _) _).alloc (by simp) _
theorem bD(hb:aT w b bw ba f n W)(one:Bool)(i j:Nat)(hi:i<=n)(hj:j<=n)(I J:Int)(hI:I=(i:Int))(hJ:J=(j:Int)):
 Calls Tryz.prog 119 #[.pointer (some ⟨b,0,none⟩),.agg #[.int .i64 I,.int .i64 J],.bool one] w fun e w'=>e = .returned (.agg #[.int .i64 (down f n one i:Int),.int .i64 (down f n one j:Int)])/\Below w.heap.size w w':=by
 subst hI hJ;have hB:=tC w (.cells #[.int .i64 (i:Int),.int .i64 (j:Int)] 40) (.cells #[.int .i64 0,.int .i64 0] 40);have hb1:=hb.below hB;have HD:Hid (∀ w2,aT w2 b bw ba f n W->∀ t,t<=n->∀ T:Int,T=(t:Int)->Calls Tryz.prog 160 _ w2 _):=fun w2 h2 t ht T hT=>pF h2 one t ht T hT;have HB:Hid _:=hb1;have HL:Hid _:=hB;clear hb1 hB hb;go_enter Tryz.func119,Tryz.ntmps119
 go_wp2;go_region_held (fun w'=>w'.cell? ⟨w.heap.size,0,none⟩=some (.int .i64 (i:Int))/\w'.cell? ⟨w.heap.size,1,none⟩=some (.int .i64 (j:Int))) (go_keep)
  (first
   | (go_at_call_of 160 (Value.int IntKind.i64 (i:Int));refine(HD.out _ ?_ i hi _ rfl).mono ?_;exact(HB.out.kept (fun _ _ h=>h));rintro e w' ⟨rfl,q1,rfl⟩)
   | (go_at_call_of 160 (Value.int IntKind.i64 (j:Int));refine(HD.out _ ?_ j hj _ rfl).mono ?_;exact(HB.out.kept (fun _ _ h=>h));rintro e w' ⟨rfl,q2,rfl⟩))
 go_wp2;refine bodyPost_ret (v:=.agg #[.int .i64 (down f n one i:Int),.int .i64 (down f n one j:Int)]) (by simp[results,Tryz.results119,go_sem]) rfl ?_;exact⟨rfl,((below_drewN HL.out _).setCell (p:=⟨w.heap.size+1,0,none⟩) (by simp) _).setCell (p:=⟨w.heap.size+1,1,none⟩) (by simp) _⟩
structure bB (B:Nat) (w:World) (b g:Nat) (l:List Nat):Prop where
 hn:l.length<=100000
 lt:∀ x∈l,x<2 ^ B
 len:w.cell? ⟨b,0,none⟩=some (.int .i64 (l.length:Int))
 levels:w.cell? ⟨b,1,none⟩=some (.slice (some ⟨g,0,none⟩) B B)
 level:∀ d,d<B->∃ bb bw ba W,w.cell? ⟨g,d,none⟩=some (.pointer (some ⟨bb,0,none⟩))/\aT w bb bw ba (fU (lev B l d) (B-1-d)) l.length W
theorem bB.kept(hs:bB B w b g l)(h:∀ p v,w.cell? p=some v->w'.cell? p=some v):bB B w' b g l :=
 ⟨hs.hn,hs.lt,h _ _ hs.len,h _ _ hs.levels,fun d hd=>by
  obtain⟨bb,bw,ba,W,h1,h2⟩:=hs.level d hd;exact⟨bb,bw,ba,W,h _ _ h1,h2.kept h⟩⟩
theorem bB.below(hs:bB B w b g l)(hB:Below w.heap.size w w'):bB B w' b g l:=hs.kept (cell_kept hB)
theorem bB.drewN(hs:bB B w b g l)(q:Nat):bB B (w.drewN q) b g l:=hs.kept (fun _ _ h=>h)
def kN(B d:Nat):Int:=((2 ^ (B-1-d):Nat):Int)
theorem WX(x h:Nat):(((x &&& 2 ^ h:Nat):Int) != 0)=x.testBit h:=by
 have e:x &&& 2 ^ h=(x.testBit h).toNat*2 ^ h:=by
  rw[nat_bit,aJ0];have:x / 2 ^ h % 2<2:=Nat.mod_lt _ (by decide);rcases(show x / 2 ^ h % 2=0\/x / 2 ^ h % 2=1 by omega)with e | e <;> rw[e] <;> simp
 rw[e];have hp:0<2 ^ h:=Nat.two_pow_pos h;cases x.testBit h
 ·simp
 ·simp only[Bool.toNat_true,Nat.one_mul,bne_iff_ne,ne_eq];omega
def acc(B d P:Nat):Int:=((P*2 ^ (B-d):Nat):Int)
theorem sG(hd:d<B):acc B d P=acc B (d+1) (2*P):=by
 unfold acc;rw[show B-d=(B-(d+1))+1 by omega,Nat.pow_succ];congr 1;rw[Nat.mul_comm (2 ^ _) 2,<-Nat.mul_assoc,Nat.mul_comm P 2]
theorem P8(hd:d<B):(P*2 ^ (B-d)) ||| 2 ^ (B-1-d)=(2*P+1)*2 ^ (B-(d+1)):=by
 rw[nat_join (B-d) _ _ (Nat.mul_mod_left _ _) (aH7 (by decide) (by omega))];rw[show B-d=(B-(d+1))+1 by omega,Nat.pow_succ,show B-1-d=B-(d+1) by omega,Nat.add_mul,Nat.one_mul];congr 1;rw[Nat.mul_comm (2 ^ _) 2,<-Nat.mul_assoc,Nat.mul_comm P 2]
theorem WI(hd:d<=B)(hP:P<2 ^ d):P*2 ^ (B-d)<2 ^ B:=by
 have e:2 ^ B=2 ^ d*2 ^ (B-d):=by rw[<-Nat.pow_add];congr 1;omega
 rw[e];exact Nat.mul_lt_mul_of_pos_right hP (Nat.two_pow_pos _)
theorem XA{x:Nat}(hd:d<=B)(hx:x<2 ^ B):x / 2 ^ (B-d)<2 ^ d:=by
 rw[Nat.div_lt_iff_lt_mul (Nat.two_pow_pos _),<-Nat.pow_add];rwa [show d+(B-d)=B by omega]
structure oP (w:World) (X:Nat) (u v:Value):Prop where
 c0:w.cell? ⟨X,0,none⟩=some u
 c1:w.cell? ⟨X,1,none⟩=some v
 f0:w.frozen? ⟨X,0,none⟩=false
 f1:w.frozen? ⟨X,1,none⟩=false
theorem oP.below(h:oP w X u v)(hB:Below w.heap.size w w'):oP w' X u v:=by
 have hl:=aE6 _ _ h.c0;exact⟨cell_kept hB _ _ h.c0,cell_kept hB _ _ h.c1,(hB.frozen (p:=⟨X,0,none⟩) hl).trans h.f0,(hB.frozen (p:=⟨X,1,none⟩) hl).trans h.f1⟩
theorem oP.drew(h:oP w X u v):oP w.drew X u v:=⟨h.c0,h.c1,h.f0,h.f1⟩
theorem oP.set(h:oP w X u v)(u' v':Value):oP ((w.setCell ⟨X,0,none⟩ u').setCell ⟨X,1,none⟩ v') X u' v':=by
 have h0:=h.c0;have h1:=h.c1;have h2:=h.f0;have h3:=h.f1;refine⟨?_,?_,?_,?_⟩ <;> simp[*,go_sem]
theorem oP.far{Y:Nat}(h:oP w X u v)(hY:X≠Y)(a b:Value):oP ((w.setCell ⟨Y,0,none⟩ a).setCell ⟨Y,1,none⟩ b) X u v:=by
 have hb (w:World) (o:Nat) (x:Value):(w.setCell ⟨Y,o,none⟩ x).heap[X]?=w.heap[X]?:=Below.heap_setCell _ _ _ _ hY;have e:((w.setCell ⟨Y,0,none⟩ a).setCell ⟨Y,1,none⟩ b).heap[X]?=w.heap[X]?:=(hb _ _ _).trans (hb _ _ _);exact⟨(World.cell?_of_block (w:=w) e).trans h.c0,(World.cell?_of_block (w:=w) e).trans h.c1,(World.frozen?_of_block (w:=w) e).trans h.f0,(World.frozen?_of_block (w:=w) e).trans h.f1⟩
theorem gT(w:World)(u v:Value)(t:TypeId):oP (w.alloc (.cells #[u,v] t)) w.heap.size u v:=by
 refine⟨?_,?_,?_,?_⟩ <;> simp
theorem own2{wr:World}(h:Below w.heap.size w wr)(hX:w.heap.size<=X)(a b:Value):Below w.heap.size w ((wr.setCell ⟨X,0,none⟩ a).setCell ⟨X,1,none⟩ b) :=
 (h.setCell (p:=⟨X,0,none⟩) hX _).setCell (p:=⟨X,1,none⟩) hX _
theorem chain{a b:World}(h1:Below w.heap.size w a)(h2:Below a.heap.size a b):Below w.heap.size w b:=h1.trans (h2.mono h1.size)
end Go.Proofs.YtphjbbbnbmafnaaGreatDoor
namespace Go.Proofs.YtphjbbbnbmafnaaGreatDoor
def bel(l:List Nat)(x y c:Nat):Nat:=(((l.take y).drop x).filter (fun z=>decide (z<c))).length
def eqn(l:List Nat)(x y c:Nat):Nat:=(((l.take y).drop x).filter (fun z=>z == c)).length
theorem NJ{l:List Nat}{x y:Nat}(c:Nat)(h1:x<=y)(h2:y<=l.length):eqn l x y c+cnt (eqf l c) x=cnt (eqf l c) y:=by
 unfold eqn;rw[yI l c y h2,yI l c x (by omega)];have e:l.take y=l.take x++(l.take y).drop x:=by
  have:=aD5 x (l.take y);rw[List.take_take,aI0 h1]at this;exact this.symm
 conv=>rhs;rw[e,aF7,WT]
 omega
theorem rE(l:List Nat)(x y c:Nat):bel l x y c<=l.length:=by
 unfold bel;refine aD9 (aE8 _ _) ?_;simp;omega
theorem LF{s:List Nat}{k c e:Nat}(h1:(s.filter (fun z=>decide (z<c))).length<=k)(h2:k<(s.filter (fun z=>decide (z<c))).length+(s.filter (fun z=>z == c)).length)
 (h3:(s.filter (fun z=>decide (z<e))).length<=k) (h4:k<(s.filter (fun z=>decide (z<e))).length+(s.filter (fun z=>z == e)).length):c=e:=by
 have key:∀ a b,a<b->(s.filter (fun z=>decide (z<a))).length+(s.filter (fun z=>z == a)).length<=(s.filter (fun z=>decide (z<b))).length:=by
  intro a b hab;clear h1 h2 h3 h4
  induction s with
  | nil=>simp
  | cons z r ih =>
   simp only[aG8];rcases Nat.lt_trichotomy z a with h | h | h
   ·have e1:decide (z<a)=true:=by simpa using h
    have e2:(z == a)=false:=by simp;omega
    have e3:decide (z<b)=true:=by simp;omega
    rw[e1,e2,e3];simp only[if_true,aG7,if_false,aE7];omega
   ·have e1:decide (z<a)=false:=by simp;omega
    have e2:(z == a)=true:=by simpa using h
    have e3:decide (z<b)=true:=by simp;omega
    rw[e1,e2,e3];simp only[if_true,aG7,if_false,aE7];omega
   ·have e1:decide (z<a)=false:=by simp;omega
    have e2:(z == a)=false:=by simp;omega
    rw[e1,e2];simp only[aG7,if_false];cases decide (z<b) <;> simp only[if_true,aG7,if_false,aE7] <;> omega
 rcases Nat.lt_trichotomy c e with h | h | h
 ·have:=key c e h;omega
 ·exact h
 ·have:=key e c h;omega
end Go.Proofs.YtphjbbbnbmafnaaGreatDoor
namespace Go.Proofs.YtphjbbbnbmafnaaGreatDoor
open Go.RowKit
variable {K:IntKind} {w w' wr:World} {v:Value} {l:List Nat} {B k n:Nat} {f:Nat->Bool} {xs:List Value}
def bA(K:IntKind)(w:World)(v:Value)(l:List Nat):Prop :=
 ∃ a0 cap,v = .slice a0 l.length cap/\(l.length=0\/∃ g off,a0=some ⟨g,off,none⟩/\∀(j x:Nat),l[j]?=some x->w.cell? ⟨g,off+j,none⟩=some (.int K (x:Int)))
theorem bA.kept(h:bA K w v l)(hk:∀ p v,w.cell? p=some v->w'.cell? p=some v):bA K w' v l:=by
 obtain⟨a0,cap,hv,h⟩:=h;refine⟨a0,cap,hv,?_⟩;rcases h with h | ⟨g,off,hg,hc⟩
 ·exact .inl h
 ·exact .inr ⟨g,off,hg,fun j x hj=>hk _ _ (hc j x hj)⟩
theorem bA.below(h:bA K w v l)(hB:Below w.heap.size w w'):bA K w' v l:=h.kept (cell_kept hB)
def vals(K:IntKind)(l:List Nat):List Value:=l.map fun(x:Nat)=>Value.int K (x:Int)
theorem pU(K:IntKind)(l:List Nat)(x:Nat):vals K (l++[x])=vals K l++[.int K (x:Int)]:=by simp[vals]
theorem mQ{e:TypeId}(h:w.ownsRow B e 1 v l.length (vals K l)):bA K w v l:=by
 rcases h.2 with ⟨rfl,h0⟩ | ⟨g,cap,cur,rfl,_⟩
 ·exact⟨none,0,by rw[h0],.inl h0⟩
 ·refine⟨_,cap,rfl,.inr ⟨g,0,rfl,fun j x hj => ?_⟩⟩;have hjl:j<l.length:=by
   rcases aG5 j l.length with e | e
   ·exact e
   ·rw[aC7 e]at hj;cases hj
  rw[aG1,h.cellAt j (by omega)];unfold vals;rw[aD0,hj];rfl
theorem bA.open(h:bA K w v l):∃ a0 cap,v = .slice a0 l.length cap/\∀(k x:Nat),l[k]?=some x->∃ g off,a0=some ⟨g,off,none⟩/\w.cell? ⟨g,off+k,none⟩=some (.int K (x:Int)):=by
 obtain⟨a0,cap,hv,h⟩:=h;refine⟨a0,cap,hv,fun k x hk => ?_⟩;rcases h with h | ⟨g,off,hg,hc⟩
 ·rw[aC7 (by omega)]at hk;cases hk
 ·exact⟨g,off,hg,hc k x hk⟩
theorem jI(h:k<l.length):∃ x,l[k]?=some x:=⟨l[k],A7 h⟩
theorem DF(a3:k<n)(hown:wr.ownsRow B 133 1 (.slice (some ⟨B,0,none⟩) (n / 64+1) (n / 64+1)) (n / 64+1) xs)(hwo:Words f (n / 64+1) k xs):
 ∃ X:Nat,wr.cell? ⟨B,k / 64,none⟩=some (.int .u64 (X:Int))/\wr.frozen? ⟨B,k / 64,none⟩=false/\Hid (X=bY (upto f k) (k / 64) 64) :=
 ⟨_,(hown.cellAt (k / 64) (by omega)).trans (hwo.2 (k / 64) (by omega)),hown.frozenAt (k / 64),(rfl:_=_)⟩
def RelW(f:Nat->Bool)(n:Nat)(w:World)(c:Value)(wr:World):Prop:=∃(k:Nat) (xs:List Value),k<=n/\c = .int .i64 k/\wr.ownsRow w.heap.size 133 1 (.slice (some ⟨w.heap.size,0,none⟩) (n / 64+1) (n / 64+1)) (n / 64+1) xs/\Below w.heap.size w wr/\Words f (n / 64+1) k xs
theorem IE{X:Nat}(a3:k<n)(hf:f k=true)(hown:wr.ownsRow w.heap.size 133 1 (.slice (some ⟨w.heap.size,0,none⟩) (n / 64+1) (n / 64+1)) (n / 64+1) xs)
 (hwo:Words f (n / 64+1) k xs) (a2:Below w.heap.size w wr) (hX:X=bY (upto f k) (k / 64) 64) :
 RelW f n w (.int .i64 ((k:Int)+1)) (wr.setCell { block:=w.heap.size,off:=k / 64 } (Value.int IntKind.u64 (bits BinOp.or IntKind.u64 (X:Int) (IntKind.u64.wrap (2 ^ (k % 64)))))).drew:=by
 have hx:X<18446744073709551616:=by rw[hX];exact pK _ _
 have hu:=WM X (k % 64) hx (by omega);have hst:=(hown.stored (k / 64) (.int .u64 (bits BinOp.or IntKind.u64 (X:Int) (IntKind.u64.wrap (2 ^ (k % 64)))))).1;have hws:=EA hwo hf (bits BinOp.or IntKind.u64 (X:Int) (IntKind.u64.wrap (2 ^ (k % 64)))) (by rw[hu,<-hX]);exact⟨k+1,_,by omega,by go_num,hst.drew,(a2.setCell (V7 _) _).drew,hws⟩
theorem WW(hs:n<=100000)(hout:∀ i,n<=i->f i=false)(hown:wr.ownsRow w.heap.size 133 1 (.slice (some ⟨w.heap.size,0,none⟩) (n / 64+1) (n / 64+1)) (n / 64+1) xs)(hwo:Words f (n / 64+1) n xs):
 Calls Tryz.prog 151 #[.slice (some ⟨w.heap.size,0,none⟩) (n / 64+1) (n / 64+1),.int .i64 (n:Int)] wr fun e w'=>∃ b ba,e = .returned (.pointer (some ⟨b,0,none⟩))/\aT w' b w.heap.size ba f n (fun j=>bY f j 64)/\Below wr.heap.size wr w':=by
 refine QD w.heap.size n f (fun j=>bY f j 64) hs ?_ (fun j=>pK _ _) ?_ hout
 ·intro j hj;rw[hown.cellAt j (by omega),hwo.2 j hj];have e:bY (upto f n) j 64=bY f j 64:=jL fun i _=>by
   unfold upto;by_cases e:64*j+i<n
   ·simp[e]
   ·rw[hout _ (by omega)];rfl
  rw[e]
 ·intro j i hi;show(bY f j 64).testBit i=_;rw[gG];simp[hi]
end Go.Proofs.YtphjbbbnbmafnaaGreatDoor
namespace Go.Proofs.YtphjbbbnbmafnaaGreatDoor.S16
open Go.RowKit
variable {w:World} {b c d g x:Nat} {l:List Nat}
theorem jA(c d:Nat)(hc:c<2 ^ 16)(hd:d<16):(bits .and .u16 (c:Int) (kN 16 d) != 0)=c.testBit (16-1-d):=by
 unfold kN;rw[u16_and_nat c _ hc (aH7 (by decide) (show 16-1-d<16 by omega))];exact WX c _
theorem dC(hs:bB 16 w b g l)(d:Nat)(hd:d<16):
 Calls Tryz.prog 118 #[.pointer (some ⟨b,0,none⟩),.int .i64 (d:Int)] w fun e w'=>e = .returned (.int .u16 (kN 16 d))/\w'=w:=by
 have h1:=hs.levels;go_enter Tryz.func118,Tryz.ntmps118
 go_wp2;go_ret;refine⟨iN ?_,rfl⟩;have hp:2 ^ (16-1-d)<2 ^ 16:=aH7 (by decide) (by omega);unfold kN;rw[<-gD];try rw[IntKind.wrap_u16]
 simp only[Nat.reducePow,Nat.reduceSub]at hp ⊢;generalize 2 ^ _=m at *;omega
theorem fK{t:Nat}(o:Bool)(ho:o=c.testBit (16-1-d)):down (fU (lev 16 l d) (16-1-d)) l.length o (led 16 l c d t)=led 16 l c (d+1) t:=by
 rw[ho];rfl
theorem kZ{X:Nat}{y:Nat}{o:Bool}(ho:o=c.testBit (16-1-d))
 (h:oP w X (.int .i64 (down (fU (lev 16 l d) (16-1-d)) l.length o (led 16 l c d x):Int)) (.int .i64 (down (fU (lev 16 l d) (16-1-d)) l.length o (led 16 l c d y):Int))) :
 oP w X (.int .i64 (led 16 l c (d+1) x:Int)) (.int .i64 (led 16 l c (d+1) y:Int)):=by
 rw[fK o ho,fK o ho]at h;exact h
theorem gH(hs:bB 16 w b g l)(c:Nat)(hc:c<2 ^ 16)(x y:Nat)(hxy:x<=y)(hy:y<=l.length):
 Calls Tryz.prog 165 #[.pointer (some ⟨b,0,none⟩),.int .u16 (c:Int),.agg #[.int .i64 (x:Int),.int .i64 (y:Int)]] w fun e w'=>e = .returned (.agg #[.int .i64 (led 16 l c 16 x:Int),.int .i64 (led 16 l c 16 y:Int)])/\Below w.heap.size w w':=by
 have hB:=tC w (.cells #[.int .i64 (x:Int),.int .i64 (y:Int)] 40) (.cells #[.int .i64 0,.int .i64 0] 40);have hX:oP ((w.alloc (.cells #[.int .i64 (x:Int),.int .i64 (y:Int)] 40)).alloc (.cells #[.int .i64 0,.int .i64 0] 40)) w.heap.size (.int .i64 (x:Int)) (.int .i64 (y:Int)):=(gT w _ _ _).below ((YQ _ _).alloc (V7 _) _);have hR:oP ((w.alloc (.cells #[.int .i64 (x:Int),.int .i64 (y:Int)] 40)).alloc (.cells #[.int .i64 0,.int .i64 0] 40)) (w.heap.size+1) (.int .i64 0) (.int .i64 0):=by
  have:=gT (w.alloc (.cells #[.int .i64 (x:Int),.int .i64 (y:Int)] 40)) (.int .i64 0) (.int .i64 0) 40;simpa using this
 have h1:=(hs.below hB).levels;have HS:Hid _:=hs;clear hs;go_enter Tryz.func165,Tryz.ntmps165
 go_wp2;go_loopw [14] (fun cc wr=>∃ d:Nat,d<=16/\cc = .int .i64 d/\oP wr w.heap.size (.int .i64 (led 16 l c d x:Int)) (.int .i64 (led 16 l c d y:Int))/\oP wr (w.heap.size+1) (.int .i64 0) (.int .i64 0)/\Below w.heap.size w wr) (fun cc _=>16-(intOf cc).toNat)
 case atStart=>exact⟨0,aC6 _,rfl,hX,hR,hB⟩
 case round =>
  clear hX hR hB h1;obtain⟨d,hd,rfl,hX,hR,a2⟩:=hrel;by_cases a3:d<16
  ·have a7:=HS.out.below a2;obtain⟨bb,bw,ba,W,a6,a1⟩:=a7.level d a3;have hll:=tO c hc a7.lt hxy hy d (by omega);have HN:=jA c d hc a3;have hdI:(d:Int)<16:=by omega
   have hbn:=a1.hn;have k0:=hX.c0;have k1:=hX.c1;have HX:Hid _:=hX;have HR:Hid _:=hR;have HBe:Hid _:=a2;have HS1:Hid _:=a7;have HB1:Hid _:=a1;have HA:Hid _:=HN;clear hX hR a2 a7 a1 HN;go_wp2;go_region_with (first
    | (go_at_call 118;refine(dC (l:=l) (g:=g) ?_ d a3).mono ?_;exact(HS1.out.kept (fun _ _ h=>h));rintro e w' ⟨rfl,rfl⟩)
    | (go_at_call 119;refine(bD (bw:=bw) (ba:=ba) (W:=W) (f:=fU (lev 16 l d) (16-1-d)) (n:=l.length) ?_ _ (led 16 l c d x) (led 16 l c d y) ?_ ?_ _ _ rfl rfl).mono ?_;exact(HB1.out.kept (fun _ _ h=>h));omega;omega;rintro e w' ⟨rfl,hB⟩;have a5:=(HX.out.drew).below hB;have f0:=a5.f0;have f1:=a5.f1;have g0:=a5.c0;have g1:=a5.c1))
   all_goals
    go_wp2;go_roundw;case rel=>exact⟨d+1,by omega,by go_num,kZ HA.out (a5.set _ _),((HR.out.drew).below hB).far (by omega) _ _,own2 (chain (HBe.out.drew) hB) (V7 _) _ _⟩
    case measure=>simp[intOf];omega
  ·obtain rfl:d=16:=by omega
   have k0:=hX.c0;have k1:=hX.c1;have r0:=hR.c0;have r1:=hR.c1;have rf0:=hR.f0;have rf1:=hR.f1;go_wp2;refine bodyPost_ret (v:=.agg #[.int .i64 (led 16 l c 16 x:Int),.int .i64 (led 16 l c 16 y:Int)]) (by simp[results,Tryz.results165,go_sem, *]) rfl ?_;exact⟨rfl,own2 a2 (by omega) _ _⟩
theorem len_any(hs:bB 16 w b g l):
 Calls Tryz.prog 120 #[.pointer (some ⟨b,0,none⟩)] w fun e w'=>e = .returned (.int .i64 (l.length:Int))/\w'=w:=by
 have h0:=hs.len;go_enter Tryz.func120,Tryz.ntmps120
 go_wp2;go_ret;exact⟨rfl,rfl⟩
theorem or_bit{P:Nat}(hd:d<16)(hP:P<2 ^ d):bits .or .u16 (acc 16 d P) (kN 16 d)=acc 16 (d+1) (2*P+1):=by
 unfold acc kN;rw[u16_or_nat _ _ (WI (by omega) hP) (aH7 (by decide) (show 16-1-d<16 by omega)),P8 hd]
theorem FI(x:Nat):acc 16 16 (x / 2 ^ (16-16))=(x:Int):=by unfold acc;simp
theorem zJ(hx:x<2 ^ 16):acc 16 0 (x / 2 ^ (16-0))=0:=by unfold acc;rw[Nat.sub_zero,Nat.div_eq_of_lt hx];simp
theorem vP(hd:d<16)(h:x.testBit (16-1-d)=false):acc 16 d (x / 2 ^ (16-d))=acc 16 (d+1) (x / 2 ^ (16-(d+1))):=by
 have:=iJ x (16-(d+1));rw[show 16-(d+1)+1=16-d by omega,show x.testBit (16-(d+1))=false by rw[<-h];congr 1;omega]at this;rw[this,sG hd];rfl
theorem yQ(hd:d<16)(hx:x<2 ^ 16)(h:x.testBit (16-1-d)=true):bits .or .u16 (acc 16 d (x / 2 ^ (16-d))) (kN 16 d)=acc 16 (d+1) (x / 2 ^ (16-(d+1))):=by
 have:=iJ x (16-(d+1));rw[show 16-(d+1)+1=16-d by omega,show x.testBit (16-(d+1))=true by rw[<-h];congr 1;omega]at this;rw[this,or_bit hd (XA (by omega) hx)];rfl
theorem at_yes(hs:bB 16 w b g l)(i x:Nat)(hx:l[i]?=some x):
 Calls Tryz.prog 112 #[.pointer (some ⟨b,0,none⟩),.int .i64 (i:Int)] w fun e w'=>e = .returned (.tuple #[.int .u16 (x:Int),.int .i64 0])/\Below w.heap.size w w':=by
 have h0:=hs.len;have h1:=hs.levels;have hn:=hs.hn;have hi:i<l.length:=by
  have:=(rH hx hs.lt 0 (by decide)).2;exact this
 have hxB:x<2 ^ 16:=hs.lt x (aC3 hx);have hi0:¬(i:Int)<0:=by omega
 have HS:Hid _:=hs;have HX:Hid (l[i]?=some x):=hx;clear hs hx;go_enter Tryz.func112,Tryz.ntmps112
 go_wp2;go_loopw [1,6,25] (fun si sc sd wr=>∃ d q:Nat,d<=16/\sd = .int .i64 d/\si = .int .i64 (led 16 l x d i:Int)/\sc = .int .u16 (acc 16 d (x / 2 ^ (16-d)))/\wr=w.drewN q) (fun _ _ sd _=>16-(intOf sd).toNat)
 case atStart=>exact⟨0,0,aC6 _,rfl,rfl,by rw[zJ hxB],rfl⟩
 case round =>
  obtain⟨d,q,hd,rfl,rfl,rfl,rfl⟩:=hrel;by_cases a3:d<16
  ·obtain⟨bb,bw,ba,W,a6,a1⟩:=HS.out.level d a3;obtain⟨hat,hle⟩:=rH HX.out HS.out.lt d (by omega);have hdI:(d:Int)<16:=by omega
   have ho:=D6 (a1.drewN q) (led 16 l x d i) (by omega);rw[qI hat]at ho;have HO:Hid (Calls Tryz.prog 159 _ _ _):=ho;have HB:Hid _:=a1;clear ho a1 hat;cases hbit:x.testBit (16-1-d)
   ·rw[hbit]at HO;have HA:Hid _:=vP a3 hbit;have HL:Hid _:=fK (l:=l) (t:=i) false hbit.symm;clear hbit;go_wp2_with fail
    refine HO.out.mono ?_;rintro e w1 ⟨rfl,rfl⟩;go_wp2_with fail
    refine(pF (HB.out.drewN q) false _ (by omega) _ rfl).mono ?_;rintro e w1 ⟨rfl,q2,rfl⟩;go_wp2;go_roundw;case rel=>exact⟨d+1,q+q2,by omega,by go_num,by rw[HL.out],by rw[HA.out],rfl⟩
    case measure=>simp[intOf];omega
   ·rw[hbit]at HO;have HA:Hid _:=yQ a3 hxB hbit;have HL:Hid _:=fK (l:=l) (t:=i) true hbit.symm;clear hbit;go_wp2_with fail
    refine HO.out.mono ?_;rintro e w1 ⟨rfl,rfl⟩;go_wp2_with fail
    refine(dC (HS.out.drewN q) d a3).mono ?_;rintro e w1 ⟨rfl,rfl⟩;go_wp2_with fail
    refine(pF (HB.out.drewN q) true _ (by omega) _ rfl).mono ?_;rintro e w1 ⟨rfl,q2,rfl⟩;go_wp2;go_roundw;case rel=>exact⟨d+1,q+q2,by omega,by go_num,by rw[HL.out],by rw[HA.out],rfl⟩
    case measure=>simp[intOf];omega
  ·obtain rfl:d=16:=by omega
   have HA:Hid _:=FI x;go_wp2;go_ret2;exact⟨by rw[<-HA.out];rfl,below_drewN (YQ _ _) _⟩
end Go.Proofs.YtphjbbbnbmafnaaGreatDoor.S16
