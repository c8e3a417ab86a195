/- Parts: GMath RefG Edges EqE Book Ext. -/
import Derived.Test.YtphjbbbnbmafnaaGreatDoorAl
import Derived.Test.YtphjbbbnbmafnaaGreatDoorRows
import Derived.Laws.BitsAllLaws
import Derived.Laws.IdiomStrings
import Derived.WalkKit
import Derived.ProofKit
import Derived.WalkLawsBesides
import Derived.WalkSpells
import Derived.Deep.QuietTactic
import Derived.BigQuiet
import Derived.Below
import Derived.BigRegion
import Derived.OwnWalk
import Derived.Deep.RegionHeld
import Derived.Laws.StructEq
import Derived.Laws.Tables
import Derived.Laws.Cover2
import Derived.Deep.DeepAppendWide
import Derived.Deep.AppendLies
import Derived.Deep.RegionLaw
set_option maxHeartbeats 1000000
set_option maxRecDepth 100000
namespace Go.Proofs.YtphjbbbnbmafnaaGreatDoor.Crc
def poly:Nat:=79764919
def shift(c:Nat):Nat:=(2*c % 4294967296) ^^^ (if c.testBit 31 then poly else 0)
def shifts:Nat->Nat->Nat
 | 0,c=>c
 | k+1,c=>shifts k (shift c)
def feed(c b:Nat):Nat:=shifts 8 (c ^^^ (b*16777216))
def crc(c:Nat)(l:List Nat):Nat:=l.foldl feed c
def be4(n:Nat):List Nat:=[n / 16777216 % 256,n / 65536 % 256,n / 256 % 256,n % 256]
def sumOf(number:Nat)(page:List Nat):Nat:=crc 4294967295 (be4 number++page) ^^^ 4294967295
theorem shift_lt(c:Nat):shift c<4294967296:=by
 unfold shift;have h1:2*c % 4294967296<2 ^ 32:=Nat.mod_lt _ (by decide);have h2:(if c.testBit 31 then poly else 0)<2 ^ 32:=by split <;> decide
 exact Nat.xor_lt_two_pow h1 h2
theorem crc_append(c:Nat)(l m:List Nat):crc c (l++m)=crc (crc c l) m:=by unfold crc;rw[List.foldl_append]
theorem YH(c b:Nat):feed c b<4294967296:=by
 unfold feed;have:∀ k c,shifts (k+1) c<4294967296:=by
  intro k
  induction k with
  | zero=>intro c;exact shift_lt c
  | succ k ih=>intro c;unfold shifts;exact ih (shift c)
 exact this 7 _
theorem crc_lt:∀(l:List Nat) (c:Nat),c<4294967296->crc c l<4294967296
 | [],_,h=>h
 | b::l,c,_=>by
  unfold crc;rw[List.foldl_cons];exact crc_lt l _ (YH c b)
theorem sum_lt(p:Nat)(page:List Nat):sumOf p page<4294967296:=by
 unfold sumOf;exact Nat.xor_lt_two_pow (n:=32) (crc_lt _ _ (by decide)) (by decide)
end Go.Proofs.YtphjbbbnbmafnaaGreatDoor.Crc
namespace Go.Proofs.YtphjbbbnbmafnaaGreatDoor.Gm
abbrev E3:=Int×Int×Int
def ltE(a b:E3):Bool:=if a.1=b.1 then (if a.2.1=b.2.1 then decide (a.2.2<b.2.2)else decide (a.2.1<b.2.1))else decide (a.1<b.1)
theorem F7(a b:E3):ltE a b=true↔a.1<b.1\/(a.1=b.1/\(a.2.1<b.2.1\/(a.2.1=b.2.1/\a.2.2<b.2.2))):=by
 unfold ltE;split
 ·split
  ·simp;omega
  ·simp;omega
 ·simp;omega
theorem NQ(a b:E3):ltE a b=false↔¬(a.1<b.1\/(a.1=b.1/\(a.2.1<b.2.1\/(a.2.1=b.2.1/\a.2.2<b.2.2)))):=by
 rw[<-F7];simp
theorem iW(a:E3):ltE a a=false:=by rw[NQ];omega
theorem iD(a b c:E3)(h1:ltE a b=true)(h2:ltE b c=true):ltE a c=true:=by
 rw[F7]at *;omega
theorem KJ(a b c:E3)(h1:ltE a b=false)(h2:ltE b c=false):ltE a c=false:=by
 rw[NQ]at *;omega
theorem OI(a b:E3)(h1:ltE a b=false)(h2:ltE b a=false):a=b:=by
 rw[NQ]at *;obtain⟨a1,a2,a3⟩:=a;obtain⟨b1,b2,b3⟩:=b;simp only at h1 h2;have e1:a1=b1:=by omega
 have e2:a2=b2:=by omega
 have e3:a3=b3:=by omega
 rw[e1,e2,e3]
abbrev fO(l:List E3):Prop:=l.Pairwise fun a b=>ltE a b=true
theorem xK:∀(l m:List E3),fO l->fO m->(∀ x,x∈l↔x∈m)->l=m
 | [],[],_,_,_=>rfl
 | [],b::m,_,_,h=>by have:=(h b).2 (List.mem_cons_self ..);cases this
 | a::l,[],_,_,h=>by have:=(h a).1 (List.mem_cons_self ..);cases this
 | a::l,b::m,hl,hm,h=>by
  rw[fO,aI2]at hl hm;have e:a=b:=by
   rcases aF5.1 ((h a).1 (List.mem_cons_self ..))with e | ha
   ·exact e
   ·rcases aF5.1 ((h b).2 (List.mem_cons_self ..))with e | hb
    ·exact e.symm
    ·have h1:=hm.1 a ha;have h2:=hl.1 b hb;have h3:=iD _ _ _ h1 h2;rw[iW]at h3;cases h3
  subst e;rw[xK l m hl.2 hm.2 (fun x => ?_)];constructor
  ·intro hx;rcases aF5.1 ((h x).1 (List.mem_cons_of_mem _ hx))with e | hx'
   ·subst e;have:=hl.1 x hx;rw[iW]at this;cases this
   ·exact hx'
  ·intro hx;rcases aF5.1 ((h x).2 (List.mem_cons_of_mem _ hx))with e | hx'
   ·subst e;have:=hm.1 x hx;rw[iW]at this;cases this
   ·exact hx'
def ddF(p:E3):List E3->List E3
 | []=>[]
 | x::l=>if x=p then ddF p l else x::ddF x l
def dd:List E3->List E3
 | []=>[]
 | a::l=>a::ddF a l
theorem ET:∀(l:List E3) (p x:E3),(x=p\/x∈ddF p l)↔(x=p\/x∈l)
 | [],_,_=>by simp[ddF]
 | y::l,p,x=>by
  unfold ddF;by_cases h:y=p
  ·rw[if_pos h,ET l p x,h];simp
  ·rw[if_neg h,aF5,aF5,ET l y x]
theorem aAa(l:List E3)(x:E3):x∈dd l↔x∈l:=by
 cases l with
 | nil=>rfl
 | cons a l=>unfold dd;rw[aF5,aF5,ET]
theorem qU:∀(l:List E3) (p:E3),(p::l).Pairwise (fun a b=>ltE b a=false)->fO (p::ddF p l)
 | [],p,_=>by simp[ddF]
 | y::l,p,h=>by
  unfold ddF;rw[aI2,aI2]at h;obtain⟨h1,h2,h3⟩:=h;by_cases e:y=p
  ·rw[if_pos e];exact qU l p (aI2.2 ⟨fun b hb=>h1 b (List.mem_cons_of_mem _ hb),h3⟩)
  ·rw[if_neg e];have ih:=qU l y (aI2.2 ⟨h2,h3⟩);refine aI2.2 ⟨fun b hb => ?_,ih⟩;have hy:ltE p y=true:=by
    cases hc:ltE p y with
    | true=>rfl
    | false=>exact absurd (OI _ _ (h1 y (List.mem_cons_self ..)) hc) e
   rcases aF5.1 hb with e2 | hb2
   ·rw[e2];exact hy
   ·exact iD _ _ _ hy ((aI2.1 ih).1 b hb2)
theorem Q6(l:List E3)(h:l.Pairwise (fun a b=>ltE b a=false)):fO (dd l):=by
 cases l with
 | nil=>exact List.Pairwise.nil
 | cons a l=>exact qU l a h
theorem GI:∀(l:List E3) (p:E3),(ddF p l).length<=l.length
 | [],_=>V7 _
 | y::l,p=>by
  unfold ddF;split
  ·exact Nat.le_succ_of_le (GI l p)
  ·exact Nat.succ_le_succ (GI l y)
theorem aAW(l:List E3):(dd l).length<=l.length:=by
 cases l with
 | nil=>exact V7 _
 | cons a l=>exact Nat.succ_le_succ (GI l a)
theorem zT:∀(l:List E3) (p x:E3),ddF p (l++[x])=ddF p l++(if x=(p::l).getLast (List.cons_ne_nil _ _)then []else [x])
 | [],p,x=>by
  by_cases h:x=p <;> simp[ddF,h]
 | y::l,p,x=>by
  rw[aG9];unfold ddF;have e:(p::y::l).getLast (List.cons_ne_nil _ _)=(y::l).getLast (List.cons_ne_nil _ _):=List.getLast_cons (List.cons_ne_nil _ _);by_cases h:y=p
  ·rw[if_pos h,if_pos h,zT l p x,e];subst h;rfl
  ·rw[if_neg h,if_neg h,zT l y x,e,aG9]
theorem dd_snoc(l:List E3)(h:l≠[])(x:E3):dd (l++[x])=dd l++(if x=l.getLast h then []else [x]):=by
 cases l with
 | nil=>exact absurd rfl h
 | cons a l=>show a::ddF a (l++[x])=_;rw[zT];rfl
def TM(l:List E3):List E3:=dd (l.mergeSort fun x y => !ltE y x)
theorem R5(l:List E3):(l.mergeSort fun x y => !ltE y x).Pairwise (fun a b=>ltE b a=false):=by
 have h:=List.pairwise_mergeSort (le:=fun x y => !ltE y x) (fun a b c h1 h2=>by
  simp at h1 h2 ⊢;exact KJ _ _ _ h2 h1) (fun a b=>by
  cases h1:ltE b a with
  | false=>simp
  | true =>
   cases h2:ltE a b with
   | false=>simp
   | true=>have:=iD _ _ _ h1 h2;rw[iW]at this;cases this) l
 exact h.imp (fun hab=>by simpa using hab)
theorem F3(l:List E3):fO (TM l):=Q6 _ (R5 l)
theorem VW(l:List E3)(x:E3):x∈TM l↔x∈l:=by
 unfold TM;rw[aAa];exact(List.mergeSort_perm l _).mem_iff
theorem ordE_len(l:List E3):(TM l).length<=l.length:=by
 have:=aAW (l.mergeSort fun x y => !ltE y x);rwa [List.length_mergeSort]at this
theorem JA(l m:List E3)(hm:fO m)(h:∀ x,x∈m↔x∈l):m=TM l :=
 xK _ _ hm (F3 l) (fun x=>by rw[h,VW])
theorem BU(l:List E3)(h:fO l):TM l=l:=(JA l l h (fun _=>Iff.rfl)).symm
abbrev edgeOk(n s:Int)(e:E3):Prop:=0<=e.1/\e.1<n/\0<=e.2.1/\e.2.1<s/\0<=e.2.2/\e.2.2<n
abbrev sizeOk(n s:Int)(m:Nat):Prop:=1<=n/\n<=10000/\1<=s/\s<=26/\m<=20000
abbrev P6(l:List E3):Prop:=l.Pairwise fun a b=>a.1<=b.1
theorem SY{l:List E3}(h:fO l):P6 l:=h.imp (fun hab=>by rw[F7]at hab;omega)
def ah(l:List E3)(u:Nat):Nat:=l.countP fun e=>decide (e.1<(u:Int))
theorem ah_le(l:List E3)(u:Nat):ah l u<=l.length:=List.countP_le_length
theorem Y4(l:List E3){u v:Nat}(h:u<=v):ah l u<=ah l v:=by
 unfold ah;exact List.countP_mono_left (fun x _ hx=>by simp at hx ⊢;omega)
theorem ah_zero(l:List E3)(h:∀ e∈l,0<=e.1):ah l 0=0:=by
 unfold ah;rw[List.countP_eq_zero];intro e he;have:=h e he;simp;omega
theorem ah_all(l:List E3)(n:Nat)(h:∀ e∈l,e.1<(n:Int)):ah l n=l.length:=by
 unfold ah;rw[List.countP_eq_length];intro e he;simpa using h e he
theorem ah_at:∀(l:List E3) (u i:Nat) (e:E3),P6 l->l[i]?=some e->(e.1<(u:Int)↔i<ah l u)
 | [],_,_,_,_,h=>by cases h
 | a::l,u,i,e,hr,h=>by
  rw[P6,aI2]at hr;unfold ah;rw[List.countP_cons];cases i with
  | zero =>
   simp at h;subst h;by_cases ha:a.1<(u:Int)
   ·simp[ha]
   ·have h0:l.countP (fun e=>decide (e.1<(u:Int)))=0:=by
     rw[List.countP_eq_zero];intro b hb;have:=hr.1 b hb;simp;omega
    rw[h0];simp[ha]
  | succ i =>
   have h':l[i]?=some e:=by simpa using h
   have ih:=ah_at l u i e hr.2 h';unfold ah at ih;by_cases ha:a.1<(u:Int)
   ·simp only[ha,decide_true,if_true];omega
   ·have h0:l.countP (fun e=>decide (e.1<(u:Int)))=0:=by
     rw[List.countP_eq_zero];intro b hb;have:=hr.1 b hb;simp;omega
    have he:=hr.1 e (aC3 h');rw[h0];simp[ha];omega
end Go.Proofs.YtphjbbbnbmafnaaGreatDoor.Gm
namespace Go.Proofs.YtphjbbbnbmafnaaGreatDoor.Gm
def lt2(a b:E3):Bool:=if a.2.1=b.2.1 then ltE a b else decide (a.2.1<b.2.1)
theorem FD(a b:E3):lt2 a b=true↔a.2.1<b.2.1\/(a.2.1=b.2.1/\ltE a b=true):=by
 unfold lt2;by_cases h:a.2.1=b.2.1
 ·rw[if_pos h];constructor
  ·intro h2;exact .inr ⟨h,h2⟩
  ·rintro(h2 | ⟨_,h2⟩)
   ·omega
   ·exact h2
 ·rw[if_neg h,decide_eq_true_iff];constructor
  ·intro h2;exact .inl h2
  ·rintro(h2 | ⟨h2,_⟩)
   ·exact h2
   ·exact absurd h2 h
theorem lt2_trans(a b c:E3)(h1:lt2 a b=true)(h2:lt2 b c=true):lt2 a c=true:=by
 rw[FD]at *;rcases h1 with h1 | ⟨e1,h1⟩ <;> rcases h2 with h2 | ⟨e2,h2⟩
 ·left;omega
 ·left;omega
 ·left;omega
 ·right;exact⟨by omega,iD a b c h1 h2⟩
theorem J2(x y:E3)(h:ltE y x=true):(lt2 x y=true↔x.2.1<y.2.1)/\(lt2 y x=true↔¬ x.2.1<y.2.1):=by
 have h2:¬ ltE x y=true:=by
  intro h2;have:=iD x y x h2 h;rw[iW]at this;cases this
 rw[FD,FD];constructor
 ·constructor
  ·rintro(h3 | ⟨_,h3⟩)
   ·exact h3
   ·exact absurd h3 h2
  ·exact .inl
 ·constructor
  ·rintro(h3 | ⟨h3,_⟩) <;> omega
  ·intro h3;rcases Int.lt_or_le y.2.1 x.2.1 with h4 | h4
   ·exact .inl h4
   ·exact .inr ⟨by omega,h⟩
def S2(l:List E3):Prop:=l.Pairwise fun a b=>lt2 a b=true
theorem aA0(A B:List E3)(x:E3)(h:S2 (A++B))(hb:∀ z∈B,lt2 x z=true)(ha:∀ z∈A,lt2 z x=true):S2 (A++x::B):=by
 unfold S2 at *;rw[aJ6]at *;refine⟨h.1,aI2.2 ⟨hb,h.2.1⟩,fun y hy z hz => ?_⟩;rcases aF5.1 hz with rfl | hz
 ·exact ha y hy
 ·exact h.2.2 y hy z hz
theorem s2_last(A:List E3)(y x:E3)(h:S2 (A++[y]))(hy:lt2 y x=true):∀ z∈A++[y],lt2 z x=true:=by
 intro z hz;rcases aC9.1 hz with hz | hz
 ·have:=(aJ6.1 h).2.2 z hz y (aF8.2 rfl);exact lt2_trans z y x this hy
 ·rw[aF8.1 hz];exact hy
end Go.Proofs.YtphjbbbnbmafnaaGreatDoor.Gm
namespace Go.Proofs.YtphjbbbnbmafnaaGreatDoor.Gm
theorem perm4(A1 A2 B1 B2 M1 M2:List E3)(h1:M1.Perm (A1++B1))(h2:M2.Perm (A2++B2)):(M1++M2).Perm (A1++A2++(B1++B2)):=by
 refine(h1.append h2).trans ?_;rw[aD3,aD3];refine List.Perm.append_left A1 ?_;rw[<-aD3,<-aD3];exact List.Perm.append_right B2 List.perm_append_comm
theorem aAN(A1 A2 B1 B2 M1 M2:List E3)(hA:S2 (A1++A2))(hB:S2 (B1++B2))(hbef:∀ x∈A1++A2,∀ y∈B1++B2,ltE x y=true)
 (h12:∀ x∈A1,∀ y∈B2,¬ y.2.1<x.2.1) (h21:∀ y∈B1,∀ x∈A2,y.2.1<x.2.1) (p1:M1.Perm (A1++B1)) (p2:M2.Perm (A2++B2)) (s1:S2 M1) (s2:S2 M2):S2 (M1++M2):=by
 refine aJ6.2 ⟨s1,s2,fun u hu v hv => ?_⟩;rcases aC9.1 (p1.mem_iff.1 hu)with hu | hu <;> rcases aC9.1 (p2.mem_iff.1 hv)with hv | hv
 ·exact(aJ6.1 hA).2.2 u hu v hv
 ·exact((J2 v u (hbef u (List.mem_append_left _ hu) v (List.mem_append_right _ hv))).2).2 (h12 u hu v hv)
 ·exact((J2 u v (hbef v (List.mem_append_right _ hv) u (List.mem_append_left _ hu))).1).2 (h21 u hu v hv)
 ·exact(aJ6.1 hB).2.2 u hu v hv
end Go.Proofs.YtphjbbbnbmafnaaGreatDoor.Gm
namespace Go.Proofs.YtphjbbbnbmafnaaGreatDoor.Gm
variable {k:Nat} {L R:List E3}
def uI(k:Nat)(L R:List E3):Prop:=R.length=L.length/\∀ q,S2 ((R.drop (k*q)).take k)/\((R.drop (k*q)).take k).Perm ((L.drop (k*q)).take k)
theorem aA3(k:Nat):uI k [] []:=⟨rfl,fun q=>by simp[S2]⟩
theorem aA1{L1 R1 S S':List E3}(h:uI k L1 R1)(j:Nat)(hj:L1.length=k*j)(hS:S2 S')(hp:S'.Perm S)(hl:S.length<=k):uI k (L1++S) (R1++S'):=by
 have aG:=hp.length_eq;refine⟨by rw[WT,WT,h.1,aG],fun q => ?_⟩;have hR:=h.1;rcases aG5 q j with hq | hq
 ·have hkq:k*q+k<=k*j:=by
   have:=Nat.mul_le_mul_left k (show q+1<=j by omega);rw[Nat.mul_add,Nat.mul_one]at this;exact this
  rw[List.drop_append_of_le_length (by omega),List.drop_append_of_le_length (by omega),aL5 (by rw[aE1];omega),aL5 (by rw[aE1];omega)];exact h.2 q
 ·rcases Nat.eq_or_lt_of_le hq with e | a9
  ·subst e;rw[<-hj,List.drop_left,aD2 hl];have e2:(R1++S').drop L1.length=S':=by rw[<-hR,List.drop_left]
   rw[e2,aD2 (by omega)];exact⟨hS,hp⟩
  ·have hkq:k*j+k<=k*q:=by
    have:=Nat.mul_le_mul_left k (show j+1<=q by omega);rw[Nat.mul_add,Nat.mul_one]at this;exact this
   rw[aH0 (by rw[WT];omega),aH0 (by rw[WT];omega)];simp[S2]
theorem ZW(h:uI k L R)(j:Nat):uI k (L.drop (k*j)) (R.drop (k*j)):=by
 refine⟨by rw[aE1,aE1,h.1],fun q => ?_⟩;rw[List.drop_drop,List.drop_drop,<-Nat.mul_add];exact h.2 (j+q)
theorem Z6(h:uI k L R)(hk:L.length<=k):S2 R/\R.Perm L:=by
 have h0:=h.2 0;rw[Nat.mul_zero,List.drop_zero,List.drop_zero,aD2 (by rw[h.1];exact hk),aD2 hk]at h0;exact h0
theorem Z8(h:uI k L R)(hL:fO L):S2 (R.take k)/\S2 ((R.drop k).take k)/\(R.take k).Perm (L.take k)/\((R.drop k).take k).Perm ((L.drop k).take k)/\∀ x∈R.take k,∀ y∈(R.drop k).take k,ltE x y=true:=by
 have h0:=h.2 0;have h1:=h.2 1;rw[Nat.mul_zero,List.drop_zero,List.drop_zero]at h0;rw[Nat.mul_one]at h1;refine⟨h0.1,h1.1,h0.2,h1.2,fun x hx y hy => ?_⟩;have hx2:=h0.2.mem_iff.1 hx;have hy2:=List.mem_of_mem_take (h1.2.mem_iff.1 hy);have hS:(L.take k++L.drop k).Pairwise (fun a b=>ltE a b=true):=by rw[aD5];exact hL
 exact(aJ6.1 hS).2.2 x hx2 y hy2
end Go.Proofs.YtphjbbbnbmafnaaGreatDoor.Gm
namespace Go.Proofs.YtphjbbbnbmafnaaGreatDoor.G
open Go.RowKit
variable {w w':World} {v:Value} {o:Obj}
theorem cell_kept(hB:Below w.heap.size w w')(p:Addr)(v:Value)(h:w.cell? p=some v):w'.cell? p=some v:=by
 rw[<-h];exact hB.cell (aE6 _ _ h)
theorem chain{a b:World}(h1:Below w.heap.size w a)(h2:Below a.heap.size a b):Below w.heap.size w b:=h1.trans (h2.mono h1.size)
theorem R7{a b:Value}(h:a=b):Ending.returned a = .returned b:=by rw[h]
theorem aA(w:World)(x:Obj):Below w.heap.size w (w.alloc x):=(YQ _ _).alloc (V7 _) _
theorem jJ(w:World)(x y:Obj):Below w.heap.size w ((w.alloc x).alloc y):=((YQ _ _).alloc (V7 _) _).alloc (by simp) _
theorem wF(f l t n s:Int)(w:World):
 Calls Tryz.prog 38 #[.agg #[.int .i64 f,.int .i64 l,.int .i64 t],.int .i64 n,.int .i64 s] w fun e w'=>e = .returned (.bool (decide (0<=f/\f<n/\0<=l/\l<s/\0<=t/\t<n)))/\Below w.heap.size w w':=by
 by_cases h1:0<=f
 ·by_cases h2:f<n
  ·by_cases h3:0<=l
   ·by_cases h4:l<s
    ·by_cases h5:0<=t
     ·by_cases h6:t<n
      ·have HD:Hid _:=decide_eq_true (show 0<=f/\f<n/\0<=l/\l<s/\0<=t/\t<n from⟨h1,h2,h3,h4,h5,h6⟩);rw[HD.out];go_enter Tryz.func38,Tryz.ntmps38
       go_wp2;go_ret;exact⟨rfl,aA _ _⟩
      ·have HD:Hid _:=decide_eq_false (show ¬(0<=f/\f<n/\0<=l/\l<s/\0<=t/\t<n)from fun h=>h6 h.2.2.2.2.2);rw[HD.out];go_enter Tryz.func38,Tryz.ntmps38
       go_wp2;go_ret;exact⟨rfl,aA _ _⟩
     ·have HD:Hid _:=decide_eq_false (show ¬(0<=f/\f<n/\0<=l/\l<s/\0<=t/\t<n)from fun h=>h5 h.2.2.2.2.1);rw[HD.out];go_enter Tryz.func38,Tryz.ntmps38
      go_wp2;go_ret;exact⟨rfl,aA _ _⟩
    ·have HD:Hid _:=decide_eq_false (show ¬(0<=f/\f<n/\0<=l/\l<s/\0<=t/\t<n)from fun h=>h4 h.2.2.2.1);rw[HD.out];go_enter Tryz.func38,Tryz.ntmps38
     go_wp2;go_ret;exact⟨rfl,aA _ _⟩
   ·have HD:Hid _:=decide_eq_false (show ¬(0<=f/\f<n/\0<=l/\l<s/\0<=t/\t<n)from fun h=>h3 h.2.2.1);rw[HD.out];go_enter Tryz.func38,Tryz.ntmps38
    go_wp2;go_ret;exact⟨rfl,aA _ _⟩
  ·have HD:Hid _:=decide_eq_false (show ¬(0<=f/\f<n/\0<=l/\l<s/\0<=t/\t<n)from fun h=>h2 h.2.1);rw[HD.out];go_enter Tryz.func38,Tryz.ntmps38
   go_wp2;go_ret;exact⟨rfl,aA _ _⟩
 ·have HD:Hid _:=decide_eq_false (show ¬(0<=f/\f<n/\0<=l/\l<s/\0<=t/\t<n)from fun h=>h1 h.1);rw[HD.out];go_enter Tryz.func38,Tryz.ntmps38
  go_wp2;go_ret;exact⟨rfl,aA _ _⟩
theorem two3(w:World)(a b c d e f:Value)(t:TypeId):((w.alloc (.cells #[a,b,c] t)).alloc (.cells #[d,e,f] t)).cell? ⟨w.heap.size,0,none⟩=some a/\((w.alloc (.cells #[a,b,c] t)).alloc (.cells #[d,e,f] t)).cell? ⟨w.heap.size,1,none⟩=some b/\((w.alloc (.cells #[a,b,c] t)).alloc (.cells #[d,e,f] t)).cell? ⟨w.heap.size,2,none⟩=some c /\
 ((w.alloc (.cells #[a,b,c] t)).alloc (.cells #[d,e,f] t)).cell? ⟨w.heap.size+1,0,none⟩=some d/\((w.alloc (.cells #[a,b,c] t)).alloc (.cells #[d,e,f] t)).cell? ⟨w.heap.size+1,1,none⟩=some e/\((w.alloc (.cells #[a,b,c] t)).alloc (.cells #[d,e,f] t)).cell? ⟨w.heap.size+1,2,none⟩=some f:=by
 have hB:Below (w.alloc (.cells #[a,b,c] t)).heap.size (w.alloc (.cells #[a,b,c] t)) ((w.alloc (.cells #[a,b,c] t)).alloc (.cells #[d,e,f] t)):=aA _ _;refine⟨cell_kept hB _ _ (by simp),cell_kept hB _ _ (by simp),cell_kept hB _ _ (by simp),?_,?_,?_⟩
 ·have e2:(w.alloc (.cells #[a,b,c] t)).heap.size=w.heap.size+1:=by simp
  rw[<-e2];generalize w.alloc (.cells #[a,b,c] t)=w2;simp
 ·have e2:(w.alloc (.cells #[a,b,c] t)).heap.size=w.heap.size+1:=by simp
  rw[<-e2];generalize w.alloc (.cells #[a,b,c] t)=w2;simp
 ·have e2:(w.alloc (.cells #[a,b,c] t)).heap.size=w.heap.size+1:=by simp
  rw[<-e2];generalize w.alloc (.cells #[a,b,c] t)=w2;simp
def WY(f l t f' l' t':Int):Bool:=if f=f' then (if l=l' then decide (t<t')else decide (l<l'))else decide (f<f')
theorem QP(f l t f' l' t':Int)(w:World):
 Calls Tryz.prog 97 #[.agg #[.int .i64 f,.int .i64 l,.int .i64 t],.agg #[.int .i64 f',.int .i64 l',.int .i64 t']] w fun e w'=>e = .returned (.bool (WY f l t f' l' t'))/\Below w.heap.size w w':=by
 obtain⟨k0,k1,k2,k3,k4,k5⟩:=two3 w (.int .i64 f) (.int .i64 l) (.int .i64 t) (.int .i64 f') (.int .i64 l') (.int .i64 t') 38;unfold WY;by_cases h1:f=f'
 ·have n1:(f != f')=false:=by rw[h1];simp
  rw[if_pos h1];by_cases h2:l=l'
  ·have n2:(l != l')=false:=by rw[h2];simp
   rw[if_pos h2];clear h1 h2;go_enter Tryz.func97,Tryz.ntmps97
   go_wp2;go_ret;exact⟨rfl,jJ _ _ _⟩
  ·have n2:(l != l')=true:=by simpa using h2
   rw[if_neg h2];clear h1 h2;go_enter Tryz.func97,Tryz.ntmps97
   go_wp2;go_ret;exact⟨rfl,jJ _ _ _⟩
 ·have n1:(f != f')=true:=by simpa using h1
  rw[if_neg h1];clear h1;go_enter Tryz.func97,Tryz.ntmps97
  go_wp2;go_ret;exact⟨rfl,jJ _ _ _⟩
def wid(n:Nat):Nat:=if n=0 then 0 else Nat.log2 n+1
theorem IZ(n:Nat)(h:n≠0):wid n=wid (n / 2)+1:=by
 unfold wid;rw[if_neg h];by_cases h2:n / 2=0
 ·have:n=1:=by omega
  subst this;decide
 ·rw[if_neg h2];congr 1;rw[Nat.log2_def,if_pos (by omega)]
theorem mF(n:Nat)(h:n<2 ^ 20):wid n<=20:=by
 unfold wid;split
 ·omega
 ·rename_i h0;have:=(Nat.log2_lt h0).2 h;omega
theorem tQ(k:Nat)(h1:1<=k)(h2:k<=100000)(w:World):
 Calls Tryz.prog 96 #[.int .i64 (k:Int)] w fun e w'=>e = .returned (.int .i64 (wid (k-1):Int))/\w'=w:=by
 have hw:=mF (k-1) (by omega);go_enter Tryz.func96,Tryz.ntmps96
 go_wp2;go_loop [0,3] (fun sk sn=>∃ c n:Nat,sk = .int .i64 (c:Int)/\sn = .int .i64 (n:Int)/\c<k/\Hid (n+wid c=wid (k-1))) (fun sk _=>(intOf sk).toNat)
 case atStart=>exact⟨k-1,0,by rw[show((k-1:Nat):Int)=(k:Int)-1 by omega],rfl,by omega,(by omega:0+wid (k-1)=wid (k-1))⟩
 case round =>
  obtain⟨c,n,rfl,rfl,hc,HI⟩:=hrel;by_cases h0:c=0
  ·subst h0;have he:n=wid (k-1):=by have:=HI.out;simpa[wid]using this
   have HE:Hid _:=he;clear he HI;go_wp2;go_ret;exact⟨by rw[<-HE.out];rfl,rfl⟩
  ·have hh:=IZ c h0;have hI:=HI.out;have HN:Hid (n+1+wid (c / 2)=wid (k-1)):=(by omega:_=_);have hn:n<=20:=by omega
   have hc0:(0:Int)<(c:Int):=by omega
   clear hh hI HI;go_wp2;go_round;case rel=>exact⟨c / 2,n+1,by rw[aK1];rfl,by go_num,by omega,HN.out⟩
   case measure=>simp[intOf];omega
def dD:Nat->Nat->List Bool
 | 0,_=>[]
 | k+1,n=>n.testBit k::dD k n
theorem aU(k n:Nat):(dD k n).length=k:=by
 induction k with
 | zero=>rfl
 | succ k ih=>simp[dD,ih]
def txt(l:List Bool):ByteArray:=⟨(l.map fun b=>if b then (49:UInt8)else 48).toArray⟩
theorem bE(l:List Bool):(txt l).size=l.length:=by simp[txt,ByteArray.size]
theorem G6(b:Bool)(l:List Bool):({ data:=#[if b then 49 else 48] }:ByteArray)++txt l=txt (b::l):=by
 apply ByteArray.ext;simp[txt]
theorem rW(n i:Nat):n / 2 ^ i % 2=(n.testBit i).toNat:=by
 rw[aJ0];have:n / 2 ^ i % 2<2:=Nat.mod_lt _ (by decide);rcases(show n / 2 ^ i % 2=0\/n / 2 ^ i % 2=1 by omega)with e | e <;> rw[e] <;> rfl
theorem IQ(w:World)(b:UInt8)(x:Int)(hx:x=(b.toNat:Int)):(convert 113 9 (.slice (some ⟨w.heap.size,0,none⟩) 1 1)).run Tryz.prog (w.alloc (.cells #[.int .u8 x] 5)) = .ok (.string ⟨#[b]⟩) (w.alloc (.cells #[.int .u8 x] 5)):=by
 subst hx;have h:=run_convert_bytes_back (P:=Tryz.prog) (w.alloc (.cells #[.int .u8 (b.toNat:Int)] 5)) 113 9 5 ⟨w.heap.size,0,none⟩ 1 [b] Tryz.underlying113 Tryz.underlying5 Tryz.underlying9 (fun j hj=>by
  match j,hj with
  | 0,_=>simp[Addr.add])
 exact h
theorem iP(n k:Nat)(hn:n<=1000000)(hk:k<=100)(w:World):
 Calls Tryz.prog 61 #[.int .i64 (n:Int),.int .i64 (k:Int)] w fun e w'=>e = .returned (.string (txt (dD k n)))/\Below w.heap.size w w':=by
 go_enter Tryz.func61,Tryz.ntmps61
 go_wp2;go_loopw [0,5,6] (fun sn ss si wr=>∃ i m:Nat,i<=k/\si = .int .i64 (i:Int)/\sn = .int .i64 (m:Int)/\m<=1000000/\Hid (m=n / 2 ^ i)/\ss = .string (txt (dD i n))/\Below w.heap.size w wr) (fun _ _ si _=>k-(intOf si).toNat)
 case atStart=>exact⟨0,n,aC6 _,rfl,rfl,hn,(by simp:n=n / 2 ^ 0),rfl,YQ _ _⟩
 case round =>
  obtain⟨i,m,hi,rfl,rfl,hm,HM,rfl,a4⟩:=hrel;by_cases a9:i<k
  ·have hts:=bE (dD i n);rw[aU]at hts;have hb:=rW n i;rw[<-HM.out]at hb;have HT:Hid (m / 2=n / 2 ^ (i+1)):=(by rw[HM.out,Nat.pow_succ,Nat.div_div_eq_div_mul]:_=_);have a8:Hid _:=a4;clear a4;cases hbit:n.testBit i
   ·rw[hbit]at hb;have hr:(m:Int).tmod 2=0:=by rw[Int.tmod_eq_emod_of_nonneg (by omega)];simp at hb;omega
    have a5:(m:Int) % 2=0:=by simp at hb;omega
    have hcv:=IQ wr 48 48 rfl;have HC:Hid _:=G6 false (dD i n);have HB:Hid (n.testBit i=false):=hbit;clear hb hbit;go_wp2;go_roundw;case rel=>exact⟨i+1,m / 2,by omega,by go_num,by rw[aK1];rfl,by omega,HT.out,by rw[show dD (i+1) n=n.testBit i::dD i n from rfl,HB.out,<-HC.out];rfl,a8.out.alloc a8.out.size _⟩
    case measure=>simp[intOf];omega
   ·rw[hbit]at hb;have hr:(m:Int).tmod 2=1:=by rw[Int.tmod_eq_emod_of_nonneg (by omega)];simp at hb;omega
    have a5:(m:Int) % 2=1:=by simp at hb;omega
    have hcv:=IQ wr 49 49 rfl;have HC:Hid _:=G6 true (dD i n);have HB:Hid (n.testBit i=true):=hbit;clear hb hbit;go_wp2;go_roundw;case rel=>exact⟨i+1,m / 2,by omega,by go_num,by rw[aK1];rfl,by omega,HT.out,by rw[show dD (i+1) n=n.testBit i::dD i n from rfl,HB.out,<-HC.out];rfl,a8.out.alloc a8.out.size _⟩
    case measure=>simp[intOf];omega
  ·obtain rfl:i=k:=by omega
   go_wp2;go_ret;exact⟨rfl,a4⟩
def numOf(l:List Bool):Nat:=l.foldl (fun n b=>2*n+b.toNat) 0
theorem mR(l:List Bool)(b:Bool):numOf (l++[b])=2*numOf l+b.toNat:=by unfold numOf;rw[List.foldl_append];rfl
theorem gW(l:List Bool):numOf l<2 ^ l.length:=by
 have:∀(l:List Bool) (n k:Nat),n<2 ^ k->l.foldl (fun n b=>2*n+b.toNat) n<2 ^ (k+l.length):=by
  intro l
  induction l with
  | nil=>intro n k h;simpa using h
  | cons b l ih =>
   intro n k h;rw[List.foldl_cons,aE7,show k+(l.length+1)=(k+1)+l.length by omega];refine ih _ _ ?_;have:=Bool.toNat_le b;rw[Nat.pow_succ];omega
 have h:=this l 0 0 (by decide);simpa[numOf]using h
def part(s:ByteArray)(at_ size:Nat):List Bool:=(List.range size).map fun i=>s.data.toList[at_+i]? == some 49
theorem PU(s:ByteArray)(a k:Nat):part s a (k+1)=part s a k++[s.data.toList[a+k]? == some 49]:=by
 unfold part;rw[List.range_succ];simp
theorem VH(s:ByteArray)(a k:Nat):(part s a k).length=k:=by simp[part]
theorem aA5(s:ByteArray)(k:Nat)(h:k<s.size):s.data.toList[k]?=some s[k]:=by
 rw[aK5,aE2 h];rfl
theorem aAe(s:ByteArray)(k:Nat)(h:k<s.size):(s.data.toList[k]? == some 49)=((s[k].toNat:Int) == 49):=by
 rw[aA5 s k h];have e:(some s[k] == some (49:UInt8))=(s[k] == 49):=rfl;rw[e];by_cases hc:s[k]=49
 ·rw[hc];rfl
 ·have h1:(s[k] == 49)=false:=by simpa using hc
  have h2:((s[k].toNat:Int) == 49)=false:=by
   rw[beq_eq_false_iff_ne];intro e2;apply hc;exact UInt8.toNat_inj.1 (by have:(49:UInt8).toNat=49:=rfl;omega)
  rw[h1,h2]
abbrev E3:=Int×Int×Int
def flat(l:List E3):List Value:=l.flatMap fun e=>[.int .i64 e.1,.int .i64 e.2.1,.int .i64 e.2.2]
theorem bM(l:List E3):(flat l).length=l.length*3:=by
 induction l with
 | nil=>rfl
 | cons e l ih=>unfold flat at *;rw[List.flatMap_cons,WT,ih];simp;omega
theorem kL(l:List E3)(e:E3):flat (l++[e])=flat l++[.int .i64 e.1,.int .i64 e.2.1,.int .i64 e.2.2]:=by unfold flat;simp
def aI(w:World)(v:Value)(l:List E3):Prop :=
 ∃ a0 cap,v = .slice a0 l.length cap/\∀(j:Nat) (e:E3),l[j]?=some e->∃ g off,a0=some ⟨g,off,none⟩/\w.cell? ⟨g,off+j*3,none⟩=some (.int .i64 e.1)/\w.cell? ⟨g,off+j*3+1,none⟩=some (.int .i64 e.2.1)/\w.cell? ⟨g,off+j*3+2,none⟩=some (.int .i64 e.2.2)
theorem aI.below{l:List E3}(h:aI w v l)(hB:Below w.heap.size w w'):aI w' v l:=by
 obtain⟨a0,cap,hv,h⟩:=h;refine⟨a0,cap,hv,fun j e hj => ?_⟩;obtain⟨g,off,h1,h2,h3,h4⟩:=h j e hj;exact⟨g,off,h1,cell_kept hB _ _ h2,cell_kept hB _ _ h3,cell_kept hB _ _ h4⟩
theorem Tryz.infoE:(Tryz.prog.info? 38).map (fun i=>(i.zero,i.size,i.bytes))=some (some (.agg #[.int .i64 0,.int .i64 0,.int .i64 0]),3,24):=by kernel_rfl
def eO(w wr:World)(v:Value)(l:List E3):Prop:=wr.ownsRow w.heap.size 38 3 v l.length (flat l)/\Below w.heap.size w wr
theorem eP{wr w2:World}{v':Value}{l:List E3}{e:E3}(h:eO w wr v l)(hown:w2.ownsRow w.heap.size 38 3 v' (l.length+1) (flat l++[.int .i64 e.1,.int .i64 e.2.1,.int .i64 e.2.2]))(hg:(wr.alloc o).grownBy w2 v.ownBlock):eO w w2 v' (l++[e]):=by
 refine⟨by rw[kL,WT];exact hown,?_⟩;exact(h.2.alloc h.2.size o).grown hg (by have:=h.2.size;simp;omega) (fun j hj=>(h.1.lt j hj).1)
theorem SK(w:World)(a b c:Value)(t:TypeId)(j:Nat)(u:Value)(hj:[a,b,c][j]?=some u):(w.alloc (.cells #[a,b,c] t)).cell? ((⟨w.heap.size,0,none⟩:Addr).add j)=some u:=by
 match j,hj with
 | 0,hj=>simp at hj;subst hj;simp[Addr.add]
 | 1,hj=>simp at hj;subst hj;simp[Addr.add]
 | 2,hj=>simp at hj;subst hj;simp[Addr.add]
 | j+3,hj=>simp at hj
theorem ED(a b c:Int)(u:Value)(hu:u∈[Value.int .i64 a,.int .i64 b,.int .i64 c]):u.oneCell'=true:=by
 simp at hu;rcases hu with rfl | rfl | rfl <;> rfl
theorem uQ{B:Nat}(h:B<=w.heap.size):B<=(w.alloc o).heap.size:=by simp;omega
theorem nS{p:E3->Bool}{l:List E3}{k:Nat}{e:E3}(h:l[k]?=some e):(l.take (k+1)).filter p=(l.take k).filter p++(if p e then [e]else []):=by
 rw[aE0,h,aF7];congr 1;simp only[aH4,aG8,List.filter_nil]
theorem eqE(a b c d e f:Int)(w:World):(Op.equalIn 10000 38 (.agg #[.int .i64 a,.int .i64 b,.int .i64 c]) (.agg #[.int .i64 d,.int .i64 e,.int .i64 f])).run Tryz.prog w = .ok (decide ((a,b,c)=(d,e,f))) w:=by
 have u3:=Tryz.underlying3;have hS:Tryz.prog.underlying 38=some (.struct (Tryz.prog.fieldsOf 38)):=by kernel_rfl
 rw[show(10000:Nat)=9999+1 from rfl,run_equalIn_agg w 9999 38 _ _ hS (by kernel_rfl)];simp only[Program.fieldsOf,Tryz.underlying38];go_simp;by_cases h1:a=d <;> by_cases h2:b=e <;> by_cases h3:c=f <;> simp[h1,h2,h3]
theorem EC(a b c d e f:Int)(x:Bool)(hx:decide ((a,b,c)=(d,e,f))=x)(w:World):(Op.equalIn 10000 38 (.agg #[.int .i64 a,.int .i64 b,.int .i64 c]) (.agg #[.int .i64 d,.int .i64 e,.int .i64 f])).run Tryz.prog w = .ok x w:=by
 rw[eqE,hx]
theorem guardE:Tryz.prog.eqGuardType Tryz.prog.depth 38=false:=by kernel_rfl
end Go.Proofs.YtphjbbbnbmafnaaGreatDoor.G
namespace Go.Proofs.YtphjbbbnbmafnaaGreatDoor.G
open Go.RowKit
section
variable {P:Program} (w:World)
theorem lN(t ty:TypeId)(base:Nat)(e:TypeId)(i:TypeInfo)(z:Value)(size bytes:Nat)(ht:P.underlying t=some (.slice e))(hi:P.info? e=some i)(hz:i.zero=some z)
 (hsize:i.size=size) (hby:i.bytes=bytes) (hzs:z.cells.size=size) (hsz:0<size)
 (v:Value) (n:Nat) (xs:List Value) (hown:w.ownsRow base e size v n xs)
 (ad:Addr) (m c:Nat) (news:List Value) (hl:news.length=m*size) (hnews:∀ j u,news[j]?=some u->w.cell? (ad.add j)=some u) (h1:∀ u∈news,u.oneCell'=true)
 (hm:0<m) (h63:n+m<=maxLen) (hbytes:((n+m)+(n+m) / 4+192)*bytes<=281474976710656) (hbase:base<=w.heap.size) :
 ∃ g cap w',(Builtin.append_ #[t,t] ty #[v,.slice (some ad) m c]).run P w = .ok (.slice (some ⟨g,0,none⟩) (n+m) cap) w' /\
  w'.ownsRow base e size (.slice (some ⟨g,0,none⟩) (n+m) cap) (n+m) (xs++news)/\((v.ownBlock=some g/\w.grownBy w' (some g))\/(g=w.heap.size/\w.grownBy w' none)):=by
 obtain⟨v',w',hr,h2,h3,_⟩:=run_append_own_wide (P:=P) w base t ty e i z size bytes ht hi hz hsize hby hzs hsz v n xs hown ad m c news hl hnews h1 h63 hbytes hbase;obtain⟨g,cap,rfl,_,a9⟩:=h2.form (by omega);refine⟨g,cap,w',hr,h2,?_⟩;subst hsize;subst hby;have h63':n+m<=9223372036854775807:=by simp only[maxLen]at h63;omega
 have hb1:(n+m)*i.bytes<=281474976710656:=aD9 (Nat.mul_le_mul_right _ (by omega)) hbytes;rcases hown.2 with ⟨rfl,rfl⟩ | ⟨g0,cap0,cur,rfl,hbg,hg,hnc,hcm,hcs,htake⟩
 ·right;have a5:=run_append_nil (P:=P) w t ty e i z ht hi hz ad m c news hl hnews hm (by omega) (by rw[aG1]at hb1;exact hb1);rw[a5]at hr;injection hr with e1 e2;injection e1 with e1;injection e1 with e1;injection e1 with e1;exact⟨e1.symm,h3⟩
 ·by_cases hroom:n+m<=cap0
  ·left;have aE:n*i.size+news.length<=cur.size:=by rw[hl,hcs,<-Nat.add_mul];exact Nat.mul_le_mul_right _ hroom
   have a5:=run_append_room (P:=P) w t ty e i ht hi g0 n cap0 cur hg ad m c news hl hnews h1 hroom aE;rw[a5]at hr;injection hr with e1 e2;injection e1 with e1;injection e1 with e1;injection e1 with e1;subst e1;exact⟨rfl,h3⟩
  ·right;have a7:∀ j u,xs[j]?=some u->w.cell? ((⟨g0,0,none⟩:Addr).add j)=some u:=hown.cells (g:=g0) rfl;have a5:=run_append_grow (P:=P) w t ty e i z ht hi hz ⟨g0,0,none⟩ n cap0 xs hown.1 a7 ad m c news hl hnews (by omega) (by omega) (growslice_fits_wide (by omega) hbytes);rw[a5]at hr;injection hr with e1 e2;injection e1 with e1;injection e1 with e1;injection e1 with e1;refine⟨e1.symm,?_⟩;rw[<-e2];exact⟨rfl,rfl,rfl,by simp,fun k hk _=>Go.heap_alloc_old w.drew _ hk⟩
theorem nO{o:Oper}{a:Act}{K:Act->World->Prop}{Q:Exit->Act->World->Prop}(s x:Operand)(t:TypeId)
 (ho:o.op = .call { callee:=.builtin .append,args:=#[s,x],argTypes:=#[t,t] })
 (base:Nat) (e:TypeId) (i:TypeInfo) (z:Value) (size bytes:Nat) (ht:P.underlying t=some (.slice e)) (hi:P.info? e=some i) (hz:i.zero=some z)
 (hsize:i.size=size) (hby:i.bytes=bytes) (hzs:z.cells.size=size) (hsz:0<size)
 (v:Value) (n:Nat) (xs:List Value) (hs:a.eval s=v) (hown:w.ownsRow base e size v n xs)
 (ad:Addr) (m c:Nat) (news:List Value) (hx:a.eval x = .slice (some ad) m c) (hl:news.length=m*size) (hnews:∀ j u,news[j]?=some u->w.cell? (ad.add j)=some u) (h1:∀ u∈news,u.oneCell'=true)
 (hm:0<m) (h63:n+m<=maxLen) (hbytes:((n+m)+(n+m) / 4+192)*bytes<=281474976710656) (hbase:base<=w.heap.size)
 (h:∀ g cap w',w'.ownsRow base e size (.slice (some ⟨g,0,none⟩) (n+m) cap) (n+m) (xs++news)->((v.ownBlock=some g/\w.grownBy w' (some g))\/(g=w.heap.size/\w.grownBy w' none))->K (a.put o.dst (.slice (some ⟨g,0,none⟩) (n+m) cap)) w'):o.wp P a w K Q:=by
 obtain⟨g,cap,w',hr,h2,h3⟩:=lN (P:=P) w t o.type base e i z size bytes ht hi hz hsize hby hzs hsz v n xs hown ad m c news hl hnews h1 hm h63 hbytes hbase;unfold Oper.wp execOp;simp only[ho,resolve,invoke,builtin,Sem.run_bind,Sem.run_pure,aJ8,List.map_toArray,aJ4,List.map_nil,hs,hx,hr];exact h g cap w' h2 h3
theorem aO{ops:Array Oper}{rest:List Oper}{o:Oper}{a:Act}{Q:Exit->Act->World->Prop}(hgd:o.guard=none)(s x:Operand)(t:TypeId)
 (ho:o.op = .call { callee:=.builtin .append,args:=#[s,x],argTypes:=#[t,t] })
 (base:Nat) (e:TypeId) (i:TypeInfo) (z:Value) (size bytes:Nat) (ht:P.underlying t=some (.slice e)) (hi:P.info? e=some i) (hz:i.zero=some z)
 (hsize:i.size=size) (hby:i.bytes=bytes) (hzs:z.cells.size=size) (hsz:0<size)
 (v:Value) (n:Nat) (xs:List Value) (hs:a.eval s=v) (hown:w.ownsRow base e size v n xs)
 (ad:Addr) (m c:Nat) (news:List Value) (hx:a.eval x = .slice (some ad) m c) (hl:news.length=m*size) (hnews:∀ j u,news[j]?=some u->w.cell? (ad.add j)=some u) (h1:∀ u∈news,u.oneCell'=true)
 (hm:0<m) (h63:n+m<=maxLen) (hbytes:((n+m)+(n+m) / 4+192)*bytes<=281474976710656) (hbase:base<=w.heap.size)
 (h:∀ g cap w',w'.ownsRow base e size (.slice (some ⟨g,0,none⟩) (n+m) cap) (n+m) (xs++news)->((v.ownBlock=some g/\w.grownBy w' (some g))\/(g=w.heap.size/\w.grownBy w' none))->wpList P ops Q rest (a.put o.dst (.slice (some ⟨g,0,none⟩) (n+m) cap)) w'):wpList P ops Q (o::rest) a w :=
 wpList_plain hgd fun _ hK=>nO w s x t ho base e i z size bytes ht hi hz hsize hby hzs hsz v n xs hs hown ad m c news hx hl hnews h1 hm h63 hbytes hbase fun g cap w' h2 h3=>hK _ _ (h g cap w' h2 h3)
theorem bI{ops:Array Oper}{o:Oper}{a:Act}{K:Act->World->Prop}{Q:Exit->Act->World->Prop}{E:Prop}(hgd:o.guard=none)(s x:Operand)(t:TypeId)
 (ho:o.op = .call { callee:=.builtin .append,args:=#[s,x],argTypes:=#[t,t] })
 (base:Nat) (e:TypeId) (i:TypeInfo) (z:Value) (size bytes:Nat) (ht:P.underlying t=some (.slice e)) (hi:P.info? e=some i) (hz:i.zero=some z)
 (hsize:i.size=size) (hby:i.bytes=bytes) (hzs:z.cells.size=size) (hsz:0<size)
 (v:Value) (n:Nat) (xs:List Value) (hs:a.eval s=v) (hown:w.ownsRow base e size v n xs)
 (ad:Addr) (m c:Nat) (news:List Value) (hx:a.eval x = .slice (some ad) m c) (hl:news.length=m*size) (hnews:∀ j u,news[j]?=some u->w.cell? (ad.add j)=some u) (h1:∀ u∈news,u.oneCell'=true)
 (hm:0<m) (h63:n+m<=maxLen) (hbytes:((n+m)+(n+m) / 4+192)*bytes<=281474976710656) (hbase:base<=w.heap.size)
 (h:∀ g cap w',w'.ownsRow base e size (.slice (some ⟨g,0,none⟩) (n+m) cap) (n+m) (xs++news)->((v.ownBlock=some g/\w.grownBy w' (some g))\/(g=w.heap.size/\w.grownBy w' none))->K (a.put o.dst (.slice (some ⟨g,0,none⟩) (n+m) cap)) w') :
 if Region.wanted o (yielded ops a.tmps)=true then Oper.wp P o a w K Q else E:=by
 have hw:Region.wanted o (yielded ops a.tmps)=true:=by simp[Region.wanted,hgd]
 rw[if_pos hw];exact nO w s x t ho base e i z size bytes ht hi hz hsize hby hzs hsz v n xs hs hown ad m c news hx hl hnews h1 hm h63 hbytes hbase h
end
def Same(w w':World)(S:Nat->Prop):Prop:=w.heap.size<=w'.heap.size/\∀ k,k<w.heap.size->¬ S k->w'.heap[k]?=w.heap[k]?
theorem Same.below{w w':World}(h:Below w.heap.size w w'):Same w w' (fun _=>False):=⟨h.size,fun k hk _=>h.block k hk⟩
theorem Same.grown{w w':World}{row:Option Nat}(h:w.grownBy w' row):Same w w' (fun k=>row=some k):=⟨h.size,fun k hk hn=>h.block k hk fun e=>hn e.symm⟩
theorem Same.alloc(w:World)(o:Obj):Same w (w.alloc o) (fun _=>False):=Same.below (aA w o)
theorem Same.set(w:World)(p:Addr)(v:Value):Same w (w.setCell p v) (fun k=>k=p.block):=⟨by simp[World.setCell],fun k _ hn=>Below.heap_setCell _ _ _ _ (fun e=>hn e)⟩
theorem Same.trans{a b c:World}{S T:Nat->Prop}(h:Same a b S)(k:Same b c T):Same a c (fun x=>S x\/T x) :=
 ⟨aD9 h.1 k.1,fun x hx hn=>(k.2 x (aF0 hx h.1) fun e=>hn (.inr e)).trans (h.2 x hx fun e=>hn (.inl e))⟩
theorem Same.mono{a b:World}{S T:Nat->Prop}(h:Same a b S)(hST:∀ k,k<a.heap.size->S k->T k):Same a b T:=⟨h.1,fun k hk hn=>h.2 k hk fun e=>hn (hST k hk e)⟩
theorem Same.cell{w w':World}{S:Nat->Prop}(h:Same w w' S){p:Addr}{v:Value}(hc:w.cell? p=some v)(hn:¬ S p.block):w'.cell? p=some v :=
 (World.cell?_of_block (h.2 p.block (aE6 _ _ hc) hn)).trans hc
theorem aF{w w':World}{S:Nat->Prop}{B:Nat}{e:TypeId}{k:Nat}{v:Value}{n:Nat}{xs:List Value}(h:w.ownsRow B e k v n xs)(hs:Same w w' S)(hn:∀ g,v.ownBlock=some g->¬ S g):w'.ownsRow B e k v n xs:=by
 refine⟨h.1,?_⟩;rcases h.2 with h0 | ⟨g,cap,cur,hv,hb,hg,r⟩
 ·exact .inl h0
 ·refine .inr ⟨g,cap,cur,hv,hb,?_,r⟩;rw[hs.2 g (aC2.1 hg).1 (hn g (by rw[hv];rfl))];exact hg
def qF(w:World)(k:Nat)(s:Value)(n:Int):Prop :=
 ∃ a0 len cap,s = .slice a0 len cap/\len<=1000000/\∀ j,j<len->∃ g off,a0=some ⟨g,off,none⟩/\w.cell? ⟨g,off+j*k,none⟩=some (.int .i64 n)/\(k=3->w.cell? ⟨g,off+j*k+1,none⟩=some (.int .i64 0)/\w.cell? ⟨g,off+j*k+2,none⟩=some (.int .i64 0))
theorem qF.same{w w':World}{S:Nat->Prop}{k:Nat}{s:Value}{n:Int}(h:qF w k s n)(hs:Same w w' S)(hn:∀ g,s.ownBlock=some g->¬ S g):qF w' k s n:=by
 obtain⟨a0,len,cap,rfl,hl,hc⟩:=h;refine⟨a0,len,cap,rfl,hl,fun j hj => ?_⟩;obtain⟨g,off,rfl,h1,h2⟩:=hc j hj;have hg:=hn g rfl;exact⟨g,off,rfl,hs.cell h1 hg,fun e=>⟨hs.cell (h2 e).1 hg,hs.cell (h2 e).2 hg⟩⟩
def kR(l:List (Value×Int)):List Value:=l.flatMap fun p=>[p.1,.int .i64 p.2]
theorem wQ(l:List (Value×Int))(p:Value×Int):kR (l++[p])=kR l++[p.1,.int .i64 p.2]:=by unfold kR;simp
theorem V4(l:List (Value×Int))(k:Nat)(p:Value×Int)(h:l[k]?=some p):(kR l)[k*2]?=some p.1/\(kR l)[k*2+1]?=some (.int .i64 p.2):=by
 induction l generalizing k with
 | nil=>simp at h
 | cons e l ih =>
  have e2:kR (e::l)=e.1::.int .i64 e.2::kR l:=by unfold kR;rw[List.flatMap_cons];rfl
  rw[e2];cases k with
  | zero=>simp at h;subst h;exact⟨rfl,rfl⟩
  | succ k =>
   have:=ih k (by simpa using h);rw[Nat.succ_mul];exact this
structure Bk (w:World) (B N:Nat) (v1 v2:Value) (es is:List (Value×Int)):Prop where
 row:w.heap[B]?=some (.cells #[.int .i64 (N:Int),v1,v2] 36 (0,0))
 own1:w.ownsRow (B+1) 69 2 v1 es.length (kR es)
 own2:w.ownsRow (B+1) 71 2 v2 is.length (kR is)
 ne:∀ g,v1.ownBlock=some g->v2.ownBlock≠some g
 l1:∀ p∈es,qF w 3 p.1 p.2
 l2:∀ p∈is,qF w 1 p.1 p.2
 bl:∀ p∈es++is,∀ g,p.1.ownBlock=some g->B<g/\g<w.heap.size/\v1.ownBlock≠some g/\v2.ownBlock≠some g
theorem Bk.same{w w':World}{S:Nat->Prop}{B N:Nat}{v1 v2:Value}{es is:List (Value×Int)}(h:Bk w B N v1 v2 es is)(hs:Same w w' S)(hB:¬ S B)(h1:∀ g,v1.ownBlock=some g->¬ S g)(h2:∀ g,v2.ownBlock=some g->¬ S g)(hl:∀ p∈es++is,∀ g,p.1.ownBlock=some g->¬ S g):Bk w' B N v1 v2 es is :=
 ⟨by rw[hs.2 B (aC2.1 h.row).1 hB];exact h.row,aF h.own1 hs h1,aF h.own2 hs h2,h.ne,
  fun p hp=>(h.l1 p hp).same hs (hl p (aC9.2 (.inl hp))),fun p hp=>(h.l2 p hp).same hs (hl p (aC9.2 (.inr hp))),
  fun p hp g hg=>⟨(h.bl p hp g hg).1,aF0 (h.bl p hp g hg).2.1 hs.1,(h.bl p hp g hg).2.2⟩⟩
theorem Bk.below{w w':World}{B N:Nat}{v1 v2:Value}{es is:List (Value×Int)}(h:Bk w B N v1 v2 es is)(hB:Below w.heap.size w w'):Bk w' B N v1 v2 es is :=
 h.same (Same.below hB) id (fun _ _=>id) (fun _ _=>id) (fun _ _ _ _=>id)
theorem Bk.lt{w:World}{B N:Nat}{v1 v2:Value}{es is:List (Value×Int)}(h:Bk w B N v1 v2 es is):B<w.heap.size:=(aC2.1 h.row).1
theorem EL(w:World)(B i:Nat)(xs:Array Value)(t:TypeId)(fz:Nat×Nat)(v:Value)(h:w.heap[B]?=some (.cells xs t fz)):(w.setCell ⟨B,i,none⟩ v).heap[B]?=some (.cells (xs.setIfInBounds i v) t fz):=by
 simp[World.setCell,Array.getElem?_modify,h]
theorem Bk.setN{w:World}{B N:Nat}{v1 v2:Value}{es is:List (Value×Int)}(h:Bk w B N v1 v2 es is)(M:Nat):Bk (w.setCell ⟨B,0,none⟩ (.int .i64 (M:Int))) B M v1 v2 es is:=by
 have hs:=Same.set w ⟨B,0,none⟩ (.int .i64 (M:Int));have a1:∀ g,v1.ownBlock=some g->¬ g=B:=fun g hg e=>by have:=(h.own1.lt g hg).1;omega
 have a2:∀ g,v2.ownBlock=some g->¬ g=B:=fun g hg e=>by have:=(h.own2.lt g hg).1;omega
 have a3:∀ p∈es++is,∀ g,p.1.ownBlock=some g->¬ g=B:=fun p hp g hg e=>by have:=(h.bl p hp g hg).1;omega
 exact⟨EL w B 0 _ _ _ _ h.row,aF h.own1 hs a1,aF h.own2 hs a2,h.ne,
  fun p hp=>(h.l1 p hp).same hs (a3 p (aC9.2 (.inl hp))),fun p hp=>(h.l2 p hp).same hs (a3 p (aC9.2 (.inr hp))),
  fun p hp g hg=>⟨(h.bl p hp g hg).1,aF0 (h.bl p hp g hg).2.1 hs.1,(h.bl p hp g hg).2.2⟩⟩
theorem Bk.push1{w w2:World}{B N:Nat}{v1 v2:Value}{es is:List (Value×Int)}(h:Bk w B N v1 v2 es is)(s:Value)(x:Int)(hx:qF w 3 s x)(hsb:∀ g,s.ownBlock=some g->B<g/\g<w.heap.size/\v1.ownBlock≠some g/\v2.ownBlock≠some g)
 (g cap:Nat) (hown:w2.ownsRow (B+1) 69 2 (.slice (some ⟨g,0,none⟩) (es.length+1) cap) (es.length+1) (kR es++[s,.int .i64 x])) (hg:(v1.ownBlock=some g/\w.grownBy w2 (some g))\/(g=w.heap.size/\w.grownBy w2 none)) :
 Bk (w2.setCell ⟨B,1,none⟩ (.slice (some ⟨g,0,none⟩) (es.length+1) cap)) B N (.slice (some ⟨g,0,none⟩) (es.length+1) cap) v2 (es++[(s,x)]) is/\Same w (w2.setCell ⟨B,1,none⟩ (.slice (some ⟨g,0,none⟩) (es.length+1) cap)) (fun k=>k=B\/v1.ownBlock=some k):=by
 have hs1:Same w w2 (fun k=>v1.ownBlock=some k):=by
  rcases hg with ⟨h1,h2⟩ | ⟨_,h2⟩
  ·exact(Same.grown h2).mono fun k _ e=>by rw[h1];exact e
  ·exact(Same.grown h2).mono fun k _ e=>by simp at e
 have hs2:=Same.set w2 ⟨B,1,none⟩ (.slice (some ⟨g,0,none⟩) (es.length+1) cap);have hs:=(hs1.trans hs2).mono (T:=fun k=>k=B\/v1.ownBlock=some k) fun k _ e=>e.elim .inr .inl;have a9:=h.lt;have hgB:=(hown.lt g rfl);have a1:∀ k,v1.ownBlock=some k->k≠B:=fun k hk e=>by have:=(h.own1.lt k hk).1;omega
 have a2:∀ k,v2.ownBlock=some k->¬(k=B\/v1.ownBlock=some k):=fun k hk e=>by
  rcases e with e | e
  ·have:=(h.own2.lt k hk).1;omega
  ·exact h.ne k e hk
 have aL:∀ k,k<w.heap.size->v1.ownBlock≠some k->g≠k:=fun k hk hn e=>by
  subst e;rcases hg with ⟨h1,_⟩ | ⟨h1,_⟩
  ·exact hn h1
  ·omega
 have lst:∀ p∈es++[(s,x)]++is,∀ k,p.1.ownBlock=some k->B<k/\k<w.heap.size/\v1.ownBlock≠some k/\v2.ownBlock≠some k:=fun p hp k hk=>by
  rcases aC9.1 hp with hp | hp
  ·rcases aC9.1 hp with hp | hp
   ·exact h.bl p (aC9.2 (.inl hp)) k hk
   ·simp only[aF8]at hp;subst hp;exact hsb k hk
  ·exact h.bl p (aC9.2 (.inr hp)) k hk
 have a6:∀ p∈es++[(s,x)]++is,∀ k,p.1.ownBlock=some k->¬(k=B\/v1.ownBlock=some k):=fun p hp k hk e=>by
  have:=lst p hp k hk;rcases e with e | e
  ·omega
  ·exact this.2.2.1 e
 refine⟨⟨?_,?_,aF h.own2 hs a2,fun k hk hk2 => ?_,fun p hp => ?_,fun p hp => ?_,fun p hp k hk => ?_⟩,hs⟩
 ·have e:=hs1.2 B a9 fun e=>a1 B e rfl;rw[h.row]at e;exact EL w2 B 1 _ _ _ _ e
 ·rw[WT,wQ];exact aF hown hs2 fun k hk e=>by
   have e2:g=k:=by simpa[Value.ownBlock]using hk
   simp only at e;omega
 ·have e2:g=k:=by simpa[Value.ownBlock]using hk
  subst e2;have hv2:=h.own2.lt g hk2;rcases hg with ⟨h1,_⟩ | ⟨h1,_⟩
  ·exact h.ne g h1 hk2
  ·omega
 ·have hm:p∈es++[(s,x)]++is:=aC9.2 (.inl hp);rcases aC9.1 hp with hp2 | hp2
  ·exact(h.l1 p hp2).same hs (a6 p hm)
  ·simp only[aF8]at hp2;subst hp2;exact hx.same hs (a6 _ hm)
 ·exact(h.l2 p hp).same hs (a6 p (aC9.2 (.inr hp)))
 ·have:=lst p hp k hk;refine⟨this.1,aF0 this.2.1 hs.1,fun e => ?_,this.2.2.2⟩;have e2:g=k:=by simpa[Value.ownBlock]using e
  exact aL k this.2.1 this.2.2.1 e2
end Go.Proofs.YtphjbbbnbmafnaaGreatDoor.G
namespace Go.Proofs.YtphjbbbnbmafnaaGreatDoor.G
open Go.RowKit
variable {W0:World}
noncomputable def ext (W0 u:World):World:=by
 classical
 exact if Below W0.heap.size W0 u then u else W0
theorem aD(W0 u:World):Below W0.heap.size W0 (ext W0 u):=by
 unfold ext;split
 ·assumption
 ·exact YQ _ _
theorem aN{u:World}(h:Below W0.heap.size W0 u):u=ext W0 u:=by
 unfold ext;rw[if_pos h]
theorem aC{p:Addr}{v:Value}(h:W0.cell? p=some v)(u:World):(ext W0 u).cell? p=some v:=cell_kept (aD W0 u) _ _ h
theorem bG{P:Program}{id:Nat}{Q:Exit->Act->World->Prop}{a:Act}{w:World}{l:List Oper}(hm:P.follows .mixedOrders=true)(hB:Region.lexB .any l.toArray=true)
 (h:wpQuiet P l.toArray (fun w'=>∃ u,w'=ext w u) (fun a'=>∀ w',(∃ u,w'=ext w u)->Q .normal a' w') l a):(Code.region id l.toArray true).wp P Q a w :=
 wp_region_quiet (C:=fun w'=>∃ u,w'=ext w u) hm hB ⟨w.drew,aN ((YQ _ _).drew)⟩ (by simpa using h)
end Go.Proofs.YtphjbbbnbmafnaaGreatDoor.G
