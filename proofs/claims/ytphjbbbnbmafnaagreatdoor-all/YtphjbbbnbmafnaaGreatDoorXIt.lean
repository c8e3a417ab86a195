/- Parts: RxM RxS XIt. -/
import Derived.Test.YtphjbbbnbmafnaaGreatDoorXPl
import Derived.RangeFuncNested
import Derived.RangeFuncBox
import Derived.RangeFuncBound
import Derived.RangeFuncCalls
import Derived.RangeFuncLeaves
import Derived.Shelf.Abstract
import Derived.Shelf.RegionOpen
import Derived.OwnWalkIn
import Derived.TacticsInMore
import Derived.LoopNIn
import Derived.LoopIn
set_option maxHeartbeats 4000000
set_option maxRecDepth 100000
namespace Go.Proofs.YtphjbbbnbmafnaaGreatDoor.RxM
inductive Rx where
 | void | eps
 | sym (l:Option Nat)
 | star (t:Rx)
 | cat (a b:Rx)
 | alt (a b:Rx)
open Rx
def size:Rx->Nat
 | void=>0 | eps=>0 | sym _=>1 | star t=>size t | cat a b=>size a+size b | alt a b=>size a+size b
def nul:Rx->Bool
 | void=>false | eps=>true | sym _=>false | star _=>true | cat a b=>nul a&&nul b | alt a b=>nul a||nul b
def fst:Rx->Nat->Nat->Bool
 | void,_,_=>false | eps,_,_=>false
 | sym _,k,p=>p == k
 | star t,k,p=>fst t k p
 | cat a b,k,p=>fst a k p||(nul a&&fst b (k+size a) p)
 | alt a b,k,p=>fst a k p||fst b (k+size a) p
def lst:Rx->Nat->Nat->Bool
 | void,_,_=>false | eps,_,_=>false
 | sym _,k,p=>p == k
 | star t,k,p=>lst t k p
 | cat a b,k,p=>lst b (k+size a) p||(nul b&&lst a k p)
 | alt a b,k,p=>lst a k p||lst b (k+size a) p
def nxt:Rx->Nat->Nat->Nat->Bool
 | void,_,_,_=>false | eps,_,_,_=>false
 | sym _,_,_,_=>false
 | star t,k,p,q=>nxt t k p q||(lst t k p&&fst t k q)
 | cat a b,k,p,q=>nxt a k p q||nxt b (k+size a) p q||(lst a k p&&fst b (k+size a) q)
 | alt a b,k,p,q=>nxt a k p q||nxt b (k+size a) p q
def aM:Rx->List (Option Nat)
 | void=>[] | eps=>[] | sym l=>[l] | star t=>aM t | cat a b=>aM a++aM b | alt a b=>aM a++aM b
theorem cK:∀ t,(aM t).length=size t
 | void=>rfl | eps=>rfl | sym _=>rfl | star t=>cK t
 | cat a b=>by simp[aM,size,cK a,cK b]
 | alt a b=>by simp[aM,size,cK a,cK b]
theorem eD:∀(t:Rx) (k p:Nat),fst t k p=true->k<=p/\p<k+size t
 | void,_,_,h=>by simp[fst]at h
 | eps,_,_,h=>by simp[fst]at h
 | sym _,k,p,h=>by simp[fst]at h;simp[size];omega
 | star t,k,p,h=>eD t k p h
 | cat a b,k,p,h=>by
  simp only[fst,aF1,aD6]at h;simp only[size];rcases h with h | ⟨_,h⟩
  ·have:=eD a k p h;omega
  ·have:=eD b _ p h;omega
 | alt a b,k,p,h=>by
  simp only[fst,aF1]at h;simp only[size];rcases h with h | h
  ·have:=eD a k p h;omega
  ·have:=eD b _ p h;omega
theorem iC:∀(t:Rx) (k p:Nat),lst t k p=true->k<=p/\p<k+size t
 | void,_,_,h=>by simp[lst]at h
 | eps,_,_,h=>by simp[lst]at h
 | sym _,k,p,h=>by simp[lst]at h;simp[size];omega
 | star t,k,p,h=>iC t k p h
 | cat a b,k,p,h=>by
  simp only[lst,aF1,aD6]at h;simp only[size];rcases h with h | ⟨_,h⟩
  ·have:=iC b _ p h;omega
  ·have:=iC a k p h;omega
 | alt a b,k,p,h=>by
  simp only[lst,aF1]at h;simp only[size];rcases h with h | h
  ·have:=iC a k p h;omega
  ·have:=iC b _ p h;omega
theorem fE:∀(t:Rx) (k p q:Nat),nxt t k p q=true->(k<=p/\p<k+size t)/\(k<=q/\q<k+size t)
 | void,_,_,_,h=>by simp[nxt]at h
 | eps,_,_,_,h=>by simp[nxt]at h
 | sym _,k,p,_,h=>by simp[nxt]at h
 | star t,k,p,q,h=>by
  simp only[nxt,aF1,aD6]at h;simp only[size];rcases h with h | ⟨h1,h2⟩
  ·exact fE t k p q h
  ·exact⟨iC t k p h1,eD t k q h2⟩
 | cat a b,k,p,q,h=>by
  simp only[nxt,aF1,aD6]at h;simp only[size];rcases h with (h | h) | ⟨h1,h2⟩
  ·have:=fE a k p q h;omega
  ·have:=fE b _ p q h;omega
  ·have:=iC a k p h1;have:=eD b _ q h2;omega
 | alt a b,k,p,q,h=>by
  simp only[nxt,aF1]at h;simp only[size];rcases h with h | h
  ·have:=fE a k p q h;omega
  ·have:=fE b _ p q h;omega
abbrev Fr:=Rx×Rx×Option Rx
def ab(r:Rx):Option Rx->Rx | none=>r | some p=>cat r p
def fin(f:Fr):Rx:=alt f.1 (ab f.2.1 f.2.2)
def init:Fr:=(void,eps,none)
def step(n:Nat)(c:Nat):List Fr->Option (List Fr)
 | []=>none
 | (a,r,p)::st =>
  if c=124 then some ((alt a (ab r p),eps,none)::st)
  else if c=42 then match p with | none=>none | some q=>some ((a,r,some (star q))::st)
  else if c=40 then some (init::(a,ab r p,none)::st)
  else if c=41 then match st with | []=>none | (a',r',_)::st'=>some ((a',r',some (fin (a,r,p)))::st')
  else if c=46 then some ((a,ab r p,some (sym none))::st)
  else if 97<=c/\c<97+n then some ((a,ab r p,some (sym (some (c-97))))::st)
  else none
def run(n:Nat):List Nat->List Fr->Option (List Fr)
 | [],st=>some st
 | c::s,st=>(step n c st).bind (run n s)
theorem jW(n:Nat):∀(s t:List Nat) (st:List Fr),run n (s++t) st=(run n s st).bind (run n t)
 | [],t,st=>rfl
 | c::s,t,st=>by
  simp only[aG9,run];cases step n c st with
  | none=>rfl
  | some x=>exact jW n s t x
theorem xB{n c:Nat}{st st':List Fr}(h:step n c st=some st')(b:List Fr):step n c (st++b)=some (st'++b):=by
 match st with
 | []=>simp[step]at h
 | (a,r,p)::st =>
  unfold step at h ⊢;simp only[aG9];simp only at h;split at h
  ·rename_i h1;rw[if_pos h1];injection h with h;subst h;rfl
  ·rename_i h1;rw[if_neg h1];split at h
   ·rename_i h2;rw[if_pos h2];cases p with
    | none=>simp at h
    | some q=>injection h with h;subst h;rfl
   ·rename_i h2;rw[if_neg h2];split at h
    ·rename_i h3;rw[if_pos h3];injection h with h;subst h;rfl
    ·rename_i h3;rw[if_neg h3];split at h
     ·rename_i h4;rw[if_pos h4]
      match st with
      | []=>simp at h
      | (a',r',p')::st1=>injection h with h;subst h;rfl
     ·rename_i h4;rw[if_neg h4];split at h
      ·rename_i h5;rw[if_pos h5];injection h with h;subst h;rfl
      ·rename_i h5;rw[if_neg h5];split at h
       ·rename_i h6;rw[if_pos h6];injection h with h;subst h;rfl
       ·simp at h
theorem lX{n:Nat}:∀{s:List Nat} {st st':List Fr},run n s st=some st'->∀ b,run n s (st++b)=some (st'++b)
 | [],st,st',h,b=>by simp only[run,aC5]at h ⊢;rw[h]
 | c::s,st,st',h,b=>by
  simp only[run]at h ⊢;cases h1:step n c st with
  | none=>rw[h1]at h;simp at h
  | some x =>
   rw[h1]at h;rw[xB h1 b];exact lX (s:=s) h b
def read(n:Nat)(s:List Nat):Option Rx :=
 match run n s [init]with
 | some [f]=>some (fin f)
 | _=>none
def Dead(n:Nat)(s:List Nat)(st:List Fr):Prop:=∀ f,run n s st≠some [f]
theorem jK{n:Nat}{s t:List Nat}{st st':List Fr}(h:run n s st=some st')(hd:Dead n t st'):Dead n (s++t) st:=fun f hf=>by
 rw[jW,h]at hf;exact hd f hf
theorem TC{n:Nat}{f g:Fr}{st:List Fr}:Dead n [] (f::g::st):=fun x hx=>by simp[run]at hx
theorem pQ{n c:Nat}{s:List Nat}{st:List Fr}(h:step n c st=none):Dead n (c::s) st:=fun x hx=>by
 simp only[run,h]at hx;simp at hx
theorem lT{n:Nat}{s:List Nat}(h:Dead n s [init]):read n s=none:=by
 unfold read;split
 ·rename_i f hf;exact absurd hf (h f)
 ·rfl
theorem oQ{n:Nat}{s:List Nat}{f:Fr}(h:run n s [init]=some [f]):read n s=some (fin f):=by
 unfold read;rw[h]
def dp:List Nat->Nat->Option Nat
 | [],d=>some d
 | c::s,d=>if c=40 then dp s (d+1)else if c=41 then (if d=0 then none else dp s (d-1))else dp s d
def cl:List Nat->Nat->Option Nat
 | [],_=>none
 | c::s,d=>if c=41 then (if d=1 then some 0 else (cl s (d-1)).map (· + 1))else (cl s (if c=40 then d+1 else d)).map (· + 1)
theorem pI:∀(s:List Nat) (d k:Nat),cl s (d+1)=some k->∃ q s2,s=q++41::s2/\q.length=k/\dp q d=some 0
 | [],d,k,h=>by simp[cl]at h
 | c::s,d,k,h=>by
  unfold cl at h;split at h
  ·rename_i hc;split at h
   ·rename_i hd;injection h with h;exact⟨[],s,by rw[hc];rfl,h,by rw[show d=0 from by omega];rfl⟩
   ·rename_i hd;cases h1:cl s (d+1-1)with
    | none=>rw[h1]at h;simp at h
    | some k1 =>
     rw[h1]at h;simp only[aH9,aC5]at h;obtain⟨d1,rfl⟩:∃ d1,d=d1+1:=⟨d-1,by omega⟩;rw[Nat.add_sub_cancel]at h1;obtain⟨q,s2,rfl,hl,hq⟩:=pI s d1 k1 h1;refine⟨c::q,s2,rfl,by simp[hl,h],?_⟩;unfold dp;rw[if_neg (by omega),if_pos hc,if_neg (by omega)];exact hq
  ·rename_i hc;split at h
   ·rename_i hd;cases h1:cl s (d+1+1)with
    | none=>rw[h1]at h;simp at h
    | some k1 =>
     rw[h1]at h;simp only[aH9,aC5]at h;obtain⟨q,s2,rfl,hl,hq⟩:=pI s (d+1) k1 h1;refine⟨c::q,s2,rfl,by simp[hl,h],?_⟩;unfold dp;rw[if_pos hd];exact hq
   ·rename_i hd;cases h1:cl s (d+1)with
    | none=>rw[h1]at h;simp at h
    | some k1 =>
     rw[h1]at h;simp only[aH9,aC5]at h;obtain⟨q,s2,rfl,hl,hq⟩:=pI s d k1 h1;refine⟨c::q,s2,rfl,by simp[hl,h],?_⟩;unfold dp;rw[if_neg hd,if_neg hc];exact hq
theorem JD{n c:Nat}{st st':List Fr}(h:step n c st=some st'):st'.length=if c=40 then st.length+1 else if c=41 then st.length-1 else st.length:=by
 match st with
 | []=>simp[step]at h
 | (a,r,p)::st =>
  unfold step at h;simp only at h;split at h
  ·rename_i h1;injection h with h;subst h;rw[if_neg (by omega),if_neg (by omega)];rfl
  ·split at h
   ·rename_i h1 h2;cases p with
    | none=>simp at h
    | some q=>injection h with h;subst h;rw[if_neg (by omega),if_neg (by omega)];rfl
   ·split at h
    ·rename_i h3;injection h with h;subst h;rw[if_pos h3];rfl
    ·split at h
     ·rename_i h3 h4;rw[if_neg h3,if_pos h4]
      match st with
      | []=>simp at h
      | (a',r',p')::st1=>injection h with h;subst h;rfl
     ·rename_i h3 h4;rw[if_neg h3,if_neg h4];split at h
      ·injection h with h;subst h;rfl
      ·split at h
       ·injection h with h;subst h;rfl
       ·simp at h
theorem tX{n c:Nat}{st:List Fr}(h:step n c st=none)(hst:st≠[])(hc:c≠41\/2<=st.length)(b:List Fr):step n c (st++b)=none:=by
 match st with
 | []=>exact absurd rfl hst
 | (a,r,p)::st =>
  unfold step at h ⊢;simp only[aG9];simp only at h;split at h
  ·simp at h
  ·rename_i h1;rw[if_neg h1];split at h
   ·rename_i h2;rw[if_pos h2];cases p with
    | none=>rfl
    | some q=>simp at h
   ·rename_i h2;rw[if_neg h2];split at h
    ·simp at h
    ·rename_i h3;rw[if_neg h3];split at h
     ·rename_i h4
      match st with
      | []=>simp at hc;exact absurd h4 hc
      | (a',r',p')::st1=>simp at h
     ·rename_i h4;rw[if_neg h4];split at h
      ·simp at h
      ·rename_i h5;rw[if_neg h5];split at h
       ·simp at h
       ·rename_i h6;rw[if_neg h6]
theorem I7{n:Nat}:∀(s:List Nat) (d d':Nat) (st:List Fr),dp s d=some d'->st.length=d+1->(∀ b,run n s (st++b)=(run n s st).map (·++b))/\(∀ st',run n s st=some st'->st'.length=d'+1)
 | [],d,d',st,h,hl=>⟨fun b=>rfl,fun st' h'=>by simp only[run,aC5]at h';simp only[dp,aC5]at h;rw[<-h',hl,h]⟩
 | c::s,d,d',st,h,hl=>by
  have hne:st≠[]:=by intro e;rw[e]at hl;simp at hl
  cases h1:step n c st with
  | none =>
   refine⟨fun b => ?_,fun st' h'=>by simp only[run,h1]at h';simp at h'⟩;simp only[run,h1];rw[tX h1 hne ?_ b]
   ·rfl
   ·by_cases hc:c=41
    ·right;unfold dp at h;rw[if_neg (by omega),if_pos hc]at h;split at h
     ·simp at h
     ·omega
    ·exact .inl hc
  | some x =>
   have hx:=JD h1;have hd:∃ dx,dp s dx=some d'/\x.length=dx+1:=by
    unfold dp at h;split at h
    ·rename_i hc;exact⟨d+1,h,by rw[hx,if_pos hc];omega⟩
    ·rename_i hc;split at h
     ·rename_i hc2;split at h
      ·simp at h
      ·exact⟨d-1,h,by rw[hx,if_neg hc,if_pos hc2];omega⟩
     ·rename_i hc2;exact⟨d,h,by rw[hx,if_neg hc,if_neg hc2];omega⟩
   obtain⟨dx,hd1,hd2⟩:=hd;obtain⟨i1,i2⟩:=I7 s dx d' x hd1 hd2;refine⟨fun b => ?_,fun st' h' => ?_⟩
   ·simp only[run,h1,xB h1 b,aH8];exact i1 b
   ·simp only[run,h1,aH8]at h';exact i2 st' h'
theorem EK{n:Nat}{q:List Nat}(h:dp q 0=some 0)(b:List Fr):(run n q [init]=none/\run n q (init::b)=none)\/∃ f,run n q [init]=some [f]/\run n q (init::b)=some (f::b):=by
 obtain⟨i1,i2⟩:=I7 (n:=n) q 0 0 [init] h rfl;have e:=i1 b;cases h1:run n q [init]with
 | none=>rw[h1]at e;exact .inl ⟨rfl,e⟩
 | some st' =>
  have hl:=i2 st' h1
  match st' with
  | []=>simp at hl
  | [f]=>rw[h1]at e;exact .inr ⟨f,rfl,e⟩
  | _::_::_=>simp at hl
theorem sF{n:Nat}:∀(s:List Nat) (d:Nat) (st st':List Fr),cl s (d+1)=none->st.length=d+2->run n s st=some st'->2<=st'.length
 | [],d,st,st',_,hl,h=>by simp only[run,aC5]at h;rw[<-h];omega
 | c::s,d,st,st',hc,hl,h=>by
  cases h1:step n c st with
  | none=>simp only[run,h1]at h;simp at h
  | some x =>
   have hx:=JD h1;simp only[run,h1,aH8]at h;unfold cl at hc;split at hc
   ·rename_i h41;split at hc
    ·simp at hc
    ·rename_i hd;rw[Option.map_eq_none_iff]at hc;obtain⟨d1,rfl⟩:∃ d1,d=d1+1:=⟨d-1,by omega⟩;rw[if_neg (by omega),if_pos h41]at hx;exact sF s d1 x st' hc (by omega) h
   ·rename_i h41;rw[Option.map_eq_none_iff]at hc;split at hc
    ·rename_i h40;rw[if_pos h40]at hx;exact sF s (d+1) x st' hc (by omega) h
    ·rename_i h40;rw[if_neg h40,if_neg h41]at hx;exact sF s d x st' hc (by omega) h
theorem NI{n:Nat}{s:List Nat}{g:Fr}(h:cl s 1=none):Dead n s [init,g]:=fun f hf=>by
 have:=sF s 0 [init,g] [f] h rfl hf;simp at this
def takes(l:Option Nat)(c:Nat):Bool:=match l with | none=>true | some a=>a == c
section
variable (E:Nat->Nat->Nat->Prop)
def Go(l:Option Nat)(u v:Nat):Prop:=∃ c,takes l c=true/\E u c v
inductive VU (R:Nat->Nat->Prop):Nat->Nat->Prop
 | nil (u:Nat):VU R u u
 | snoc {u m v:Nat}:VU R u m->R m v->VU R u v
def rel:Rx->Nat->Nat->Prop
 | void,_,_=>False
 | eps,u,v=>u=v
 | sym l,u,v=>Go E l u v
 | star t,u,v=>VU (rel t) u v
 | cat a b,u,v=>∃ m,rel a u m/\rel b m v
 | alt a b,u,v=>rel a u v\/rel b u v
def lab(t:Rx)(k p:Nat):Option Nat:=(aM t).getD (p-k) none
inductive Way (t:Rx) (k u:Nat):Nat->Nat->Prop
 | one {p v:Nat}:fst t k p=true->Go E (lab t k p) u v->Way t k u p v
 | more {p q m v:Nat}:Way t k u p m->nxt t k p q=true->Go E (lab t k q) m v->Way t k u q v
end
variable {E:Nat->Nat->Nat->Prop}
theorem Way.in{t:Rx}{k u p v:Nat}(h:Way E t k u p v):k<=p/\p<k+size t:=by
 cases h with
 | one h _=>exact eD _ _ _ h
 | more _ h _=>exact(fE _ _ _ _ h).2
theorem zV{a b:Rx}{k p:Nat}(h:k<=p/\p<k+size a):(aM a++aM b).getD (p-k) none=lab a k p:=by
 unfold lab;rw[aC1,aC1,aD4 (by rw[cK];omega)]
theorem vW{a b:Rx}{k p:Nat}(h:k+size a<=p):(aM a++aM b).getD (p-k) none=lab b (k+size a) p:=by
 unfold lab;rw[aC1,aC1,aC8 (by rw[cK];omega),cK,Nat.sub_sub]
theorem bQ:∀(t:Rx) (k u v:Nat),rel E t u v↔(nul t=true/\u=v)\/∃ p,Way E t k u p v/\lst t k p=true
 | void,k,u,v=>by
  constructor
  ·intro h;exact absurd h id
  ·rintro(⟨h,_⟩ | ⟨p,_,h⟩)
   ·simp[nul]at h
   ·simp[lst]at h
 | eps,k,u,v=>by
  constructor
  ·intro h;exact .inl ⟨rfl,h⟩
  ·rintro(⟨_,h⟩ | ⟨p,_,h⟩)
   ·exact h
   ·simp[lst]at h
 | sym l,k,u,v=>by
  constructor
  ·intro h;exact .inr ⟨k,.one (by simp[fst]) (by have h':Go E l u v:=h;simpa[lab,aM]using h'),by simp[lst]⟩
  ·rintro(⟨h,_⟩ | ⟨p,hw,hl⟩)
   ·simp[nul]at h
   ·cases hw with
    | one h1 h2 =>
     have:=eD _ _ _ h1;simp only[size]at this;obtain rfl:p=k:=by omega
     have h3:Go E l u v:=by simpa[lab,aM]using h2
     exact h3
    | more _ h _=>simp[nxt]at h
 | star t,k,u,v=>by
  have A:∀{m p x},VU (rel E t) u m->Way E t k m p x->Way E (star t) k u p x:=by
   intro m p x hm hw
   induction hm generalizing p x with
   | nil =>
    induction hw with
    | one h1 h2=>exact .one h1 h2
    | more _ h1 h2 ih=>exact .more ih (by simp only[nxt,h1,Bool.true_or]) h2
   | @snoc m1 _ hm1 hr ih =>
    rcases(bQ t k _ _).1 hr with ⟨_,rfl⟩ | ⟨p1,hw1,hl1⟩
    ·exact ih hw
    ·have h1:=ih hw1
     induction hw with
     | one h2 h3=>exact .more h1 (by simp only[nxt,hl1,h2,Bool.true_and,Bool.or_true]) h3
     | more _ h2 h3 ih2=>exact .more ih2 (by simp only[nxt,h2,Bool.true_or]) h3
  have B:∀{p x},Way E (star t) k u p x->∃ m,VU (rel E t) u m/\Way E t k m p x:=by
   intro p x hw
   induction hw with
   | one h1 h2=>exact⟨u,.nil u,.one h1 h2⟩
   | @more p q m1 v1 _ h1 h2 ih =>
    obtain⟨m,hm,hw⟩:=ih;simp only[nxt,aF1,aD6]at h1;rcases h1 with h1 | ⟨h3,h4⟩
    ·exact⟨m,hm,.more hw h1 h2⟩
    ·exact⟨m1,.snoc hm ((bQ t k _ _).2 (.inr ⟨p,hw,h3⟩)),.one h4 h2⟩
  constructor
  ·intro h;have h':VU (rel E t) u v:=h;clear h;cases h' with
   | nil=>exact .inl ⟨rfl,rfl⟩
   | @snoc m _ hm hr =>
    induction hm with
    | nil =>
     rcases(bQ t k _ _).1 hr with ⟨_,rfl⟩ | ⟨p,hw,hl⟩
     ·exact .inl ⟨rfl,rfl⟩
     ·exact .inr ⟨p,A (.nil u) hw,hl⟩
    | @snoc m2 _ hm2 hr2 ih =>
     rcases(bQ t k _ _).1 hr with ⟨_,rfl⟩ | ⟨p,hw,hl⟩
     ·exact ih hr2
     ·exact .inr ⟨p,A (.snoc hm2 hr2) hw,hl⟩
  ·rintro(⟨_,rfl⟩ | ⟨p,hw,hl⟩)
   ·exact VU.nil u
   ·obtain⟨m,hm,a6⟩:=B hw;exact VU.snoc hm ((bQ t k _ _).2 (.inr ⟨p,a6,hl⟩))
 | cat a b,k,u,v=>by
  have A:∀{p x},Way E a k u p x->Way E (cat a b) k u p x:=by
   intro p x hw
   induction hw with
   | one h1 h2=>exact .one (by simp only[fst,h1,Bool.true_or]) (by unfold lab;simp only[aM];rw[zV (eD _ _ _ h1)];exact h2)
   | more _ h1 h2 ih=>exact .more ih (by simp only[nxt,h1,Bool.true_or]) (by unfold lab;simp only[aM];rw[zV (fE _ _ _ _ h1).2];exact h2)
  have B:∀{m p x},rel E a u m->Way E b (k+size a) m p x->Way E (cat a b) k u p x:=by
   intro m p x hr hw
   induction hw with
   | @one p1' v1' h1 h2 =>
    have h2':Go E (lab (cat a b) k p1') m v1':=by unfold lab;simp only[aM];rw[vW (eD _ _ _ h1).1];exact h2
    rcases(bQ a k _ _).1 hr with ⟨h3,rfl⟩ | ⟨p1,hw1,hl1⟩
    ·exact .one (by simp only[fst,h3,h1,Bool.true_and,Bool.or_true]) h2'
    ·exact .more (A hw1) (by simp only[nxt,hl1,h1,Bool.true_and,Bool.or_true]) h2'
   | more _ h1 h2 ih=>exact .more ih (by simp only[nxt,h1,Bool.true_or,Bool.or_true]) (by unfold lab;simp only[aM];rw[vW (fE _ _ _ _ h1).2.1];exact h2)
  have C:∀{p x},Way E (cat a b) k u p x->(p<k+size a->Way E a k u p x)/\(k+size a<=p->∃ m,rel E a u m/\Way E b (k+size a) m p x):=by
   intro p x hw
   induction hw with
   | @one p v1 h1 h2 =>
    unfold lab at h2;simp only[aM]at h2;simp only[fst,aF1,aD6]at h1;rcases h1 with h1 | ⟨h3,h1⟩
    ·have hi:=eD _ _ _ h1;rw[zV hi]at h2;exact⟨fun _=>.one h1 h2,fun h=>by omega⟩
    ·have hi:=eD _ _ _ h1;rw[vW hi.1]at h2;exact⟨fun h=>by omega,fun _=>⟨u,(bQ a k _ _).2 (.inl ⟨h3,rfl⟩),.one h1 h2⟩⟩
   | @more p q m1 v1 _ h1 h2 ih =>
    unfold lab at h2;simp only[aM]at h2;simp only[nxt,aF1,aD6]at h1;rcases h1 with (h1 | h1) | ⟨h3,h4⟩
    ·have hi:=fE _ _ _ _ h1;rw[zV hi.2]at h2;exact⟨fun _=>.more (ih.1 hi.1.2) h1 h2,fun h=>by omega⟩
    ·have hi:=fE _ _ _ _ h1;rw[vW hi.2.1]at h2;obtain⟨m,hm,a6⟩:=ih.2 hi.1.1;exact⟨fun h=>by omega,fun _=>⟨m,hm,.more a6 h1 h2⟩⟩
    ·have hi:=iC _ _ _ h3;have hj:=eD _ _ _ h4;rw[vW hj.1]at h2;exact⟨fun h=>by omega,fun _=>⟨m1,(bQ a k _ _).2 (.inr ⟨p,ih.1 hi.2,h3⟩),.one h4 h2⟩⟩
  constructor
  ·rintro⟨m,ha,hb⟩;rcases(bQ b (k+size a) _ _).1 hb with ⟨h1,rfl⟩ | ⟨p,hw,hl⟩
   ·rcases(bQ a k _ _).1 ha with ⟨h2,rfl⟩ | ⟨p,hw,hl⟩
    ·exact .inl ⟨by simp only[nul,h1,h2,Bool.and_true],rfl⟩
    ·exact .inr ⟨p,A hw,by simp only[lst,h1,hl,Bool.true_and,Bool.or_true]⟩
   ·exact .inr ⟨p,B ha hw,by simp only[lst,hl,Bool.true_or]⟩
  ·rintro(⟨h1,rfl⟩ | ⟨p,hw,hl⟩)
   ·simp only[nul,aD6]at h1;exact⟨u,(bQ a k _ _).2 (.inl ⟨h1.1,rfl⟩),(bQ b k _ _).2 (.inl ⟨h1.2,rfl⟩)⟩
   ·simp only[lst,aF1,aD6]at hl;rcases hl with hl | ⟨hn,hl⟩
    ·obtain⟨m,hm,a6⟩:=(C hw).2 (iC _ _ _ hl).1;exact⟨m,hm,(bQ b (k+size a) _ _).2 (.inr ⟨p,a6,hl⟩)⟩
    ·exact⟨v,(bQ a k _ _).2 (.inr ⟨p,(C hw).1 (iC _ _ _ hl).2,hl⟩),(bQ b k _ _).2 (.inl ⟨hn,rfl⟩)⟩
 | alt a b,k,u,v=>by
  have A:∀{p x},Way E a k u p x->Way E (alt a b) k u p x:=by
   intro p x hw
   induction hw with
   | one h1 h2=>exact .one (by simp only[fst,h1,Bool.true_or]) (by unfold lab;simp only[aM];rw[zV (eD _ _ _ h1)];exact h2)
   | more _ h1 h2 ih=>exact .more ih (by simp only[nxt,h1,Bool.true_or]) (by unfold lab;simp only[aM];rw[zV (fE _ _ _ _ h1).2];exact h2)
  have B:∀{p x},Way E b (k+size a) u p x->Way E (alt a b) k u p x:=by
   intro p x hw
   induction hw with
   | one h1 h2=>exact .one (by simp only[fst,h1,Bool.or_true]) (by unfold lab;simp only[aM];rw[vW (eD _ _ _ h1).1];exact h2)
   | more _ h1 h2 ih=>exact .more ih (by simp only[nxt,h1,Bool.or_true]) (by unfold lab;simp only[aM];rw[vW (fE _ _ _ _ h1).2.1];exact h2)
  have C:∀{p x},Way E (alt a b) k u p x->(p<k+size a->Way E a k u p x)/\(k+size a<=p->Way E b (k+size a) u p x):=by
   intro p x hw
   induction hw with
   | @one p v1 h1 h2 =>
    unfold lab at h2;simp only[aM]at h2;simp only[fst,aF1]at h1;rcases h1 with h1 | h1
    ·have hi:=eD _ _ _ h1;rw[zV hi]at h2;exact⟨fun _=>.one h1 h2,fun h=>by omega⟩
    ·have hi:=eD _ _ _ h1;rw[vW hi.1]at h2;exact⟨fun h=>by omega,fun _=>.one h1 h2⟩
   | @more p q m1 v1 _ h1 h2 ih =>
    unfold lab at h2;simp only[aM]at h2;simp only[nxt,aF1]at h1;rcases h1 with h1 | h1
    ·have hi:=fE _ _ _ _ h1;rw[zV hi.2]at h2;exact⟨fun _=>.more (ih.1 hi.1.2) h1 h2,fun h=>by omega⟩
    ·have hi:=fE _ _ _ _ h1;rw[vW hi.2.1]at h2;exact⟨fun h=>by omega,fun _=>.more (ih.2 hi.1.1) h1 h2⟩
  constructor
  ·rintro(h | h)
   ·rcases(bQ a k _ _).1 h with ⟨h1,rfl⟩ | ⟨p,hw,hl⟩
    ·exact .inl ⟨by simp only[nul,h1,Bool.true_or],rfl⟩
    ·exact .inr ⟨p,A hw,by simp only[lst,hl,Bool.true_or]⟩
   ·rcases(bQ b (k+size a) _ _).1 h with ⟨h1,rfl⟩ | ⟨p,hw,hl⟩
    ·exact .inl ⟨by simp only[nul,h1,Bool.or_true],rfl⟩
    ·exact .inr ⟨p,B hw,by simp only[lst,hl,Bool.or_true]⟩
  ·rintro(⟨h1,rfl⟩ | ⟨p,hw,hl⟩)
   ·simp only[nul,aF1]at h1;rcases h1 with h1 | h1
    ·exact .inl ((bQ a k _ _).2 (.inl ⟨h1,rfl⟩))
    ·exact .inr ((bQ b k _ _).2 (.inl ⟨h1,rfl⟩))
   ·simp only[lst,aF1]at hl;rcases hl with hl | hl
    ·exact .inl ((bQ a k _ _).2 (.inr ⟨p,(C hw).1 (iC _ _ _ hl).2,hl⟩))
    ·exact .inr ((bQ b (k+size a) _ _).2 (.inr ⟨p,(C hw).2 (iC _ _ _ hl).1,hl⟩))
end Go.Proofs.YtphjbbbnbmafnaaGreatDoor.RxM
namespace Go.Proofs.YtphjbbbnbmafnaaGreatDoor.RxM
def bl(w:Nat):List Nat:=(List.range 64).filter w.testBit
theorem NY(w:Nat):(bl w).Pairwise (· < ·):=List.Pairwise.sublist List.filter_sublist List.pairwise_lt_range
theorem CB{w p:Nat}:p∈bl w↔p<64/\w.testBit p=true:=by unfold bl;rw[List.mem_filter,List.mem_range]
theorem XN:bl 0=[]:=by unfold bl;simp
theorem IA:∀(l m:List Nat),l.Pairwise (· < ·)->m.Pairwise (· < ·)->(∀ x,x∈l↔x∈m)->l=m
 | [],[],_,_,_=>rfl
 | [],b::m,_,_,h=>absurd ((h b).2 (by simp)) (by simp)
 | a::l,[],_,_,h=>absurd ((h a).1 (by simp)) (by simp)
 | a::l,b::m,h1,h2,h=>by
  rw[aI2]at h1 h2;have e:a=b:=by
   have ha:=(h a).1 (by simp);have hb:=(h b).2 (by simp);rcases aF5.1 ha with e | e
   ·exact e
   ·rcases aF5.1 hb with e2 | e2
    ·exact e2.symm
    ·have:=h2.1 a e;have:=h1.1 b e2;omega
  subst e;refine congrArg (a :: ·) (IA l m h1.2 h2.2 fun x => ?_);constructor
  ·intro hx;rcases aF5.1 ((h x).1 (by simp[hx]))with e | e
   ·have:=h1.1 x hx;omega
   ·exact e
  ·intro hx;rcases aF5.1 ((h x).2 (by simp[hx]))with e | e
   ·have:=h2.1 x hx;omega
   ·exact e
theorem xZ(k m:Nat)(j:Nat):(2 ^ k*(2*m+1)).testBit j=(decide (k<=j)&&(2*m+1).testBit (j-k)):=by
 rw[Nat.testBit_two_pow_mul]
theorem UN(k m:Nat):2 ^ k*(2*m+1)-1=2 ^ k*(2*m)+(2 ^ k-1):=by
 have:0<2 ^ k:=Nat.two_pow_pos k;rw[Nat.mul_add,Nat.mul_one];omega
theorem XM(k m j:Nat):((2 ^ k*(2*m+1)) &&& (2 ^ k*(2*m+1)-1)).testBit j=((2 ^ k*(2*m+1)).testBit j&&decide (j≠k)):=by
 rw[Nat.testBit_and,UN,xZ,Nat.testBit_two_pow_mul_add _ (Nat.sub_lt (Nat.two_pow_pos k) Nat.one_pos)];by_cases h1:j<k
 ·rw[if_pos h1,decide_eq_false (by omega)];simp
 ·rw[if_neg h1,decide_eq_true (by omega:k<=j)];by_cases h2:j=k
  ·subst h2;simp
  ·obtain⟨d,rfl⟩:∃ d,j=k+(d+1):=⟨j-k-1,by omega⟩;rw[Nat.add_sub_cancel_left,decide_eq_true h2,Nat.testBit_succ,Nat.testBit_succ];have e1:(2*m+1) / 2=m:=by omega
   have e2:2*m / 2=m:=by omega
   rw[e1,e2];simp
theorem aAq(w k m:Nat)(hw:w=2 ^ k*(2*m+1))(hk:k<64):bl w=k::bl (w &&& (w-1)):=by
 have hb:∀ j,(w &&& (w-1)).testBit j=(w.testBit j&&decide (j≠k)):=fun j=>by rw[hw];exact XM k m j
 have h0:∀ j,w.testBit j=true->k<=j:=fun j hj=>by
  rw[hw,xZ]at hj;simp only[aD6,decide_eq_true_eq]at hj;exact hj.1
 have h1:w.testBit k=true:=by rw[hw,xZ];simp
 refine IA _ _ (NY w) ?_ fun x => ?_
 ·rw[aI2];refine⟨fun x hx => ?_,NY _⟩;rw[CB,hb]at hx;simp only[aD6,decide_eq_true_eq]at hx;have:=h0 x hx.2.1;omega
 ·rw[aF5,CB,CB,hb];simp only[aD6,decide_eq_true_eq];constructor
  ·rintro⟨h2,h3⟩;by_cases e:x=k
   ·exact .inl e
   ·exact .inr ⟨h2,h3,e⟩
  ·rintro(rfl | ⟨h2,h3,_⟩)
   ·exact⟨hk,h1⟩
   ·exact⟨h2,h3⟩
def M0(W:List Nat)(p:Nat):Bool:=(W.getD (p / 64) 0).testBit (p % 64)
def iG:List Nat->Nat->List Nat
 | [],_=>[]
 | w::W,i=>(bl w).map (64*i + ·)++iG W (i+1)
theorem uK:∀(W:List Nat) (i p:Nat),p∈iG W i↔64*i<=p/\M0 W (p-64*i)=true
 | [],i,p=>by simp[iG,M0]
 | w::W,i,p=>by
  rw[iG,aC9,List.mem_map,uK W (i+1) p];constructor
  ·rintro(⟨a,ha,rfl⟩ | ⟨h1,h2⟩)
   ·rw[CB]at ha;refine⟨by omega,?_⟩;unfold M0;rw[Nat.add_sub_cancel_left,Nat.div_eq_of_lt ha.1,Nat.mod_eq_of_lt ha.1];exact ha.2
   ·refine⟨by omega,?_⟩;unfold M0 at h2 ⊢;have e1:(p-64*i) / 64=(p-64*(i+1)) / 64+1:=by omega
    have e2:(p-64*i) % 64=(p-64*(i+1)) % 64:=by omega
    rw[e1,e2];exact h2
  ·rintro⟨h1,h2⟩;unfold M0 at h2;by_cases h:p<64*(i+1)
   ·have e1:(p-64*i) / 64=0:=by omega
    have e2:(p-64*i) % 64=p-64*i:=by omega
    rw[e1,e2]at h2;exact .inl ⟨p-64*i,CB.2 ⟨by omega,h2⟩,by omega⟩
   ·refine .inr ⟨by omega,?_⟩;unfold M0;have e1:(p-64*i) / 64=(p-64*(i+1)) / 64+1:=by omega
    have e2:(p-64*i) % 64=(p-64*(i+1)) % 64:=by omega
    rw[e1,e2]at h2;exact h2
end Go.Proofs.YtphjbbbnbmafnaaGreatDoor.RxM
namespace Go.Proofs.YtphjbbbnbmafnaaGreatDoor.G
open Go.RowKit Go.Shelf RxM
attribute [local go_sem] Oper.semAt_some
def wd(a b c d:Nat)(i:Nat):Nat:=[a,b,c,d].getD i 0
theorem wd_lt{a b c d:Nat}(ha:a<18446744073709551616)(hb:b<18446744073709551616)(hc:c<18446744073709551616)(hd:d<18446744073709551616)(i:Nat):wd a b c d i<18446744073709551616:=by
 unfold wd
 match i with
 | 0=>exact ha
 | 1=>exact hb
 | 2=>exact hc
 | 3=>exact hd
 | i+4=>simp
def jE(a b c d i:Nat):List Nat:=iG ([a,b,c,d].take i) 0
theorem nW:∀(V U:List Nat) (i:Nat),iG (V++U) i=iG V i++iG U (i+V.length)
 | [],U,i=>rfl
 | v::V,U,i=>by
  rw[aG9,iG,iG,nW V U (i+1),aD3,aE7,Nat.add_right_comm,<-Nat.add_assoc]
theorem DW(a b c d i:Nat)(hi:i<4):jE a b c d (i+1)=jE a b c d i++(bl (wd a b c d i)).map (64*i + ·):=by
 have h:[a,b,c,d][i]?=some (wd a b c d i):=by
  unfold wd;rw[aC1,A7 (by simpa using hi)];rfl
 unfold jE;rw[aE0,h,aH4,nW,aD7];simp only[iG,aE4,aG1,aE7,aI3];rw[aI0 (by omega)]
theorem UM(a b c d i:Nat):∃ R,jE a b c d 4=jE a b c d i++R:=by
 refine⟨iG ([a,b,c,d].drop i) (0+([a,b,c,d].take i).length),?_⟩;unfold jE;rw[<-nW,aD5];rfl
theorem SX(a b c d i:Nat)(hi:i<4)(y:Nat)(hy:wd a b c d i=y)(dn:List Nat)(k:Nat)(r:List Nat)(h:bl y=dn++k::r):(64*i+k)∈jE a b c d 4/\(jE a b c d i++dn.map (64*i + ·)).length<(jE a b c d 4).length:=by
 obtain⟨R,hR⟩:=UM a b c d (i+1);rw[DW a b c d i hi,hy,h,aJ3,aJ4]at hR;rw[hR];refine⟨by simp,by simp⟩
theorem EJ(x:Nat)(h:x≠0):x &&& (x-1)<x:=aK8 Nat.and_le_right (by omega)
theorem LY(n l Bs n₀ a b c d:Nat)(ha:a<18446744073709551616)(hb:b<18446744073709551616)(hc:c<18446744073709551616)(hd:d<18446744073709551616)(J Jx:List Nat->World->Prop)
 (W:World) (h0n:0<n₀) (hT:oL W)
 (hY:∀ pre (x:Nat) W,J pre W->x∈jE a b c d 4->pre.length<(jE a b c d 4).length->YieldAt Fence.wide (n-1) Tryz.prog l #[.int .i64 (x:Int)] W fun e W' =>
  (e = .returned (.bool true)/\J (pre++[x]) W'/\Below n₀ W W')\/(e = .returned (.bool false)/\Jx (pre++[x]) W'))
 (c0:W.cell? ⟨Bs,0,none⟩=some (.int .u64 (a:Int))) (c1:W.cell? ⟨Bs,1,none⟩=some (.int .u64 (b:Int))) (c2:W.cell? ⟨Bs,2,none⟩=some (.int .u64 (c:Int))) (c3:W.cell? ⟨Bs,3,none⟩=some (.int .u64 (d:Int))) (h0:J [] W) :
 CallsIn Fence.wide n Tryz.prog 197 #[.func (.yield l) #[] #[],.pointer (some ⟨Bs,0,none⟩)] W fun e W'=>(∃ v,e = .returned v) /\
  ((∃ ys,ys=jE a b c d 4/\J ys W')\/(∃ pre,Jx pre W')):=by
 have a5:∀ i:Nat,i<4->∀ w,(Instr.index 135 (.agg #[.int .u64 (a:Int),.int .u64 (b:Int),.int .u64 (c:Int),.int .u64 (d:Int)]) (.int .i64 (i:Int))).run Tryz.prog w = .ok (.int .u64 (wd a b c d i:Int)) w:=fun i hi=>by
  rcases(show i=0\/i=1\/i=2\/i=3 by omega)with rfl | rfl | rfl | rfl <;> exact fun _=>by kernel_rfl
 have HId:Hid _:=a5;have HT:Hid _:=hT;have HY:Hid _:=hY;have Hw:Hid _:=wd_lt ha hb hc hd;clear a5 hT hY ha hb hc hd;refine callsIn_of_wp Tryz.func197 rfl trivial ?_ rfl;simp only[Tryz.ntmps197,aL4,aE7,aI3,Nat.reduceAdd,Nat.reduceSub,aI8,Array.replicate_zero,List.push_toArray,List.append_toArray,aJ2,aG9];gi_wp2;gi_loopw [6] (fun si wr=>∃ i:Nat,i<=4/\si = .int .i64 (i:Int)/\Hid (J (jE a b c d i) wr/\Below n₀ W wr)) (fun si _=>4-(intOf si).toNat)
 case atStart=>exact⟨0,aC6 _,rfl,⟨h0,YQ _ _⟩⟩
 case round =>
  obtain⟨i,hi,rfl,HI⟩:=hrel;by_cases hlt:i<4
  ·have hx:=HId.out i hlt;have hiI:(i:Int)<4:=by omega
   have hw:=Hw.out i;have HSt:Hid _:=DW a b c d i hlt;have a2:Hid _:=SX a b c d i hlt;obtain⟨y,a9⟩:∃ y,wd a b c d i=y:=⟨_,rfl⟩;rw[a9]at hx hw HSt;have HYw:Hid _:=a9;clear a9;gi_wp2;gi_loopw [4] (fun s4 wr=>∃(x:Nat) (dn:List Nat),x<18446744073709551616/\s4 = .int .u64 (x:Int)/\Hid (bl y=dn++bl x/\J (jE a b c d i++dn.map (64*i + ·)) wr/\Below n₀ W wr)) (fun s4 _=>(intOf s4).toNat)
   case atStart=>exact⟨y,[],hw,rfl,⟨rfl,by simpa using HI.out.1,HI.out.2⟩⟩
   case round =>
    obtain⟨x,dn,a8,rfl,a1⟩:=hrel;by_cases hx0:x=0
    ·subst hx0;have HD:Hid (J (jE a b c d (i+1)) wr/\Below n₀ W wr):=(by
      obtain⟨e1,e2,e3⟩:=a1.out;rw[XN,aE4]at e1;rw[HSt.out,e1];exact⟨e2,e3⟩:_/\_)
     rw[show((0:Nat):Int)=0 from rfl];gi_wp2;go_roundw;case rel=>exact⟨i+1,by omega,by simp,HD.out⟩
     case measure=>simp[intOf];omega
    ·have hxI:¬(x:Int)=0:=by omega
     obtain⟨m,hm,hk⟩:=U7 x hx0 a8;have a4:=aAq x _ m hm hk;have HTz:Hid (CallsIn Fence.wide (n-1) Tryz.prog 198 #[.int .u64 (x:Int)] wr _):=(callsIn_wide.2 (aAo x hx0 a8 wr (fun j hj=>(a1.out.2.2.cell (p:=⟨0,j,none⟩) h0n).trans (HT.out j hj))):CallsIn _ _ _ _ _ _ _);generalize Lib.ctz 64 x=k at a4 HTz hk;have e1:IntKind.u64.wrap ((x:Int)-1)=((x-1:Nat):Int):=by rw[IntKind.wrap_u64];omega
     have e2:=u64_and_nat x (x-1) a8 (by omega);have a7:x &&& (x-1)<x:=EJ x hx0;obtain⟨v,hv⟩:∃ v:Nat,v=64*i+k:=⟨_,rfl⟩;obtain⟨fn,tmps,assign,a3,hy,hR⟩:=HY.out _ v wr a1.out.2.1 (by rw[hv];exact(a2.out y HYw.out dn k _ (by rw[a1.out.1,a4])).1) (a2.out y HYw.out dn k _ (by rw[a1.out.1,a4])).2;have HN:Hid (bl y=(dn++[k])++bl (x &&& (x-1))/\jE a b c d i++dn.map (64*i + ·)++[v]=jE a b c d i++(dn++[k]).map (64*i + ·)):=(⟨by rw[a1.out.1,a4,aD3];rfl,by rw[hv,aJ3,aD3];rfl⟩:_/\_);have HB2:Hid _:=a1.out.2.2;have em:(i:Int)*64+(k:Int)=(v:Int):=by omega
     clear a4 hm a1 hv;generalize x &&& (x-1)=x' at e2 a7 HN;gi_wp2_with fail
     refine⟨trivial,(fun h=>by cases h),HTz.out.mono ?_⟩;rintro e w1 ⟨rfl,hw1⟩;rw[hw1];clear hw1 w1;gi_wp2;refine⟨(fun h=>by cases h),hR.mono ?_⟩;rintro e W3 (⟨rfl,hJ3,hk3⟩ | ⟨rfl,hJx3⟩)
     ·have HN2:Hid _:=(⟨HN.out.1,by rw[<-HN.out.2];exact hJ3,HB2.out.trans hk3⟩:bl y=(dn++[k])++bl x'/\J (jE a b c d i++(dn++[k]).map (64*i + ·)) W3/\Below n₀ W W3);clear hJ3 hk3;gi_wp2;go_roundw;case rel=>exact⟨x',dn++[k],by omega,rfl,HN2.out⟩
      case measure=>simp[intOf];omega
     ·gi_wp2;refine bodyPost_ret (results_none rfl _ _ _) rfl ?_;exact⟨⟨_,rfl⟩,.inr ⟨_,hJx3⟩⟩
  ·obtain rfl:i=4:=by omega
   gi_wp2;go_end0;exact⟨⟨_,rfl⟩,.inl ⟨_,rfl,HI.out.1⟩⟩
theorem qY(n Bs n₀ a b c d:Nat)(ha:a<18446744073709551616)(hb:b<18446744073709551616)(hc:c<18446744073709551616)(hd:d<18446744073709551616)(w:World)(h0n:0<n₀)(hT:oL w)
 (hrow:w.heap[Bs]?=some (.cells #[.int .u64 (a:Int),.int .u64 (b:Int),.int .u64 (c:Int),.int .u64 (d:Int)] 135 (0,0))) :
 SeqStopsK Fence.wide n Tryz.prog 197 #[.pointer (some ⟨Bs,0,none⟩)] (fun x:{ x:Nat // x∈jE a b c d 4 }=>#[.int .i64 (x.1:Int)]) (Below n₀) (fun ys=>ys.map (·.1)=jE a b c d 4) (fun _=>True) (jE a b c d 4).length w:=fun l J Jx W hW _ _ hY h0=>by
 obtain⟨⟨c0,c1,c2,c3⟩,_⟩:=dO hrow;refine(LY n l Bs n₀ a b c d ha hb hc hd (fun pre W=>∃ a0,a0.map (·.1)=pre/\J a0 W) (fun pre W=>∃ a0,a0.map (·.1)=pre/\Jx a0 W) W h0n (hT.below hW) (fun pre x W1 hp hx hl => ?_) (cell_kept hW _ _ c0) (cell_kept hW _ _ c1) (cell_kept hW _ _ c2) (cell_kept hW _ _ c3) ⟨[],rfl,h0⟩).mono ?_
 ·obtain⟨a0,rfl,hj⟩:=hp;rw[aH6]at hl;obtain⟨fn,tmps,assign,a3,hy,hR⟩:=hY a0 ⟨x,hx⟩ W1 hj hl;refine⟨fn,tmps,assign,a3,hy,hR.mono ?_⟩;rintro e W' (⟨rfl,h1,h2⟩ | ⟨rfl,h1⟩)
  ·exact .inl ⟨rfl,⟨_,by rw[aJ3];rfl,h1⟩,h2⟩
  ·exact .inr ⟨rfl,_,by rw[aJ3];rfl,h1⟩
 ·rintro e W' ⟨h1,⟨ys,rfl,a0,h2,h3⟩ | ⟨pre,a0,_,h3⟩⟩
  ·exact⟨h1,.inl ⟨a0,h2,h3⟩⟩
  ·exact⟨h1,.inr ⟨a0,trivial,h3⟩⟩
end Go.Proofs.YtphjbbbnbmafnaaGreatDoor.G
