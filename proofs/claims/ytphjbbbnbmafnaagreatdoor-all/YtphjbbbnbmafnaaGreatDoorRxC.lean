/- Parts: RxW RxF RxT RxL RxC. -/
import Derived.Test.YtphjbbbnbmafnaaGreatDoorXIt
import Derived.Test.YtphjbbbnbmafnaaGreatDoorRxP
namespace Go.Proofs.YtphjbbbnbmafnaaGreatDoor.RxM
open Rx
section
variable (bh:Nat->Nat->Bool) (tk:Nat->Nat->Bool) (E:Nat->Nat->Nat->Prop) (u:Nat)
inductive Rc:Nat->Nat->Prop
 | start:Rc 0 u
 | more {p q m c v:Nat}:Rc p m->bh p q=true->E m c v->tk c q=true->Rc q v
structure Inv (n:Nat) (seen fresh:Nat->Nat->Bool) (wait:List Nat) (X:Nat->Nat->Nat->Nat->Prop):Prop where
 start:seen u 0=true
 sound:∀ v p,seen v p=true->Rc bh tk E u p v
 closed:∀ m p,seen m p=true->fresh m p=false->∀ q c v,bh p q=true->E m c v->tk c q=true->seen v q=true\/X m p c v
 sub:∀ v p,fresh v p=true->seen v p=true
 wt:∀ v,v∈wait↔∃ p,fresh v p=true
 nodup:wait.Nodup
 lt:∀ v∈wait,v<n
end
variable {bh:Nat->Nat->Bool} {tk:Nat->Nat->Bool} {E:Nat->Nat->Nat->Prop} {u:Nat}
def upd(f:Nat->Nat->Bool)(v:Nat)(g:Nat->Bool):Nat->Nat->Bool:=fun x p=>if x=v then g p else f x p
theorem QI{n:Nat}{seen fresh:Nat->Nat->Bool}(h:Inv bh tk E u n seen fresh [] (fun _ _ _ _=>False))(v p:Nat):seen v p=true↔Rc bh tk E u p v:=by
 refine⟨h.sound v p,fun hr => ?_⟩;have hf:∀ x y,fresh x y=false:=fun x y=>by
  cases e:fresh x y with
  | false=>rfl
  | true=>exact absurd ((h.wt x).2 ⟨y,e⟩) (by simp)
 induction hr with
 | start=>exact h.start
 | more _ h1 h2 h3 ih=>exact(h.closed _ _ ih (hf _ _) _ _ _ h1 h2 h3).resolve_right id
theorem sJ{n:Nat}{seen fresh:Nat->Nat->Bool}{wait:List Nat}{X Y:Nat->Nat->Nat->Nat->Prop}(h:Inv bh tk E u n seen fresh wait X)(hX:∀ m p q c v,seen m p=true->fresh m p=false->bh p q=true->E m c v->tk c q=true->X m p c v->seen v q=true\/Y m p c v):Inv bh tk E u n seen fresh wait Y :=
 ⟨h.start,h.sound,fun m p h1 h2 q c v h3 h4 h5=>(h.closed m p h1 h2 q c v h3 h4 h5).elim .inl (hX m p q c v h1 h2 h3 h4 h5),h.sub,h.wt,h.nodup,h.lt⟩
theorem SL{n:Nat}{seen fresh:Nat->Nat->Bool}{wait wait':List Nat}{X Y:Nat->Nat->Nat->Nat->Prop}(h:Inv bh tk E u n seen fresh wait X)(v:Nat)(at_:Nat->Bool)(hv:v<n)(hr:∀ q,at_ q=true->Rc bh tk E u q v)(a0:∃ q,at_ q=true/\seen v q=false)
 (b:Bool) (hb:b=true↔∀ p,fresh v p=false) (hw:wait'=if b=true then wait++[v]else wait)
 (hX:∀ m p q c v1,bh p q=true->tk c q=true->E m c v1->X m p c v1->(v1=v/\at_ q=true)\/Y m p c v1) :
 Inv bh tk E u n (upd seen v fun p=>seen v p||at_ p) (upd fresh v fun p=>fresh v p||(at_ p && !seen v p)) wait' Y:=by
 have mono:∀ x p,seen x p=true->upd seen v (fun p=>seen v p||at_ p) x p=true:=fun x p hp=>by
  unfold upd;split
  ·rename_i e;subst e;simp[hp]
  ·exact hp
 refine⟨mono _ _ h.start,fun x p hp => ?_,fun m p h1 h2 q c v1 h3 h4 h5 => ?_,fun x p hp => ?_,fun x => ?_,?_,?_⟩
 ·unfold upd at hp;split at hp
  ·rename_i e;subst e;simp only[aF1]at hp;exact hp.elim (h.sound _ _) (hr _)
  ·exact h.sound _ _ hp
 ·have h6:seen m p=true/\fresh m p=false:=by
   unfold upd at h1 h2;split at h1
   ·rename_i e;subst e;rw[if_pos rfl]at h2;simp only[aF1]at h1;simp only[Bool.or_eq_false_iff,aK4,Bool.not_eq_false']at h2;refine⟨h1.elim id fun ha=>h2.2.elim (fun hb=>by rw[ha]at hb;simp at hb) id,h2.1⟩
   ·rename_i e;rw[if_neg e]at h2;exact⟨h1,h2⟩
  rcases h.closed m p h6.1 h6.2 q c v1 h3 h4 h5 with h7 | h7
  ·exact .inl (mono _ _ h7)
  ·rcases hX m p q c v1 h3 h5 h4 h7 with ⟨rfl,h8⟩ | h8
   ·exact .inl (by unfold upd;rw[if_pos rfl];simp[h8])
   ·exact .inr h8
 ·unfold upd at hp ⊢;split at hp
  ·rename_i e;subst e;rw[if_pos rfl];simp only[aF1,aD6]at hp ⊢;exact hp.elim (fun h1=>.inl (h.sub _ _ h1)) (fun h1=>.inr h1.1)
  ·rename_i e;rw[if_neg e];exact h.sub _ _ hp
 ·obtain⟨q,a2,a5⟩:=a0;by_cases e:x=v
  ·subst e;constructor
   ·intro _;exact⟨q,by unfold upd;rw[if_pos rfl];simp[a2,a5]⟩
   ·intro _;rw[hw];split
    ·simp
    ·rename_i hn;rw[h.wt];refine Classical.byContradiction fun hc=>hn (hb.2 fun p => ?_);cases e:fresh x p with
     | false=>rfl
     | true=>exact absurd ⟨p,e⟩ hc
  ·have e1:(x∈wait')↔x∈wait:=by
    rw[hw];split
    ·simp[e]
    ·exact Iff.rfl
   rw[e1,h.wt];unfold upd;simp only[if_neg e]
 ·rw[hw];split
  ·rename_i hn;refine List.nodup_append.2 ⟨h.nodup,by simp,?_⟩;intro a ha b hb;simp only[aF8]at hb;subst hb;intro e;subst e;obtain⟨p,hp⟩:=(h.wt a).1 ha;rw[hb.1 hn p]at hp;simp at hp
  ·exact h.nodup
 ·intro x hx;rw[hw]at hx;split at hx
  ·simp only[aC9,aF8]at hx;exact hx.elim (h.lt x) (fun e=>by rw[e];exact hv)
  ·exact h.lt x hx
theorem X0{n:Nat}{seen fresh:Nat->Nat->Bool}{wait:List Nat}{x:Nat}(h:Inv bh tk E u n seen fresh (wait++[x]) (fun _ _ _ _=>False)):
 Inv bh tk E u n seen (upd fresh x fun _=>false) wait (fun m p c v=>m=x/\fresh x p=true/\E x c v):=by
 have hnd:=List.nodup_append.1 h.nodup;have hx:x∉wait:=fun hm=>hnd.2.2 x hm x (by simp) rfl;refine⟨h.start,h.sound,fun m p h1 h2 q c v h3 h4 h5 => ?_,fun v p hp => ?_,fun v => ?_,hnd.1,fun v hv=>h.lt v (by simp[hv])⟩
 ·by_cases e:m=x
  ·subst e;cases hf:fresh m p with
   | true=>exact .inr ⟨rfl,rfl,h4⟩
   | false=>exact .inl ((h.closed m p h1 hf q c v h3 h4 h5).resolve_right id)
  ·unfold upd at h2;rw[if_neg e]at h2;exact .inl ((h.closed m p h1 h2 q c v h3 h4 h5).resolve_right id)
 ·unfold upd at hp;split at hp
  ·simp at hp
  ·exact h.sub v p hp
 ·by_cases e:v=x
  ·subst e;refine⟨fun hv=>absurd hv hx,fun⟨p,hp⟩ => ?_⟩;unfold upd at hp;rw[if_pos rfl]at hp;simp at hp
  ·unfold upd;simp only[if_neg e];rw[<-h.wt v];simp[e]
def unseen(seen:Nat->Nat->Bool)(n P:Nat):Nat:=((List.range n).map fun v=>((List.range P).filter fun p => !seen v p).length).sum
theorem O6(f g:Nat->Bool)(l:List Nat)(h:∀ p∈l,f p=true->g p=true):(l.filter f).length<=(l.filter g).length:=by
 induction l with
 | nil=>simp
 | cons a l ih =>
  have:=ih fun p hp=>h p (by simp[hp]);simp only[aG8];cases hf:f a with
  | true=>rw[h a (by simp) hf];simp;exact this
  | false =>
   cases g a with
   | true=>simp;omega
   | false=>simpa using this
theorem ZC(f g:Nat->Bool)(l:List Nat)(h:∀ p∈l,f p=true->g p=true)(x:Nat)(hx:x∈l)(hf:f x=false)(hg:g x=true):(l.filter f).length<(l.filter g).length:=by
 induction l with
 | nil=>simp at hx
 | cons a l ih =>
  simp only[aG8];rcases aF5.1 hx with e | e
  ·subst e;rw[hf,hg];simp only[if_true];have:=O6 f g l fun p hp=>h p (by simp[hp]);simp;omega
  ·have:=ih (fun p hp=>h p (by simp[hp])) e;cases hfa:f a with
   | true=>rw[h a (by simp) hfa];simp;exact this
   | false =>
    cases g a with
    | true=>simp;omega
    | false=>simpa using this
theorem aAv(f g:Nat->Nat)(l:List Nat)(h:∀ v∈l,f v<=g v):(l.map f).sum<=(l.map g).sum:=by
 induction l with
 | nil=>simp
 | cons a l ih =>
  have:=ih fun v hv=>h v (by simp[hv]);have:=h a (by simp);simp;omega
theorem sum_lt(f g:Nat->Nat)(l:List Nat)(h:∀ v∈l,f v<=g v)(x:Nat)(hx:x∈l)(hl:f x<g x):(l.map f).sum<(l.map g).sum:=by
 induction l with
 | nil=>simp at hx
 | cons a l ih =>
  rcases aF5.1 hx with e | e
  ·subst e;have:=aAv f g l fun v hv=>h v (by simp[hv]);simp;omega
  ·have:=ih (fun v hv=>h v (by simp[hv])) e;have:=h a (by simp);simp;omega
theorem D9{seen seen':Nat->Nat->Bool}{n P:Nat}(h:∀ v p,seen v p=true->seen' v p=true)(v p:Nat)(hv:v<n)(hp:p<P)(h0:seen v p=false)(h1:seen' v p=true):unseen seen' n P<unseen seen n P:=by
 unfold unseen;have hh:∀ v p,(!seen' v p)=true->(!seen v p)=true:=fun v p hp=>by
  cases e:seen v p with
  | false=>rfl
  | true=>rw[h v p e]at hp;simp at hp
 exact sum_lt _ _ _ (fun v _=>O6 _ _ _ fun p _=>hh v p) v (List.mem_range.2 hv) (ZC _ _ _ (fun p _=>hh v p) p (List.mem_range.2 hp) (by simp[h1]) (by simp[h0]))
def bh0(t:Rx)(p q:Nat):Bool:=if p=0 then fst t 1 q else nxt t 1 p q
def tk0(t:Rx)(c q:Nat):Bool:=decide (1<=q)&&decide (q<1+size t)&&takes (lab t 1 q) c
def en0(t:Rx)(p:Nat):Bool:=lst t 1 p||(nul t&&p == 0)
theorem aB3{t:Rx}{p q:Nat}(h:bh0 t p q=true):1<=q/\q<1+size t:=by
 unfold bh0 at h;split at h
 ·exact eD _ _ _ h
 ·exact(fE _ _ _ _ h).2
theorem aAs{t:Rx}{p v:Nat}(h:Rc (bh0 t) (tk0 t) E u p v):(p=0/\v=u)\/(1<=p/\Way E t 1 u p v):=by
 induction h with
 | start=>exact .inl ⟨rfl,rfl⟩
 | @more p q m c v _ h1 h2 h3 ih =>
  have hq:=aB3 h1;have hg:Go E (lab t 1 q) m v:=⟨c,by unfold tk0 at h3;simp only[aD6]at h3;exact h3.2,h2⟩;rcases ih with ⟨rfl,rfl⟩ | ⟨hp,hw⟩
  ·exact .inr ⟨hq.1,.one h1 hg⟩
  ·unfold bh0 at h1;rw[if_neg (by omega)]at h1;exact .inr ⟨hq.1,.more hw h1 hg⟩
theorem aAw{t:Rx}{p v:Nat}(h:Way E t 1 u p v):Rc (bh0 t) (tk0 t) E u p v:=by
 induction h with
 | @one p v h1 h2 =>
  obtain⟨c,hc,he⟩:=h2;have:=eD _ _ _ h1;exact .more .start (p:=0) (by unfold bh0;rw[if_pos rfl];exact h1) he (by unfold tk0;simp[hc];omega)
 | @more p q m v hw h1 h2 ih =>
  obtain⟨c,hc,he⟩:=h2;have:=fE _ _ _ _ h1;exact .more ih (by unfold bh0;rw[if_neg (by omega)];exact h1) he (by unfold tk0;simp[hc];omega)
theorem aB0{t:Rx}{v:Nat}:(∃ p,Rc (bh0 t) (tk0 t) E u p v/\en0 t p=true)↔rel E t u v:=by
 rw[bQ t 1 u v];constructor
 ·rintro⟨p,hr,he⟩;unfold en0 at he;simp only[aF1,aD6,beq_iff_eq]at he;rcases aAs hr with ⟨rfl,rfl⟩ | ⟨hp,hw⟩
  ·rcases he with he | he
   ·have:=iC _ _ _ he;omega
   ·exact .inl ⟨he.1,rfl⟩
  ·rcases he with he | he
   ·exact .inr ⟨p,hw,he⟩
   ·omega
 ·rintro(⟨hn,rfl⟩ | ⟨p,hw,hl⟩)
  ·exact⟨0,.start,by unfold en0;simp[hn]⟩
  ·exact⟨p,aAw hw,by unfold en0;simp[hl]⟩
end Go.Proofs.YtphjbbbnbmafnaaGreatDoor.RxM
namespace Go.Proofs.YtphjbbbnbmafnaaGreatDoor.RxM
open Rx
def aW:Rx->Nat->List Nat
 | void,_=>[] | eps,_=>[]
 | sym _,k=>[k]
 | star t,k=>aW t k
 | cat a b,k=>aW a k++(if nul a then aW b (k+size a)else [])
 | alt a b,k=>aW a k++aW b (k+size a)
def lasts:Rx->Nat->List Nat
 | void,_=>[] | eps,_=>[]
 | sym _,k=>[k]
 | star t,k=>lasts t k
 | cat a b,k=>(if nul b then lasts a k else [])++lasts b (k+size a)
 | alt a b,k=>lasts a k++lasts b (k+size a)
theorem gJ:∀(t:Rx) (k p:Nat),p∈aW t k↔fst t k p=true
 | void,_,_=>by simp[aW,fst]
 | eps,_,_=>by simp[aW,fst]
 | sym _,_,_=>by simp[aW,fst]
 | star t,k,p=>gJ t k p
 | cat a b,k,p=>by
  simp only[aW,fst,aC9,aF1,aD6];rw[gJ a k p];cases nul a <;> simp[gJ b]
 | alt a b,k,p=>by
  simp only[aW,fst,aC9,aF1];rw[gJ a k p,gJ b]
theorem fI:∀(t:Rx) (k p:Nat),p∈lasts t k↔lst t k p=true
 | void,_,_=>by simp[lasts,lst]
 | eps,_,_=>by simp[lasts,lst]
 | sym _,_,_=>by simp[lasts,lst]
 | star t,k,p=>fI t k p
 | cat a b,k,p=>by
  simp only[lasts,lst,aC9,aF1,aD6];rw[fI b];cases nul b <;> simp[fI a,or_comm]
 | alt a b,k,p=>by
  simp only[lasts,lst,aC9,aF1];rw[fI a k p,fI b]
theorem cZ:∀(t:Rx) (k:Nat),(aW t k).length<=size t
 | void,_=>by simp[aW,size]
 | eps,_=>by simp[aW,size]
 | sym _,_=>by simp[aW,size]
 | star t,k=>cZ t k
 | cat a b,k=>by
  have h1:=cZ a k;have h2:=cZ b (k+size a);simp only[aW,size,WT];split <;> simp <;> omega
 | alt a b,k=>by
  have h1:=cZ a k;have h2:=cZ b (k+size a);simp only[aW,size,WT];omega
theorem dY:∀(t:Rx) (k:Nat),(lasts t k).length<=size t
 | void,_=>by simp[lasts,size]
 | eps,_=>by simp[lasts,size]
 | sym _,_=>by simp[lasts,size]
 | star t,k=>dY t k
 | cat a b,k=>by
  have h1:=dY a k;have h2:=dY b (k+size a);simp only[lasts,size,WT];split <;> simp <;> omega
 | alt a b,k=>by
  have h1:=dY a k;have h2:=dY b (k+size a);simp only[lasts,size,WT];omega
def nx(t:Rx)(p q:Nat):Bool:=if p=size t then fst t 0 q else nxt t 0 p q
section
variable (E:Nat->Nat->Nat->Prop) (t:Rx) (u:Nat)
structure Bfs (spots:List (Nat×Nat)) (seen:Nat->Nat->Bool) (i:Nat) (X:Nat->Nat->Nat->Nat->Nat->Prop):Prop where
 zero:spots[0]?=some (size t,u)
 sound:∀ q v,seen q v=true->Way E t 0 u q v
 here:∀ q v,seen q v=true->(q,v)∈spots
 there:∀ x∈spots,x=(size t,u)\/seen x.1 x.2=true
 closed:∀ j p m,j<i->spots[j]?=some (p,m)->∀ q c v,nx t p q=true->E m c v->takes (lab t 0 q) c=true->seen q v=true\/X p m q c v
end
variable {E:Nat->Nat->Nat->Prop} {t:Rx} {u:Nat}
theorem Bfs.way{spots:List (Nat×Nat)}{seen:Nat->Nat->Bool}{i:Nat}{X:Nat->Nat->Nat->Nat->Nat->Prop}(h:Bfs E t u spots seen i X){p m q c v:Nat}(hs:(p,m)∈spots)(hn:nx t p q=true)(he:E m c v)(ht:takes (lab t 0 q) c=true):Way E t 0 u q v:=by
 rcases h.there _ hs with e | e
 ·injection e with e1 e2;subst e1 e2;unfold nx at hn;rw[if_pos rfl]at hn;exact .one hn ⟨c,ht,he⟩
 ·have hw:=h.sound _ _ e;have:=hw.in;unfold nx at hn;rw[if_neg (by omega)]at hn;exact .more hw hn ⟨c,ht,he⟩
theorem YA{spots:List (Nat×Nat)}{seen:Nat->Nat->Bool}(h:Bfs E t u spots seen spots.length (fun _ _ _ _ _=>False))(q v:Nat):seen q v=true↔Way E t 0 u q v:=by
 refine⟨h.sound q v,fun hw => ?_⟩
 induction hw with
 | @one p v h1 h2 =>
  obtain⟨c,hc,he⟩:=h2;exact(h.closed 0 (size t) u (aC4.1 h.zero).1 h.zero p c v (by unfold nx;rw[if_pos rfl];exact h1) he hc).resolve_right id
 | @more p q m v hw h1 h2 ih =>
  obtain⟨c,hc,he⟩:=h2;obtain⟨j,hj⟩:=List.getElem?_of_mem (h.here _ _ ih);have:=hw.in;exact(h.closed j p m (aC4.1 hj).1 hj q c v (by unfold nx;rw[if_neg (by omega)];exact h1) he hc).resolve_right id
theorem ZV{spots:List (Nat×Nat)}{seen:Nat->Nat->Bool}{i:Nat}{X Y:Nat->Nat->Nat->Nat->Nat->Prop}(h:Bfs E t u spots seen i X)(hi:i<=spots.length)(q v:Nat)(hw:Way E t 0 u q v)(hX:∀ p m q1 c v1,X p m q1 c v1->(q1=q/\v1=v)\/Y p m q1 c v1):
 Bfs E t u (spots++[(q,v)]) (upd seen q fun x=>seen q x||x == v) i Y:=by
 have mono:∀ q1 x,seen q1 x=true->upd seen q (fun x=>seen q x||x == v) q1 x=true:=fun q1 x hx=>by
  unfold upd;split
  ·rename_i e;subst e;simp[hx]
  ·exact hx
 have new:upd seen q (fun x=>seen q x||x == v) q v=true:=by unfold upd;simp
 have inv:∀ q1 x,upd seen q (fun x=>seen q x||x == v) q1 x=true->seen q1 x=true\/(q1=q/\x=v):=fun q1 x hx=>by
  unfold upd at hx;split at hx
  ·rename_i e;subst e;simp only[aF1,beq_iff_eq]at hx;exact hx.elim .inl (fun e=>.inr ⟨rfl,e⟩)
  ·exact .inl hx
 refine⟨?_,fun q1 x hx => ?_,fun q1 x hx => ?_,fun x hx => ?_,fun j p m hj hs q1 c v1 h1 h2 h3 => ?_⟩
 ·rw[aD4 (aC4.1 h.zero).1];exact h.zero
 ·rcases inv q1 x hx with e | ⟨rfl,rfl⟩
  ·exact h.sound _ _ e
  ·exact hw
 ·rcases inv q1 x hx with e | ⟨rfl,rfl⟩
  ·exact aC9.2 (.inl (h.here _ _ e))
  ·simp
 ·rcases aC9.1 hx with e | e
  ·rcases h.there x e with e | e
   ·exact .inl e
   ·exact .inr (mono _ _ e)
  ·simp only[aF8]at e;subst e;exact .inr new
 ·rw[aD4 (by omega)]at hs;rcases h.closed j p m hj hs q1 c v1 h1 h2 h3 with e | e
  ·exact .inl (mono _ _ e)
  ·rcases hX p m q1 c v1 e with ⟨rfl,rfl⟩ | e
   ·exact .inl new
   ·exact .inr e
theorem IX{spots:List (Nat×Nat)}{seen:Nat->Nat->Bool}{i:Nat}{X Y:Nat->Nat->Nat->Nat->Nat->Prop}(h:Bfs E t u spots seen i X)(hX:∀ p m q c v,nx t p q=true->E m c v->takes (lab t 0 q) c=true->X p m q c v->seen q v=true\/Y p m q c v):Bfs E t u spots seen i Y :=
 ⟨h.zero,h.sound,h.here,h.there,fun j p m hj hs q c v h1 h2 h3=>(h.closed j p m hj hs q c v h1 h2 h3).elim .inl (hX p m q c v h1 h2 h3)⟩
theorem SG{spots:List (Nat×Nat)}{seen:Nat->Nat->Bool}{i p m:Nat}(h:Bfs E t u spots seen i (fun _ _ _ _ _=>False))(hs:spots[i]?=some (p,m)):
 Bfs E t u spots seen (i+1) (fun p1 m1 q c v=>p1=p/\m1=m/\nx t p q=true/\E m c v/\takes (lab t 0 q) c=true) :=
 ⟨h.zero,h.sound,h.here,h.there,fun j p1 m1 hj hs1 q c v h1 h2 h3=>by
  by_cases e:j=i
  ·subst e;rw[hs]at hs1;injection hs1 with e;injection e with e1 e2;subst e1 e2;exact .inr ⟨rfl,rfl,h1,h2,h3⟩
  ·exact .inl ((h.closed j p1 m1 (by omega) hs1 q c v h1 h2 h3).resolve_right id)⟩
theorem O5:Bfs E t u [(size t,u)] (fun _ _=>false) 0 (fun _ _ _ _ _=>False) :=
 ⟨rfl,fun _ _ h=>by simp at h,fun _ _ h=>by simp at h,fun x hx=>by simp at hx;exact .inl hx,fun j _ _ h=>by omega⟩
theorem XG{v:Nat}:((v=u/\nul t=true)\/∃ p,p∈lasts t 0/\Way E t 0 u p v)↔rel E t u v:=by
 rw[bQ t 0 u v];constructor
 ·rintro(⟨rfl,h⟩ | ⟨p,hp,hw⟩)
  ·exact .inl ⟨h,rfl⟩
  ·exact .inr ⟨p,hw,(fI t 0 p).1 hp⟩
 ·rintro(⟨h,rfl⟩ | ⟨p,hw,hl⟩)
  ·exact .inl ⟨rfl,h⟩
  ·exact .inr ⟨p,(fI t 0 p).2 hl,hw⟩
end Go.Proofs.YtphjbbbnbmafnaaGreatDoor.RxM
namespace Go.Proofs.YtphjbbbnbmafnaaGreatDoor.RxM
open Rx
variable {c n:Nat} {q s:List Nat} {ps rows:List Rx}
def jU(l:List Rx):Rx:=l.foldl cat eps
def alts(l:List Rx):Rx:=l.foldl alt void
theorem C8(l:List Rx)(x:Rx):jU (l++[x])=cat (jU l) x:=by unfold jU;rw[List.foldl_append];rfl
theorem uC(l:List Rx)(x:Rx):alts (l++[x])=alt (alts l) x:=by unfold alts;rw[List.foldl_append];rfl
def frm(rows ps:List Rx):Fr:=(alts rows,jU ps.dropLast,ps.getLast?)
theorem MF(ps:List Rx):ps=[]\/∃ qs p,ps=qs++[p]:=by
 rcases List.eq_nil_or_concat ps with e | ⟨qs,p,e⟩
 ·exact .inl e
 ·exact .inr ⟨qs,p,by simpa using e⟩
theorem o8(rows qs:List Rx)(p:Rx):frm rows (qs++[p])=(alts rows,jU qs,some p):=by unfold frm;simp
theorem QA(rows:List Rx):frm rows []=(alts rows,eps,none):=rfl
theorem xP(ps:List Rx):ab (jU ps.dropLast) ps.getLast?=jU ps:=by
 rcases MF ps with rfl | ⟨qs,p,rfl⟩
 ·rfl
 ·simp[ab,C8]
theorem ZO(rows ps:List Rx):fin (frm rows ps)=alts (rows++[jU ps]):=by
 rw[uC,<-xP ps];rfl
def Got(n:Nat)(q:List Nat)(rows ps:List Rx):Prop:=run n q [init]=some [frm rows ps]
theorem YX(n:Nat):Got n [] [] []:=rfl
theorem Got.done(h:Got n q rows ps):read n q=some (alts (rows++[jU ps])):=by
 rw[oQ h,ZO]
theorem Got.more{n c:Nat}{q:List Nat}{rows ps rows2 ps2:List Rx}(h:Got n q rows ps)(hs:step n c [frm rows ps]=some [frm rows2 ps2]):Got n (q++[c]) rows2 ps2:=by
 unfold Got;rw[jW,show run n q [init]=_ from h];simp only[aH8];rw[yT,hs]
theorem Got.stop(h:Got n q rows ps)(hs:step n c [frm rows ps]=none):read n (q++c::s)=none :=
 lT (jK h (pQ hs))
theorem Got.bar(h:Got n q rows ps):Got n (q++[124]) (rows++[jU ps]) []:=h.more (by
 rw[show frm rows ps=(alts rows,jU ps.dropLast,ps.getLast?)from rfl,ES,xP,QA,uC])
theorem Got.star{qs:List Rx}{p:Rx}(h:Got n q rows (qs++[p])):Got n (q++[42]) rows (qs++[star p]):=h.more (by rw[o8,o8,WS])
theorem Got.nostar(h:Got n q rows []):read n (q++42::s)=none:=h.stop (by rw[QA,vM])
theorem Got.point(h:Got n q rows ps):Got n (q++[46]) rows (ps++[sym none]):=h.more (by
 rw[show frm rows ps=(alts rows,jU ps.dropLast,ps.getLast?)from rfl,WC,xP,o8])
theorem Got.letter(h:Got n q rows ps)(hc:c<n)(hn:n<=26):Got n (q++[97+c]) rows (ps++[sym (some c)]):=h.more (by
 rw[show frm rows ps=(alts rows,jU ps.dropLast,ps.getLast?)from rfl,IU n c _ _ _ _ hc hn,xP,o8])
theorem Got.bad(h:Got n q rows ps)(h1:c≠124)(h2:c≠42)(h3:c≠40)(h5:c≠46)(h6:¬(97<=c/\c<97+n)):read n (q++c::s)=none:=h.stop (by
 by_cases h4:c=41
 ·subst h4;exact sW n _
 ·exact G9 n c _ _ _ _ h1 h2 h3 h4 h5 h6)
theorem Got.open_(h:Got n q rows ps)(hc:cl s 1=none):read n (q++40::s)=none:=by
 refine lT (jK h fun f hf => ?_);rw[show frm rows ps=(alts rows,jU ps.dropLast,ps.getLast?)from rfl]at hf;simp only[run,xA,aH8]at hf;exact NI hc f hf
theorem Got.bracket{k:Nat}(h:Got n q rows ps)(hc:cl s 1=some k):(∀ t,read n (s.take k)=some t->Got n (q++40::s.take (k+1)) rows (ps++[t]))/\(read n (s.take k)=none->read n (q++40::s)=none):=by
 obtain⟨b,s2,rfl,hk,hd⟩:=pI s 0 k hc;have e1:(b++41::s2).take k=b:=by rw[<-hk];simp
 have e2:(b++41::s2).take (k+1)=b++[41]:=by rw[<-hk,List.take_length_add_append];rfl
 rw[e1,e2];rcases EK (n:=n) hd [(alts rows,jU ps,none)]with ⟨h1,h2⟩ | ⟨f,h1,h2⟩
 ·refine⟨fun t ht => ?_,fun _ => ?_⟩
  ·unfold read at ht;rw[h1]at ht;cases ht
  ·refine lT (jK h fun f hf => ?_);rw[show frm rows ps=(alts rows,jU ps.dropLast,ps.getLast?)from rfl]at hf;simp only[run,xA,aH8,xP]at hf;rw[jW,h2]at hf;cases hf
 ·refine⟨fun t ht => ?_,fun hn => ?_⟩
  ·have et:t=fin f:=by rw[oQ h1]at ht;injection ht with e;exact e.symm
   unfold Got;rw[jW,show run n q [init]=_ from h,show frm rows ps=(alts rows,jU ps.dropLast,ps.getLast?)from rfl];simp only[aH8,run,xA,xP];rw[jW,h2];simp only[aH8];rw[yT,WZ,o8,et]
  ·rw[oQ h1]at hn;cases hn
theorem tN{st st':List Fr}(h:step n c st=some st'):(st'.map fun f=>size (fin f)).sum<=(st.map fun f=>size (fin f)).sum+1:=by
 cases st with
 | nil=>cases h
 | cons f st =>
  obtain⟨a,r,p⟩:=f;unfold step at h;simp only at h;split at h
  ·injection h with h;subst h;simp[fin,ab,size]
  ·split at h
   ·cases p with
    | none=>cases h
    | some q=>injection h with h;subst h;simp[fin,ab,size]
   ·split at h
    ·injection h with h;subst h;simp[fin,init,ab,size]
    ·split at h
     ·cases st with
      | nil=>cases h
      | cons g st =>
       obtain⟨a',r',p'⟩:=g;injection h with h;subst h;cases p' <;> simp[fin,ab,size] <;> omega
     ·split at h
      ·injection h with h;subst h;simp[fin,ab,size];omega
      ·split at h
       ·injection h with h;subst h;simp[fin,ab,size];omega
       ·cases h
theorem I1:∀{s:List Nat} {st st':List Fr},run n s st=some st'->(st'.map fun f=>size (fin f)).sum<=(st.map fun f=>size (fin f)).sum+s.length
 | [],st,st',h=>by injection h with h;subst h;simp
 | c::s,st,st',h=>by
  unfold run at h;cases e:step n c st with
  | none=>rw[e]at h;cases h
  | some x =>
   rw[e]at h;have h1:=tN e;have h2:=I1 (s:=s) h;simp only[aE7];omega
theorem DX{t:Rx}(h:read n s=some t):size t<=s.length:=by
 unfold read at h;split at h
 ·rename_i f hf;injection h with h;subst h;have:=I1 hf;simpa[init,fin,ab,size]using this
 ·cases h
end Go.Proofs.YtphjbbbnbmafnaaGreatDoor.RxM
namespace Go.Proofs.YtphjbbbnbmafnaaGreatDoor.G
open RxM Rx
variable {k p:Nat} {a b t:Rx} {ss ss1 ss2 ts ts1 ts2:List S4}
def dP(s:S4)(p:Nat):Bool:=M0 [s.1,s.2.1,s.2.2.1,s.2.2.2] p
theorem lH(s t:S4)(p:Nat):dP (or4 s t) p=(dP s p||dP t p):=by
 unfold dP M0 or4;simp only
 match p / 64 with
 | 0=>simp[Nat.testBit_or]
 | 1=>simp[Nat.testBit_or]
 | 2=>simp[Nat.testBit_or]
 | 3=>simp[Nat.testBit_or]
 | i+4=>simp
theorem dQ(p:Nat):dP (0,0,0,0) p=false:=by
 unfold dP M0;simp only
 match p / 64 with
 | 0=>simp
 | 1=>simp
 | 2=>simp
 | 3=>simp
 | i+4=>simp
theorem zD(a b:Nat):(2 ^ a).testBit b=(b == a):=by
 rw[Nat.testBit_two_pow];by_cases h:a=b
 ·simp[h]
 ·rw[decide_eq_false h];symm;simpa using fun e:b=a=>h e.symm
theorem jM(hp:p<256)(q:Nat):dP (gY p) q=(q == p):=by
 unfold dP M0 gY;simp only;have e:(q == p)=(decide (q / 64=p / 64)&&(q % 64 == p % 64)):=by
  rw[aI5];simp only[beq_iff_eq,aD6,decide_eq_true_eq];omega
 rw[e];have h4:p / 64<4:=by omega
 generalize p / 64=a at *;generalize q / 64=b at *
 match b with
 | 0=>by_cases h:a=0 <;> simp[h,zD,eq_comm (a:=(0:Nat)) (b:=a)]
 | 1=>by_cases h:a=1 <;> simp[h,zD,eq_comm (a:=(1:Nat)) (b:=a)]
 | 2=>by_cases h:a=2 <;> simp[h,zD,eq_comm (a:=(2:Nat)) (b:=a)]
 | 3=>by_cases h:a=3 <;> simp[h,zD,eq_comm (a:=(3:Nat)) (b:=a)]
 | i+4 =>
  have h:¬(i+4=a):=by omega
  simp[h]
theorem oI(p:Nat):ok4 (gY p):=by
 have h:2 ^ (p % 64)<18446744073709551616:=aH7 (a:=2) (n:=64) (by decide) (by omega);unfold ok4 gY;simp only;refine⟨?_,?_,?_,?_⟩ <;> (split;exact h;decide)
theorem eX:ok4 (0,0,0,0):=⟨by decide,by decide,by decide,by decide⟩
theorem jH{s:S4}:p∈jE s.1 s.2.1 s.2.2.1 s.2.2.2 4↔dP s p=true:=by
 unfold jE dP;rw[show[s.1,s.2.1,s.2.2.1,s.2.2.2].take 4=[s.1,s.2.1,s.2.2.1,s.2.2.2]from rfl,uK];simp
theorem J8(ss:List S4)(ps:List Nat)(q:Nat):dP (nV ss ps) q=true↔∃ p∈ps,dP (ss.getD p (0,0,0,0)) q=true:=by
 have:∀(ps:List Nat) (acc:S4),dP (ps.foldl (fun acc p=>or4 acc (ss.getD p (0,0,0,0))) acc) q=true↔dP acc q=true\/∃ p∈ps,dP (ss.getD p (0,0,0,0)) q=true:=by
  intro ps
  induction ps with
  | nil=>intro acc;simp
  | cons x ps ih =>
   intro acc;rw[List.foldl_cons,ih,lH,aF1];simp[or_assoc]
 unfold nV;rw[this,dQ];simp
theorem iY(t:S4)(ps:List Nat)(ss:List S4)(p q:Nat)(hp:p<ss.length):dP ((aS t ss ps).getD p (0,0,0,0)) q=(dP (ss.getD p (0,0,0,0)) q||(decide (p∈ps)&&dP t q)):=by
 induction ps generalizing ss with
 | nil=>simp[aS]
 | cons x ps ih =>
  show dP ((aS t (ss.set x (or4 (ss.getD x (0,0,0,0)) t)) ps).getD p (0,0,0,0)) q=_;rw[ih _ (by simpa using hp)];by_cases e:x=p
  ·subst e;rw[aC1,aE5 hp,Option.getD_some,lH];simp only[aF5,true_or,decide_true,Bool.true_and];cases dP t q <;> simp
  ·rw[aC1,aF4 e,<-aC1];have:decide (p∈x::ps)=decide (p∈ps):=by
    refine decide_eq_decide.2 ?_;simp only[aF5];exact⟨fun h=>h.resolve_left fun h=>e h.symm,.inr⟩
   rw[this]
theorem uA(t:S4)(ps:List Nat)(ss:List S4)(p:Nat)(hp:p∉ps):(aS t ss ps)[p]?=ss[p]?:=by
 induction ps generalizing ss with
 | nil=>rfl
 | cons x ps ih =>
  show(aS t (ss.set x (or4 (ss.getD x (0,0,0,0)) t)) ps)[p]?=_;rw[ih _ fun h=>hp (by simp[h]),aF4 fun e=>hp (by simp[e])]
structure Laid (t:Rx) (ss ts ss2 ts2:List S4):Prop where
 len:ss2.length=ss.length+size t
 old:∀ p,p<ss.length->ss2[p]?=ss[p]?
 nx:∀ p q,ss.length<=p->p<ss2.length->dP (ss2.getD p (0,0,0,0)) q=nxt t ss.length p q
 tlen:ts2.length=ts.length
 tk:∀ c q,c<ts.length->dP (ts2.getD c (0,0,0,0)) q=(dP (ts.getD c (0,0,0,0)) q||(decide (ss.length<=q)&&decide (q<ss.length+size t)&&takes (lab t ss.length q) c))
abbrev P4:=S4×S4×Bool
structure dJ (P:P4) (t:Rx) (k:Nat):Prop where
 ok1:ok4 P.1
 ok2:ok4 P.2.1
 fs:∀ q,dP P.1 q=fst t k q
 ls:∀ q,dP P.2.1 q=lst t k q
 em:P.2.2=nul t
def yG(x y:P4):P4:=(if x.2.2 then or4 x.1 y.1 else x.1,if y.2.2 then or4 y.2.1 x.2.1 else y.2.1,x.2.2&&y.2.2)
def VB(x:P4):P4:=(x.1,x.2.1,true)
def alt4(x y:P4):P4:=(or4 x.1 y.1,or4 x.2.1 y.2.1,x.2.2||y.2.2)
theorem LH(k:Nat):dJ ((0,0,0,0),(0,0,0,0),true) eps k:=⟨eX,eX,fun q=>dQ q,fun q=>dQ q,rfl⟩
theorem wE(hk:k<256)(l:Option Nat):dJ (gY k,gY k,false) (sym l) k:=⟨oI k,oI k,fun q=>by rw[jM hk];rfl,fun q=>by rw[jM hk];rfl,rfl⟩
theorem dJ.star{P:P4}(h:dJ P t k):dJ (VB P) (star t) k:=⟨h.ok1,h.ok2,h.fs,h.ls,rfl⟩
theorem dJ.cat{P Q:P4}(h:dJ P a k)(h2:dJ Q b (k+size a)):dJ (yG P Q) (cat a b) k:=by
 obtain⟨f,l,e⟩:=P;obtain⟨f2,l2,e2⟩:=Q;obtain⟨o1,o2,hf,hl,he⟩:=h;obtain⟨o3,o4,hf2,a1,a4⟩:=h2;simp only at o1 o2 hf hl he o3 o4 hf2 a1 a4;unfold yG;refine⟨?_,?_,fun q => ?_,fun q => ?_,?_⟩
 ·simp only;split;exact jT o1 o3;exact o1
 ·simp only;split;exact jT o4 o2;exact o4
 ·simp only[fst,<-he];cases e
  ·simp[hf]
  ·simp[lH,hf,hf2]
 ·simp only[lst,<-a4];cases e2
  ·simp[a1]
  ·simp[lH,hl,a1]
 ·simp only[nul,he,a4]
theorem dJ.alt{P Q:P4}(h:dJ P a k)(h2:dJ Q b (k+size a)):dJ (alt4 P Q) (alt a b) k :=
 ⟨jT h.ok1 h2.ok1,jT h.ok2 h2.ok2,fun q=>by unfold alt4;simp only[lH,fst,h.fs,h2.fs],fun q=>by unfold alt4;simp only[lH,lst,h.ls,h2.ls],by unfold alt4;simp only[nul,h.em,h2.em]⟩
theorem dJ.void{P:P4}(h:dJ P a k):dJ P (Rx.alt Rx.void a) k :=
 ⟨h.ok1,h.ok2,fun q=>by rw[h.fs];simp[fst,size],fun q=>by rw[h.ls];simp[lst,size],by rw[h.em];simp[nul]⟩
theorem UG(ss ts:List S4):Laid eps ss ts ss ts :=
 ⟨rfl,fun _ _=>rfl,fun p q h1 h2=>by omega,rfl,fun c q _=>by
  rw[show size eps=0 from rfl];have:(decide (ss.length<=q)&&decide (q<ss.length+0))=false:=by
   rw[aK4,decide_eq_false_iff_not,decide_eq_false_iff_not];omega
  rw[this];simp⟩
theorem Laid.void(h:Laid t ss ts ss2 ts2):Laid (alt void t) ss ts ss2 ts2:=by
 refine⟨by rw[h.len];simp[size],h.old,fun p q h1 h2 => ?_,h.tlen,fun c q hc => ?_⟩
 ·rw[h.nx p q h1 h2];simp[nxt,size]
 ·rw[h.tk c q hc];simp[size,lab,aM]
theorem JJ(l:Option Nat)(ss ts ts2:List S4)(hlen:ts2.length=ts.length)(h:∀ c q,c<ts.length->dP (ts2.getD c (0,0,0,0)) q=(dP (ts.getD c (0,0,0,0)) q||(q == ss.length&&takes l c))):Laid (sym l) ss ts (ss++[(0,0,0,0)]) ts2:=by
 refine⟨by simp[size],fun p hp=>aD4 hp,fun p q h1 h2 => ?_,hlen,fun c q hc => ?_⟩
 ·have e:p=ss.length:=by simp at h2;omega
  subst e;rw[aC1,aC8 (V7 _),aJ1];simp[dQ,nxt]
 ·rw[h c q hc];congr 1;by_cases e:q=ss.length
  ·subst e;simp[size,lab,aM]
  ·have:(decide (ss.length<=q)&&decide (q<ss.length+size (sym l)))=false:=by
    rw[aK4,decide_eq_false_iff_not,decide_eq_false_iff_not,show size (sym l)=1 from rfl];omega
   rw[this];simp[e]
theorem Laid.star{P:P4}(h:Laid t ss ts ss2 ts2)(hP:dJ P t ss.length):Laid (star t) ss ts (aS P.1 ss2 (jE P.2.1.1 P.2.1.2.1 P.2.1.2.2.1 P.2.1.2.2.2 4)) ts2:=by
 have hm:∀ p,p∈jE P.2.1.1 P.2.1.2.1 P.2.1.2.2.1 P.2.1.2.2.2 4↔lst t ss.length p=true:=fun p=>by rw[jH,hP.ls]
 refine⟨by rw[aV,h.len];rfl,fun p hp => ?_,fun p q h1 h2 => ?_,h.tlen,h.tk⟩
 ·rw[uA _ _ _ _ fun hx=>by have:=iC _ _ _ ((hm p).1 hx);omega];exact h.old p hp
 ·rw[aV]at h2;rw[iY _ _ _ _ _ h2,h.nx p q h1 h2,hP.fs];simp only[nxt];congr 2;rw[aI5,decide_eq_true_eq,hm]
theorem Laid.alt(h:Laid a ss ts ss1 ts1)(h2:Laid b ss1 ts1 ss2 ts2):Laid (alt a b) ss ts ss2 ts2:=by
 have hl:=h.len;have a1:=h2.len;refine⟨by rw[a1,hl];simp only[size];omega,fun p hp=>(h2.old p (by omega)).trans (h.old p hp),fun p q h3 h4 => ?_,h2.tlen.trans h.tlen,fun c q hc => ?_⟩
 ·simp only[nxt];by_cases e:p<ss1.length
  ·have e2:ss2.getD p (0,0,0,0)=ss1.getD p (0,0,0,0):=by rw[aC1,aC1,h2.old p e]
   rw[e2,h.nx p q h3 e];cases hx:nxt b (ss.length+size a) p q with
   | false=>simp
   | true=>have:=fE _ _ _ _ hx;omega
  ·rw[h2.nx p q (by omega) h4,hl];cases hx:nxt a ss.length p q with
   | false=>simp
   | true=>have:=fE _ _ _ _ hx;omega
 ·rw[h2.tk c q (by rw[h.tlen];exact hc),h.tk c q hc,hl,Bool.or_assoc];congr 1;have hs:size (Rx.alt a b)=size a+size b:=rfl;have hb:lab (Rx.alt a b) ss.length q=(aM a++aM b).getD (q-ss.length) none:=rfl;rw[hb];by_cases e:q<ss.length+size a
  ·have d1:decide (ss.length+size a<=q)=false:=decide_eq_false (by omega);have d2:decide (q<ss.length+size a)=true:=decide_eq_true e;have d3:decide (q<ss.length+size (Rx.alt a b))=true:=decide_eq_true (by omega);rw[d1,d2,d3];by_cases e3:ss.length<=q
   ·rw[zV ⟨e3,e⟩];simp
   ·simp[e3]
  ·have d1:decide (ss.length+size a<=q)=true:=decide_eq_true (by omega);have d2:decide (q<ss.length+size a)=false:=decide_eq_false e;have d3:decide (ss.length<=q)=true:=decide_eq_true (by omega);have d4:decide (q<ss.length+size a+size b)=decide (q<ss.length+size (Rx.alt a b)):=decide_eq_decide.2 (by omega);rw[d1,d2,d3,d4,vW (by omega)];simp
theorem Laid.cat{P Q:P4}(h:Laid a ss ts ss1 ts1)(h2:Laid b ss1 ts1 ss2 ts2)(hP:dJ P a ss.length)(hQ:dJ Q b ss1.length):Laid (cat a b) ss ts (aS Q.1 ss2 (jE P.2.1.1 P.2.1.2.1 P.2.1.2.2.1 P.2.1.2.2.2 4)) ts2:=by
 have hc:=h.alt h2;have hl:=h.len;have hm:∀ p,p∈jE P.2.1.1 P.2.1.2.1 P.2.1.2.2.1 P.2.1.2.2.2 4↔lst a ss.length p=true:=fun p=>by rw[jH,hP.ls]
 refine⟨by rw[aV,hc.len];rfl,fun p hp => ?_,fun p q h1 h3 => ?_,hc.tlen,hc.tk⟩
 ·rw[uA _ _ _ _ fun hx=>by have:=iC _ _ _ ((hm p).1 hx);omega];exact hc.old p hp
 ·rw[aV]at h3;rw[iY _ _ _ _ _ h3,hc.nx p q h1 h3,hQ.fs];simp only[nxt,<-hl];congr 2;rw[aI5,decide_eq_true_eq,hm]
end Go.Proofs.YtphjbbbnbmafnaaGreatDoor.G
namespace Go.Proofs.YtphjbbbnbmafnaaGreatDoor.G
open RxM Rx
abbrev z4:S4:=(0,0,0,0)
structure Ex (t:Rx) (n:Nat) (ss ts:List S4) (en:S4):Prop where
 len:ss.length=1+size t
 tlen:ts.length=n
 bh:∀ p q,p<ss.length->dP (ss.getD p z4) q=bh0 t p q
 tk:∀ c q,c<n->dP (ts.getD c z4) q=tk0 t c q
 es:∀ q,dP en q=en0 t q
 ok1:∀ s∈ss,ok4 s
 ok2:∀ s∈ts,ok4 s
 ok3:ok4 en
def GY:P4:=(z4,gY 0,false)
theorem ZE{t:Rx}{n:Nat}{ss2 ts2:List S4}{P:P4}(h:Laid t [z4] (List.replicate n z4) ss2 ts2)(hP:dJ P t 1)(h1:∀ s∈aS P.1 ss2 (jE (gY 0).1 (gY 0).2.1 (gY 0).2.2.1 (gY 0).2.2.2 4),ok4 s)(h2:∀ s∈ts2,ok4 s):
 Ex t n (aS P.1 ss2 (jE (gY 0).1 (gY 0).2.1 (gY 0).2.2.1 (gY 0).2.2.2 4)) ts2 (yG GY P).2.1:=by
 have hl:ss2.length=1+size t:=h.len;have hm:∀ p,p∈jE (gY 0).1 (gY 0).2.1 (gY 0).2.2.1 (gY 0).2.2.2 4↔p=0:=fun p=>by rw[jH,jM (by decide)];simp
 refine⟨by rw[aV,hl],by rw[h.tlen];simp,fun p q hp => ?_,fun c q hc => ?_,fun q => ?_,h1,h2,?_⟩
 ·rw[aV]at hp;rw[iY _ _ _ _ _ hp,hP.fs];unfold bh0;by_cases e:p=0
  ·subst e;have e2:ss2.getD 0 z4=z4:=by rw[aC1,h.old 0 (by simp)];rfl
   rw[e2,dQ,if_pos rfl,decide_eq_true ((hm 0).2 rfl)];simp
  ·rw[if_neg e,decide_eq_false fun hx=>e ((hm p).1 hx),h.nx p q (by simp;omega) hp];simp
 ·rw[h.tk c q (by simpa using hc)];have e2:(List.replicate n z4).getD c z4=z4:=by rw[aC1,aE9,if_pos hc];rfl
  rw[e2,dQ];simp[tk0]
 ·unfold yG GY en0;simp only;rw[hP.em];cases nul t
  ·simp[hP.ls]
  ·simp[lH,hP.ls,jM]
 ·unfold yG GY;simp only;split
  ·exact jT hP.ok2 (oI 0)
  ·exact hP.ok2
def wo4(s t:S4):S4:=(s.1 &&& (18446744073709551615-t.1),s.2.1 &&& (18446744073709551615-t.2.1),s.2.2.1 &&& (18446744073709551615-t.2.2.1),s.2.2.2 &&& (18446744073709551615-t.2.2.2))
theorem zX(x j:Nat)(hx:x<18446744073709551616)(hj:j<64):(18446744073709551615-x).testBit j = !x.testBit j:=by
 have:=Nat.testBit_two_pow_sub_succ (n:=64) (x:=x) hx j;rw[show 2 ^ 64-(x+1)=18446744073709551615-x by omega]at this;rw[this,decide_eq_true hj,Bool.true_and]
theorem ZT(s:S4){t:S4}(ht:ok4 t)(p:Nat):dP (wo4 s t) p=(dP s p && !dP t p):=by
 have hj:p % 64<64:=Nat.mod_lt _ (by decide);obtain⟨t0,t1,t2,t3⟩:=t;obtain⟨h0,h1,h2,h3⟩:=ht;simp only at h0 h1 h2 h3;unfold dP M0 wo4;simp only
 match p / 64 with
 | 0=>simp[Nat.testBit_and,zX _ _ h0 hj]
 | 1=>simp[Nat.testBit_and,zX _ _ h1 hj]
 | 2=>simp[Nat.testBit_and,zX _ _ h2 hj]
 | 3=>simp[Nat.testBit_and,zX _ _ h3 hj]
 | i+4=>simp
def qQ(s t:S4):S4:=(s.1 &&& t.1,s.2.1 &&& t.2.1,s.2.2.1 &&& t.2.2.1,s.2.2.2 &&& t.2.2.2)
theorem yC(s t:S4)(p:Nat):dP (qQ s t) p=(dP s p&&dP t p):=by
 unfold dP M0 qQ;simp only
 match p / 64 with
 | 0=>simp[Nat.testBit_and]
 | 1=>simp[Nat.testBit_and]
 | 2=>simp[Nat.testBit_and]
 | 3=>simp[Nat.testBit_and]
 | i+4=>simp
theorem jQ{a b:Nat}(ha:a<18446744073709551616):a &&& b<18446744073709551616:=aK8 Nat.and_le_left ha
theorem E8{s t:S4}(h:ok4 s):ok4 (qQ s t):=⟨jQ h.1,jQ h.2.1,jQ h.2.2.1,jQ h.2.2.2⟩
theorem YF{s:S4}(hs:ok4 s):s=z4↔∀ p,dP s p=false:=by
 constructor
 ·rintro rfl p;exact dQ p
 ·intro h;obtain⟨a,b,c,d⟩:=s;have a3:∀(i:Nat) (w:Nat),w<18446744073709551616->(∀ j,j<64->w.testBit j=false)->i=i->w=0:=by
   intro i w hw hb _;refine Nat.eq_of_testBit_eq fun j => ?_;rw[Nat.zero_testBit];by_cases hj:j<64
   ·exact hb j hj
   ·exact Nat.testBit_lt_two_pow (aF0 (show w<2 ^ 64 from hw) (aL0 (by decide) (by omega)))
  have hh:∀ i j,j<64->([a,b,c,d].getD i 0).testBit j=false:=fun i j hj=>by
   have:=h (64*i+j);unfold dP M0 at this;rw[show(64*i+j) / 64=i by omega,show(64*i+j) % 64=j by omega]at this;exact this
  have e0:=a3 0 a hs.1 (fun j hj=>hh 0 j hj) rfl;have e1:=a3 1 b hs.2.1 (fun j hj=>hh 1 j hj) rfl;have e2:=a3 2 c hs.2.2.1 (fun j hj=>hh 2 j hj) rfl;have e3:=a3 3 d hs.2.2.2 (fun j hj=>hh 3 j hj) rfl;rw[e0,e1,e2,e3]
def fn(l:List S4)(v p:Nat):Bool:=dP (l.getD v z4) p
theorem GQ{l:List S4}{v:Nat}(hv:v<l.length)(s:S4):fn (l.set v s)=upd (fn l) v (dP s):=by
 funext x p;unfold fn upd;by_cases e:x=v
 ·subst e;rw[if_pos rfl,aC1,aE5 hv];rfl
 ·rw[if_neg e,aC1,aF4 fun h=>e h.symm,<-aC1]
def come(a b:List S4)(w:List Nat)(v:Nat)(f:S4):List S4×List S4×List Nat :=
 if f=z4 then (a,b,w)else (a.set v (or4 (a.getD v z4) f),b.set v (or4 (b.getD v z4) f),if b.getD v z4=z4 then w++[v]else w)
section
variable {bh:Nat->Nat->Bool} {tk:Nat->Nat->Bool} {E:Nat->Nat->Nat->Prop} {u:Nat}
structure Wk (bh tk:Nat->Nat->Bool) (E:Nat->Nat->Nat->Prop) (u n P:Nat) (a b:List S4) (w:List Nat) (X:Nat->Nat->Nat->Nat->Prop):Prop where
 inv:Inv bh tk E u n (fn a) (fn b) w X
 la:a.length=n
 lb:b.length=n
 oka:∀ s∈a,ok4 s
 okb:∀ s∈b,ok4 s
 bd:∀ v p,fn a v p=true->p<P
def todo(a:List S4)(w:List Nat)(n P:Nat):Nat:=2*unseen (fn a) n P+w.length
theorem JY{l:List S4}(h:∀ s∈l,ok4 s)(v:Nat):ok4 (l.getD v z4):=by
 rw[aC1];cases e:l[v]? with
 | none=>exact eX
 | some s=>exact h s (aC3 e)
theorem vC{l:List S4}(h:∀ s∈l,ok4 s)(v:Nat){x:S4}(hx:ok4 x):∀ s∈l.set v x,ok4 s:=fun s hs=>by
 rcases List.mem_or_eq_of_mem_set hs with hs | rfl
 ·exact h s hs
 ·exact hx
theorem ZM{n P:Nat}{a b:List S4}{w:List Nat}{X Y:Nat->Nat->Nat->Nat->Prop}(h:Wk bh tk E u n P a b w X)(v:Nat)(hv:v<n)(at_ f:S4)(hf:ok4 f)(hff:∀ p,dP f p=(dP at_ p && !fn a v p))(hr:∀ q,dP at_ q=true->Rc bh tk E u q v)(hP:∀ q,dP at_ q=true->q<P)
 (hX:∀ m p q c v1,bh p q=true->tk c q=true->E m c v1->X m p c v1->(v1=v/\dP at_ q=true)\/Y m p c v1) :
 Wk bh tk E u n P (come a b w v f).1 (come a b w v f).2.1 (come a b w v f).2.2 Y/\todo (come a b w v f).1 (come a b w v f).2.2 n P<=todo a w n P:=by
 have hva:v<a.length:=by rw[h.la];exact hv
 have hvb:v<b.length:=by rw[h.lb];exact hv
 unfold come;by_cases hz:f=z4
 ·rw[if_pos hz];refine⟨⟨sJ h.inv fun m p q c v1 _ _ h3 h4 h5 h6 => ?_,h.la,h.lb,h.oka,h.okb,h.bd⟩,V7 _⟩;rcases hX m p q c v1 h3 h5 h4 h6 with ⟨rfl,hq⟩ | hy
  ·have:=hff q;rw[hz,dQ,hq]at this;simp at this;exact .inl this
  ·exact .inr hy
 ·rw[if_neg hz];have a0:∃ q,dP at_ q=true/\fn a v q=false:=by
   refine Classical.byContradiction fun hc=>hz ((YF hf).2 fun p => ?_);cases e:dP f p with
   | false=>rfl
   | true =>
    rw[hff p]at e;simp only[aD6,Bool.not_eq_true']at e;exact absurd ⟨p,e⟩ hc
  have ea:(upd (fn a) v fun p=>fn a v p||dP at_ p)=fn (a.set v (or4 (a.getD v z4) f)):=by
   rw[GQ hva];unfold upd;funext x p;simp only[lH,hff];split
   ·show _=(fn a v p||_);cases fn a v p <;> simp
   ·rfl
  have eb:(upd (fn b) v fun p=>fn b v p||(dP at_ p && !fn a v p))=fn (b.set v (or4 (b.getD v z4) f)):=by
   rw[GQ hvb];unfold upd;funext x p;simp only[lH,hff];rfl
  have hi:=SL h.inv v (dP at_) hv hr a0 (decide (b.getD v z4=z4)) (by rw[decide_eq_true_eq,YF (JY h.okb v)];rfl) (wait':=if b.getD v z4=z4 then w++[v]else w) (by simp only[decide_eq_true_eq]) hX;rw[ea,eb]at hi;refine⟨⟨hi,by simp[h.la],by simp[h.lb],vC h.oka v (jT (JY h.oka v) hf),vC h.okb v (jT (JY h.okb v) hf),fun x p hp => ?_⟩,?_⟩
  ·rw[<-ea]at hp;unfold upd at hp;split at hp
   ·simp only[aF1]at hp;exact hp.elim (h.bd _ _) (hP _)
   ·exact h.bd _ _ hp
  ·obtain⟨q,a2,a5⟩:=a0;have hlt:unseen (fn (a.set v (or4 (a.getD v z4) f))) n P<unseen (fn a) n P:=by
    rw[<-ea];refine D9 (fun x p hp => ?_) v q hv (hP q a2) a5 ?_
    ·unfold upd;split
     ·rename_i e;subst e;simp[hp]
     ·exact hp
    ·unfold upd;rw[if_pos rfl];simp[a2]
   unfold todo;simp only;split
   ·rw[WT,aF6];omega
   ·omega
theorem WE{s t:S4}(h:ok4 s):ok4 (wo4 s t):=⟨jQ h.1,jQ h.2.1,jQ h.2.2.1,jQ h.2.2.2⟩
theorem aA9{n P:Nat}{a b:List S4}{w:List Nat}{x:Nat}(h:Wk bh tk E u n P a b (w++[x]) (fun _ _ _ _=>False)):Wk bh tk E u n P a (b.set x z4) w (fun m p c v=>m=x/\fn b x p=true/\E x c v)/\todo a w n P<todo a (w++[x]) n P/\x<n/\(∀ p,fn b x p=true->Rc bh tk E u p x/\p<P):=by
 have hx:x<n:=h.inv.lt x (by simp);have hi:=X0 h.inv;have e:(upd (fn b) x fun _=>false)=fn (b.set x z4):=by
  rw[GQ (by rw[h.lb];exact hx)];congr 1;funext p;exact(dQ p).symm
 rw[e]at hi;refine⟨⟨hi,h.la,by simp[h.lb],h.oka,vC h.okb x eX,h.bd⟩,by unfold todo;simp,hx,fun p hp => ?_⟩;have hs:=h.inv.sub x p hp;exact⟨h.inv.sound x p hs,h.bd x p hs⟩
theorem TV{n P:Nat}(hu:u<n)(hP:0<P):Wk bh tk E u n P ((List.replicate n z4).set u (gY 0)) ((List.replicate n z4).set u (gY 0)) [u] (fun _ _ _ _=>False):=by
 have h0:fn ((List.replicate n z4).set u (gY 0))=fun v p=>decide (v=u)&&(p == 0):=by
  rw[GQ (by simpa using hu)];funext v p;unfold upd;by_cases e:v=u
  ·rw[if_pos e,jM (by decide)];simp[e]
  ·rw[if_neg e];unfold fn;rw[aC1,aE9];split <;> simp[dQ,e]
 have hok:∀ s∈(List.replicate n z4).set u (gY 0),ok4 s:=vC (fun s hs=>by rw[aK3 hs];exact eX) u (oI 0);refine⟨?_,by simp,by simp,hok,hok,fun v p hp => ?_⟩
 ·rw[h0];refine⟨by simp,fun v p hp => ?_,fun m p h1 h2 => ?_,fun v p hp=>hp,fun v => ?_,by simp,fun v hv=>by simp at hv;omega⟩
  ·simp at hp;obtain⟨rfl,rfl⟩:=hp;exact .start
  ·rw[h1]at h2;simp at h2
  ·simp
 ·rw[h0]at hp;simp at hp;omega
end
theorem aAY{t:Rx}{E:Nat->Nat->Nat->Prop}{u n P:Nat}{a b:List S4}(h:Wk (bh0 t) (tk0 t) E u n P a b [] (fun _ _ _ _=>False)){en:S4}(he:∀ q,dP en q=en0 t q)(v:Nat):qQ (a.getD v z4) en≠z4↔rel E t u v:=by
 rw[<-aB0,Ne,YF (E8 (JY h.oka v))];constructor
 ·intro hn;refine Classical.byContradiction fun hc=>hn fun p => ?_;rw[yC];cases e:(dP (a.getD v z4) p&&dP en p)with
  | false=>rfl
  | true =>
   simp only[aD6]at e;exact absurd ⟨p,(QI h.inv v p).1 e.1,by rw[<-he];exact e.2⟩ hc
 ·rintro⟨p,hr,hp⟩ hn;have:=hn p;rw[yC,he,hp,show dP (a.getD v z4) p=true from(QI h.inv v p).2 hr]at this;simp at this
end Go.Proofs.YtphjbbbnbmafnaaGreatDoor.G
