/- Parts: DFr DSn DBq. -/
import Derived.Test.YtphjbbbnbmafnaaGreatDoorDBw
import Derived.Test.YtphjbbbnbmafnaaGreatDoorRxN
namespace Go.Proofs.YtphjbbbnbmafnaaGreatDoor.G
open Go.RowKit Go.Shelf RxM
variable {w w':World} {S:Nat->Prop} {base g gF gS m n q:Nat} {vs:List Value} {ls:List (List E3)} {gs:List Nat} {sn:Nat->Nat->Bool}
structure JK (w:World) (base gF n:Nat) (vs:List Value) (ls:List (List E3)):Prop where
 own:w.ownsRow base 24 1 (.slice (some ⟨gF,0,none⟩) n n) n vs
 l1:vs.length=n
 l2:ls.length=n
 ea:∀(u:Nat) (v:Value) (l:List E3),vs[u]?=some v->ls[u]?=some l->w.ownsRow base 38 3 v l.length (flat l)
 ne:∀(u:Nat) (v:Value) (g:Nat),vs[u]?=some v->v.ownBlock=some g->g≠gF
 ds:∀(u u':Nat) (v v':Value) (g:Nat),u≠u'->vs[u]?=some v->vs[u']?=some v'->v.ownBlock=some g->v'.ownBlock≠some g
theorem JK.same(h:JK w base gF n vs ls)(hs:Same w w' S)(hF:¬ S gF)(hv:∀(u:Nat) (v:Value) (g:Nat),vs[u]?=some v->v.ownBlock=some g->¬ S g):JK w' base gF n vs ls :=
 ⟨aF h.own hs (fun g e=>by simp only[Value.ownBlock,aC5]at e;subst e;exact hF),h.l1,h.l2,fun u v l e1 e2=>by
  have hlu:u<ls.length:=(aC4.1 e2).1;exact aF (h.ea u v l e1 e2) hs (fun g e=>hv u v g e1 e),h.ne,h.ds⟩
theorem JK.below(h:JK w base gF n vs ls)(hB:Below w.heap.size w w'):JK w' base gF n vs ls:=h.same (Same.below hB) id (fun _ _ _ _ _=>id)
theorem JK.push{w2:World}(h:JK w base gF n vs ls)(hb:base<=w.heap.size){u:Nat}{v:Value}{l:List E3}(hv:vs[u]?=some v)(hl:ls[u]?=some l)(e:E3)(g cap:Nat)
 (hown:w2.ownsRow base 38 3 (.slice (some ⟨g,0,none⟩) (l.length+1) cap) (l.length+1) (flat l++[.int .i64 e.1,.int .i64 e.2.1,.int .i64 e.2.2])) (hg:(v.ownBlock=some g/\w.grownBy w2 (some g))\/(g=w.heap.size/\w.grownBy w2 none)) :
 JK (w2.setCell ⟨gF,u,none⟩ (.slice (some ⟨g,0,none⟩) (l.length+1) cap)) base gF n (vs.set u (.slice (some ⟨g,0,none⟩) (l.length+1) cap)) (ls.set u (l++[e]))/\Same w (w2.setCell ⟨gF,u,none⟩ (.slice (some ⟨g,0,none⟩) (l.length+1) cap)) (fun k=>k=gF\/v.ownBlock=some k)/\Below base w (w2.setCell ⟨gF,u,none⟩ (.slice (some ⟨g,0,none⟩) (l.length+1) cap)):=by
 have hgF:=h.own.lt gF rfl;have a4:=dN hg;have a5:=Same.set w2 ⟨gF,u,none⟩ (.slice (some ⟨g,0,none⟩) (l.length+1) cap);have a3:u<vs.length:=(aC4.1 hv).1;have a6:u<ls.length:=(aC4.1 hl).1;have a2:v.ownBlock=some g\/w.heap.size<=g:=by
  rcases hg with ⟨e,_⟩ | ⟨e,_⟩
  ·exact .inl e
  ·exact .inr (by omega)
 have hvF:∀ k,v.ownBlock=some k->k≠gF:=fun k ek=>h.ne u v k hv ek;have hgn:g≠gF:=by
  rcases a2 with e | e
  ·exact hvF g e
  ·omega
 have hb1:Below base w w2:=by
  rcases hg with ⟨ev,hg⟩ | ⟨_,hg⟩
  ·exact(YQ _ w).grown hg hb (fun k e2=>by injection e2 with e2;subst e2;exact((h.ea u v l hv hl).lt g ev).1)
  ·exact(YQ _ w).grown hg hb (fun k e2=>by cases e2)
 have oth:∀(u':Nat) (v':Value) (k:Nat),u'≠u->vs[u']?=some v'->v'.ownBlock=some k->¬(v.ownBlock=some k):=fun u' v' k a1 hv' ek e2=>h.ds u' u v' v k a1 hv' hv ek e2;refine⟨⟨?_,by simp[h.l1],by simp[h.l2],fun u' v' l' e1 e2 => ?_,fun u' v' k e1 e2 => ?_,fun u1 u2 v1 v2 k a1 e1 e2 ek e3 => ?_⟩,(a4.trans a5).mono (fun k _ e=>e.elim .inr .inl),hb1.setCell (p:=⟨gF,u,none⟩) hgF.1 _⟩
 ·have h1:=aF h.own a4 (fun k e e2=>by simp only[Value.ownBlock,aC5]at e;subst e;exact hvF _ e2 rfl);exact(h1.stored u (.slice (some ⟨g,0,none⟩) (l.length+1) cap)).1
 ·by_cases eu:u=u'
  ·subst eu;rw[aE5 a3]at e1;rw[aE5 a6]at e2;injection e1 with e1;injection e2 with e2;subst e1 e2;rw[WT,aF6,kL];exact aF hown a5 (fun k e=>by simp only[Value.ownBlock,aC5]at e;subst e;exact hgn)
  ·rw[aF4 eu]at e1 e2;refine aF (aF (h.ea u' v' l' e1 e2) a4 (fun k ek=>oth u' v' k (fun e=>eu e.symm) e1 ek)) a5 (fun k ek=>h.ne u' v' k e1 ek)
 ·by_cases eu:u=u'
  ·subst eu;rw[aE5 a3]at e1;injection e1 with e1;subst e1;simp only[Value.ownBlock,aC5]at e2;subst e2;exact hgn
  ·rw[aF4 eu]at e1;exact h.ne u' v' k e1 e2
 ·have a0:∀(u':Nat) (v':Value),u'≠u->vs[u']?=some v'->v'.ownBlock≠some g:=fun u' v' hn hv' e4=>by
   rcases a2 with e5 | e5
   ·exact h.ds u' u v' v g hn hv' hv e4 e5
   ·have hlt:u'<ls.length:=by have:=(aC4.1 hv').1;rw[h.l2,<-h.l1];exact this
    have:=((h.ea u' v' _ hv' (A7 hlt)).lt g e4).2;omega
  by_cases eu1:u=u1
  ·subst eu1;rw[aE5 a3]at e1;injection e1 with e1;subst e1;simp only[Value.ownBlock,aC5]at ek;subst ek;rw[aF4 a1]at e2;exact a0 u2 v2 (fun e=>a1 e.symm) e2 e3
  ·rw[aF4 eu1]at e1;by_cases eu2:u=u2
   ·subst eu2;rw[aE5 a3]at e2;injection e2 with e2;subst e2;simp only[Value.ownBlock,aC5]at e3;subst e3;exact a0 u1 v1 (fun e=>eu1 e.symm) e1 ek
   ·rw[aF4 eu2]at e2;exact h.ds u1 u2 v1 v2 k a1 e1 e2 ek e3
abbrev slN(n g:Nat):Value:=.slice (some ⟨g,0,none⟩) n n
abbrev bools(f:Nat->Bool)(n:Nat):List Value:=(List.range n).map fun(v:Nat)=>Value.bool (f v)
theorem gU(f:Nat->Bool)(n v:Nat)(h:v<n):(bools f n)[v]?=some (.bool (f v)):=by
 rw[aD0,aI7 h];rfl
theorem RY(f:Nat->Bool)(n x:Nat):(bools f n).set x (.bool true)=bools (fun v=>f v||decide (v=x)) n:=by
 apply aG6;intro k;by_cases hk:k<n
 ·by_cases e:x=k
  ·subst e;rw[aE5 (by simpa using hk),gU _ _ _ hk];simp
  ·rw[aF4 e,gU _ _ _ hk,gU _ _ _ hk];have:decide (k=x)=false:=decide_eq_false fun e2=>e e2.symm;rw[this,Bool.or_false]
 ·rw[aC7 (by simp;omega),aC7 (by simp;omega)]
structure wM (w:World) (base gS m n:Nat) (gs:List Nat) (sn:Nat->Nat->Bool):Prop where
 own:w.ownsRow base 101 1 (.slice (some ⟨gS,0,none⟩) m m) m (gs.map (slN n)++List.replicate (m-gs.length) (.slice none 0 0))
 le:gs.length<=m
 row:∀(q g:Nat),gs[q]?=some g->w.ownsRow base 4 1 (slN n g) n (bools (sn q) n)
 ne:∀ g∈gs,g≠gS
 nd:∀ q q' g:Nat,gs[q]?=some g->gs[q']?=some g->q=q'
theorem wM.same(h:wM w base gS m n gs sn)(hs:Same w w' S)(hS:¬ S gS)(hg:∀ g∈gs,¬ S g):wM w' base gS m n gs sn :=
 ⟨aF h.own hs (fun g e=>by simp only[Value.ownBlock,aC5]at e;subst e;exact hS),h.le,fun q g hq=>aF (h.row q g hq) hs (fun k e=>by simp only[Value.ownBlock,aC5]at e;subst e;exact hg _ (aC3 hq)),h.ne,h.nd⟩
theorem wM.below(h:wM w base gS m n gs sn)(hB:Below w.heap.size w w'):wM w' base gS m n gs sn:=h.same (Same.below hB) id (fun _ _=>id)
theorem wM.cell(h:wM w base gS m n gs sn){v:Nat}(hq:gs[q]?=some g)(hv:v<n):w.cell? ⟨gS,q,none⟩=some (slN n g)/\w.cell? ⟨g,v,none⟩=some (.bool (sn q v))/\w.frozen? ⟨g,v,none⟩=false:=by
 have hql:=(aC4.1 hq).1;have:=h.le;refine⟨?_,?_,(h.row q g hq).frozenAt v⟩
 ·rw[h.own.cellAt q (by omega),aD4 (by simpa using hql),aD0,hq];rfl
 ·rw[(h.row q g hq).cellAt v (by omega),gU _ _ _ hv]
theorem wM.set(h:wM w base gS m n gs sn)(hq:gs[q]?=some g)(v:Nat):wM (w.setCell ⟨g,v,none⟩ (.bool true)) base gS m n gs (fun a b=>sn a b||(decide (a=q)&&decide (b=v))):=by
 have hs:=Same.set w ⟨g,v,none⟩ (.bool true);have hgm:=aC3 hq;refine⟨aF h.own hs (fun k e e2=>by simp only[Value.ownBlock,aC5]at e;subst e;exact h.ne g hgm e2.symm),h.le,fun q' g' hq' => ?_,h.ne,h.nd⟩;by_cases e:q'=q
 ·subst e;rw[hq]at hq';injection hq' with hq';subst hq';have:=((h.row q' g hq).stored v (.bool true)).1;rw[RY]at this;have e2:(fun b=>sn q' b||(decide (q'=q')&&decide (b=v)))=(fun b=>sn q' b||decide (b=v)):=by funext b;simp
  rw[e2];exact this
 ·have a1:g'≠g:=fun e2=>by
   subst e2;exact e (h.nd q' q g' hq' hq)
  have:=aF (h.row q' g' hq') hs (fun k e=>by simp only[Value.ownBlock,aC5]at e;subst e;exact a1);have e2:(fun b=>sn q' b||(decide (q'=q)&&decide (b=v)))=sn q':=by funext b;simp[e]
  rw[e2];exact this
theorem wM.add(h:wM w base gS m n gs sn)(hlt:gs.length<m)(g:Nat)(hg:g∉gs)(hgS:g≠gS)(hrow:w.ownsRow base 4 1 (slN n g) n (bools (sn gs.length) n)):wM (w.setCell ⟨gS,gs.length,none⟩ (slN n g)) base gS m n (gs++[g]) sn:=by
 have hs:=Same.set w ⟨gS,gs.length,none⟩ (slN n g);refine⟨?_,by simp;omega,fun q' g' hq' => ?_,fun k hk => ?_,?_⟩
 ·have:=(h.own.stored gs.length (slN n g)).1;have e:(gs.map (slN n)++List.replicate (m-gs.length) (Value.slice none 0 0)).set gs.length (slN n g)=(gs++[g]).map (slN n)++List.replicate (m-(gs++[g]).length) (Value.slice none 0 0):=by
   rw[show m-gs.length=(m-gs.length-1)+1 by omega,List.replicate_succ,aI1 _ _ (by simp),aH6,aJ1,aJ7,aJ3,WT,aF6,show m-(gs.length+1)=m-gs.length-1 by omega,aD3];rfl
  rw[e]at this;exact this
 ·rcases lG hq' with e | ⟨e1,e2⟩
  ·exact aF (h.row q' g' e) hs (fun k ek=>by simp only[Value.ownBlock,aC5]at ek;subst ek;exact h.ne _ (aC3 e))
  ·subst e1 e2;exact aF hrow hs (fun k ek=>by simp only[Value.ownBlock,aC5]at ek;subst ek;exact hgS)
 ·rcases aC9.1 hk with hk | hk
  ·exact h.ne k hk
  ·rw[aF8]at hk;subst hk;exact hgS
 ·intro q q' k h1 h2;rcases lG h1 with e1 | ⟨e1,f1⟩
  ·rcases lG h2 with e2 | ⟨e2,f2⟩
   ·exact h.nd q q' k e1 e2
   ·subst f2;exact absurd (aC3 e1) hg
  ·rcases lG h2 with e2 | ⟨e2,f2⟩
   ·subst f1;exact absurd (aC3 e2) hg
   ·omega
def yM(l:List (Nat×Nat)):List Value:=l.flatMap fun x=>[.int .i64 (x.1:Int),.int .i64 (x.2:Int)]
theorem KF(l:List (Nat×Nat))(x:Nat×Nat):yM (l++[x])=yM l++[.int .i64 (x.1:Int),.int .i64 (x.2:Int)]:=by unfold yM;simp
theorem VX(l:List (Nat×Nat))(j:Nat)(x:Nat×Nat)(h:l[j]?=some x):(yM l)[j*2]?=some (.int .i64 (x.1:Int))/\(yM l)[j*2+1]?=some (.int .i64 (x.2:Int)):=by
 induction l generalizing j with
 | nil=>simp at h
 | cons y l ih =>
  rw[show yM (y::l) = .int .i64 (y.1:Int)::.int .i64 (y.2:Int)::yM l from rfl];cases j with
  | zero=>simp at h;subst h;exact⟨rfl,rfl⟩
  | succ j =>
   rw[aJ5]at h;have:=ih j h;rw[show(j+1)*2=j*2+2 by omega];exact this
end Go.Proofs.YtphjbbbnbmafnaaGreatDoor.G
namespace Go.Proofs.YtphjbbbnbmafnaaGreatDoor.G
open Go.RowKit Go.Shelf RxM
def eH(L:List E3)(u:Nat):List E3:=L.filter fun e=>decide (e.1=(u:Int))
theorem MB(L:List E3)(e:E3)(x:Nat):eH (L++[e]) x=if e.1=(x:Int)then eH L x++[e]else eH L x:=by
 unfold eH;rw[aF7,aG8,List.filter_nil];by_cases h:e.1=(x:Int)
 ·simp[h]
 ·simp[h]
theorem QJ(L:List E3)(x:Nat):(eH L x).length<=L.length:=aE8 _ _
def uV(L:List E3)(a c b:Nat):Prop:=((a:Int),(c:Int),(b:Int))∈L
theorem RA{L:List E3}{a c b:Nat}(h:uV L a c b):((a:Int),(c:Int),(b:Int))∈eH L a:=List.mem_filter.2 ⟨h,by simp⟩
section
variable (L:List E3) (t:Rx) (u n:Nat)
structure Bq (sp:List (Nat×Nat)) (seen:Nat->Nat->Bool) (i:Nat) (X:Nat->Nat->Nat->Nat->Nat->Prop):Prop where
 b:Bfs (uV L) t u sp seen i X
 i:i<=sp.length
 lt:∀ x∈sp,x.1<=size t/\x.2<n
 cnt:sp.length+unseen seen (size t) n<=1+size t*n
def X4(p m q:Nat)(p1 m1 q1 c v:Nat):Prop:=p1=p/\m1=m/\nx t p q1=true/\uV L m c v/\takes (lab t 0 q1) c=true/\q<=q1
def X5(p m q k:Nat)(p1 m1 q1 c v:Nat):Prop:=p1=p/\m1=m/\nx t p q1=true/\uV L m c v/\takes (lab t 0 q1) c=true/\(q<q1\/(q1=q/\((m:Int),(c:Int),(v:Int))∈(eH L m).drop k))
end
variable {L:List E3} {t:Rx} {u n:Nat}
theorem Bq.same{sp:List (Nat×Nat)}{seen:Nat->Nat->Bool}{i:Nat}{X Y:Nat->Nat->Nat->Nat->Nat->Prop}(h:Bq L t u n sp seen i X)(hX:∀ p m q c v,nx t p q=true->uV L m c v->takes (lab t 0 q) c=true->X p m q c v->seen q v=true\/Y p m q c v):Bq L t u n sp seen i Y :=
 ⟨IX h.b hX,h.i,h.lt,h.cnt⟩
theorem SN(hu:u<n):Bq L t u n [(size t,u)] (fun _ _=>false) 0 (fun _ _ _ _ _=>False) :=
 ⟨O5,aC6 _,fun x hx=>by rw[aF8]at hx;subst hx;exact⟨V7 _,hu⟩,by have:=xJ (fun _ _=>false) (size t) n;simp only[aF6];omega⟩
theorem X8{sp:List (Nat×Nat)}{seen:Nat->Nat->Bool}{i p m:Nat}(h:Bq L t u n sp seen i (fun _ _ _ _ _=>False))(hs:sp[i]?=some (p,m)):Bq L t u n sp seen (i+1) (X4 L t p m 0) :=
 ⟨IX (SG h.b hs) fun _ _ _ _ _ _ _ _ h=>.inr ⟨h.1,h.2.1,h.2.2.1,h.2.2.2.1,h.2.2.2.2,aC6 _⟩,(aC4.1 hs).1,h.lt,h.cnt⟩
theorem bq_in{sp:List (Nat×Nat)}{seen:Nat->Nat->Bool}{i p m q:Nat}(h:Bq L t u n sp seen i (X4 L t p m q)):Bq L t u n sp seen i (X5 L t p m q 0) :=
 h.same fun p1 m1 q1 c v _ _ _ h=>.inr ⟨h.1,h.2.1,h.2.2.1,h.2.2.2.1,h.2.2.2.2.1,by
  rcases aG5 q q1 with e | e
  ·exact .inl e
  ·exact .inr ⟨by have:=h.2.2.2.2.2;omega,RA h.2.2.2.1⟩⟩
theorem V9{sp:List (Nat×Nat)}{seen:Nat->Nat->Bool}{i p m q k:Nat}(h:Bq L t u n sp seen i (X5 L t p m q k))(hk:(eH L m).length<=k\/nx t p q=false):Bq L t u n sp seen i (X4 L t p m (q+1)) :=
 h.same fun p1 m1 q1 c v _ _ _ h=>.inr ⟨h.1,h.2.1,h.2.2.1,h.2.2.2.1,h.2.2.2.2.1,by
  rcases h.2.2.2.2.2 with e | ⟨e,h2⟩
  ·omega
  ·rcases hk with hk | hk
   ·rw[aH0 hk]at h2;cases h2
   ·subst e;rw[h.2.2.1]at hk;cases hk⟩
theorem drop_at{α:Type}{l:List α}{k:Nat}{e:α}(h:l[k]?=some e):l.drop k=e::l.drop (k+1):=by
 have hk:=(aC4.1 h).1;rw[aG0 hk];rw[A7 hk]at h;injection h with h;rw[h]
theorem RU{sp:List (Nat×Nat)}{seen:Nat->Nat->Bool}{i p m q k c b:Nat}(h:Bq L t u n sp seen i (X5 L t p m q k))(he:(eH L m)[k]?=some ((m:Int),(c:Int),(b:Int)))(hno:takes (lab t 0 q) c=false\/seen q b=true):Bq L t u n sp seen i (X5 L t p m q (k+1)) :=
 h.same fun p1 m1 q1 c1 v _ _ ht h=>by
  rcases h.2.2.2.2.2 with e | ⟨e,h2⟩
  ·exact .inr ⟨h.1,h.2.1,h.2.2.1,h.2.2.2.1,h.2.2.2.2.1,.inl e⟩
  ·rw[drop_at he]at h2;rcases aF5.1 h2 with e2 | e2
   ·injection e2 with _ e2;injection e2 with e3 e4;have e3:c1=c:=by omega
    have e4:v=b:=by omega
    subst e e3 e4;rcases hno with hno | hno
    ·rw[ht]at hno;cases hno
    ·exact .inl hno
   ·exact .inr ⟨h.1,h.2.1,h.2.2.1,h.2.2.2.1,h.2.2.2.2.1,.inr ⟨e,e2⟩⟩
theorem aAG{p q:Nat}(h:nx t p q=true):q<size t:=by
 unfold nx at h;split at h
 ·have:=eD _ _ _ h;omega
 ·have:=(fE _ _ _ _ h).2;omega
theorem ZL{sp:List (Nat×Nat)}{seen:Nat->Nat->Bool}{i p m q:Nat}(h:Bq L t u n sp seen i (X4 L t p m q))(hq:size t<=q):Bq L t u n sp seen i (fun _ _ _ _ _=>False) :=
 h.same fun p1 m1 q1 c v h0 _ _ h=>by
  have:=aAG h0;have:=h.2.2.2.2.2;omega
theorem aAZ{sp:List (Nat×Nat)}{seen:Nat->Nat->Bool}{i p m q k c b:Nat}(h:Bq L t u n sp seen i (X5 L t p m q k))(hs:(p,m)∈sp)(he:(eH L m)[k]?=some ((m:Int),(c:Int),(b:Int)))(hn:nx t p q=true)(ht:takes (lab t 0 q) c=true)(hno:seen q b=false)(hb:b<n):
 Bq L t u n (sp++[(q,b)]) (fun x y=>seen x y||(decide (x=q)&&decide (y=b))) i (X5 L t p m q (k+1)):=by
 have hq:=aAG hn;have hE:uV L m c b:=(List.mem_filter.1 (aC3 he)).1;have hX:∀ p1 m1 q1 c1 v1,X5 L t p m q k p1 m1 q1 c1 v1->(q1=q/\v1=b)\/X5 L t p m q (k+1) p1 m1 q1 c1 v1:=fun p1 m1 q1 c1 v1 h=>by
  rcases h.2.2.2.2.2 with e | ⟨e,h2⟩
  ·exact .inr ⟨h.1,h.2.1,h.2.2.1,h.2.2.2.1,h.2.2.2.2.1,.inl e⟩
  ·rw[drop_at he]at h2;rcases aF5.1 h2 with e2 | e2
   ·injection e2 with _ e2;injection e2 with e3 e4;exact .inl ⟨e,by omega⟩
   ·exact .inr ⟨h.1,h.2.1,h.2.2.1,h.2.2.2.1,h.2.2.2.2.1,.inr ⟨e,e2⟩⟩
 have hB:=ZV h.b h.i q b (h.b.way hs hn hE ht) hX;have hf:(upd seen q fun x=>seen q x||x == b)=(fun x y=>seen x y||(decide (x=q)&&decide (y=b))):=by
  funext x y;unfold upd;by_cases e:x=q
  ·subst e;rw[if_pos rfl];simp[BEq.beq]
  ·rw[if_neg e];simp[e]
 rw[hf]at hB;refine⟨hB,by have:=h.i;simp;omega,fun x hx => ?_,?_⟩
 ·rcases aC9.1 hx with e | e
  ·exact h.lt x e
  ·rw[aF8]at e;subst e;exact⟨by omega,hb⟩
 ·have h1:=D9 (seen:=seen) (seen':=fun x y=>seen x y||(decide (x=q)&&decide (y=b))) (n:=size t) (P:=n) (fun v p h=>by simp[h]) q b hq hb hno (by simp);have:=h.cnt;rw[WT,aF6];omega
structure rC (w:World) (base gS gP cP m n:Nat) (gs:List Nat) (sn:Nat->Nat->Bool) (sp:List (Nat×Nat)):Prop where
 sn:wM w base gS m n gs sn
 gl:gs.length=m
 sp:w.ownsRow base 167 2 (.slice (some ⟨gP,0,none⟩) sp.length cP) sp.length (yM sp)
 ne:gP≠gS/\gP∉gs
theorem rC.below{w w':World}{base gS gP cP m n:Nat}{gs:List Nat}{sn:Nat->Nat->Bool}{sp:List (Nat×Nat)}(h:rC w base gS gP cP m n gs sn sp)(hB:Below w.heap.size w w'):rC w' base gS gP cP m n gs sn sp :=
 ⟨h.sn.below hB,h.gl,aF h.sp (Same.below hB) (fun _ _=>id),h.ne⟩
theorem rC.set{w:World}{base gS gP cP m n:Nat}{gs:List Nat}{sn:Nat->Nat->Bool}{sp:List (Nat×Nat)}(h:rC w base gS gP cP m n gs sn sp){q g:Nat}(hq:gs[q]?=some g)(v:Nat):rC (w.setCell ⟨g,v,none⟩ (.bool true)) base gS gP cP m n gs (fun a b=>sn a b||(decide (a=q)&&decide (b=v))) sp :=
 ⟨h.sn.set hq v,h.gl,aF h.sp (Same.set w ⟨g,v,none⟩ (.bool true)) (fun k e e2=>by
  simp only[Value.ownBlock,aC5]at e;subst e;exact h.ne.2 (by rw[e2];exact aC3 hq)),h.ne⟩
theorem rC.push{w w2:World}{base gS gP cP m n:Nat}{gs:List Nat}{sn:Nat->Nat->Bool}{sp:List (Nat×Nat)}(h:rC w base gS gP cP m n gs sn sp)(x:Nat×Nat)(g cap:Nat)(hown:w2.ownsRow base 167 2 (.slice (some ⟨g,0,none⟩) (sp.length+1) cap) (sp.length+1) (yM sp++[.int .i64 (x.1:Int),.int .i64 (x.2:Int)]))
 (hg:((Value.slice (some ⟨gP,0,none⟩) sp.length cP).ownBlock=some g/\w.grownBy w2 (some g))\/(g=w.heap.size/\w.grownBy w2 none)):rC w2 base gS g cap m n gs sn (sp++[x]):=by
 have hs:=dN hg;have hSl:=(h.sn.own.lt gS rfl).2;have hgl:∀ k∈gs,k<w.heap.size:=fun k hk=>by
  obtain⟨q,hq⟩:=List.getElem?_of_mem hk;exact((h.sn.row q k hq).lt k rfl).2
 have a2:g=gP\/g=w.heap.size:=by
  rcases hg with ⟨e,_⟩ | ⟨e,_⟩
  ·simp only[Value.ownBlock,aC5]at e;exact .inl e.symm
  ·exact .inr e
 refine⟨h.sn.same hs (fun e => ?_) (fun k hk e => ?_),h.gl,?_,?_,fun hm => ?_⟩
 ·simp only[Value.ownBlock,aC5]at e;exact h.ne.1 e
 ·simp only[Value.ownBlock,aC5]at e;exact h.ne.2 (by rw[e];exact hk)
 ·rw[WT,aF6,KF];exact hown
 ·rcases a2 with e | e
  ·rw[e];exact h.ne.1
  ·omega
 ·rcases a2 with e | e
  ·rw[e]at hm;exact h.ne.2 hm
  ·have:=hgl g hm;omega
theorem rC.spot{w:World}{base gS gP cP m n:Nat}{gs:List Nat}{sn:Nat->Nat->Bool}{sp:List (Nat×Nat)}(h:rC w base gS gP cP m n gs sn sp){i p k:Nat}(hs:sp[i]?=some (p,k)):w.cell? ⟨gP,i*2,none⟩=some (.int .i64 (p:Int))/\w.cell? ⟨gP,i*2+1,none⟩=some (.int .i64 (k:Int)):=by
 have hi:=(aC4.1 hs).1;have:=VX sp i (p,k) hs;exact⟨by rw[h.sp.cellAt (i*2) (by omega)];exact this.1,by rw[h.sp.cellAt (i*2+1) (by omega)];exact this.2⟩
end Go.Proofs.YtphjbbbnbmafnaaGreatDoor.G
