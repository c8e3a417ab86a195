/- Parts: DJn DLs DGo DGs DGl DGa DZr DBw. -/
import Derived.Test.YtphjbbbnbmafnaaGreatDoorDTr
import Derived.Test.YtphjbbbnbmafnaaGreatDoorRxC
set_option maxHeartbeats 16000000
set_option maxRecDepth 100000
namespace Go.Proofs.YtphjbbbnbmafnaaGreatDoor.G
open Go.RowKit Go.Shelf RxM
variable {w:World} {W a b:Nat} {v:Value} {M:Nat->Nat->Bool}
attribute [local go_sem] Oper.semAt_some
def fV(w:World)(W:Nat)(v:Value)(M:Nat->Nat->Bool):Prop:=∃ cs:Array Value,w.heap[W]?=some (.cells cs 160 (0,0))/\cs.size=40402/\cs[0]?=some v/\∀ a b,a<201->b<201->cs[1+a*201+b]?=some (.bool (M a b))
def EN(w:World)(v:Value)(l:List Nat):Prop:=∃ a0 cap,v = .slice a0 l.length cap/\∀(j x:Nat),l[j]?=some x->∃ g off,a0=some ⟨g,off,none⟩/\w.cell? ⟨g,off+j,none⟩=some (.int .i64 (x:Int))
theorem fV.same{w':World}{S:Nat->Prop}(h:fV w W v M)(hs:Same w w' S)(hn:¬ S W):fV w' W v M:=by
 obtain⟨cs,h1,h2⟩:=h;exact⟨cs,hs.row h1 hn,h2⟩
theorem fV.cell(h:fV w W v M)(ha:a<201)(hb:b<201):w.cell? ⟨W,1+a*201+b,none⟩=some (.bool (M a b))/\w.frozen? ⟨W,1+a*201+b,none⟩=false:=by
 obtain⟨cs,h1,h2,h3,h4⟩:=h;exact⟨by rw[cell_of_row _ _ (1+a*201+b) _ _ _ h1];exact h4 a b ha hb,frozen_of_row _ _ _ _ _ h1⟩
theorem fV.set(h:fV w W v M)(hb:b<201):fV (w.setCell ⟨W,1+a*201+b,none⟩ (.bool true)) W v (fun x y=>M x y||(decide (x=a)&&decide (y=b))):=by
 obtain⟨cs,h1,h2,h3,h4⟩:=h;refine⟨cs.setIfInBounds (1+a*201+b) (.bool true),aH w W _ _ _ _ _ h1,by simp[h2],?_,fun x y hx hy => ?_⟩
 ·rw[aH1,if_neg (by omega)];exact h3
 ·rw[aH1];by_cases e:1+a*201+b=1+x*201+y
  ·have e1:x=a:=by omega
   have e2:y=b:=by omega
   subst e1 e2;rw[if_pos rfl,if_pos (by omega)];simp
  ·rw[if_neg e,h4 x y hx hy];have:(decide (x=a)&&decide (y=b))=false:=by
    rw[aK4,decide_eq_false_iff_not,decide_eq_false_iff_not];rcases Nat.decEq x a with h | h
    ·exact .inl h
    ·subst h;exact .inr (fun e2=>by subst e2;exact e rfl)
   show _=some (Value.bool (M x y||(decide (x=a)&&decide (y=b))));rw[this,Bool.or_false]
theorem fV.is{M':Nat->Nat->Bool}(h:fV w W v M)(he:∀ x y,M x y=M' x y):fV w W v M':=by
 have:M=M':=by funext x y;exact he x y
 rwa [<-this]
theorem tH(W:Nat)(v va vb:Value)(la lb:List Nat)(M:Nat->Nat->Bool)(w:World)(h:fV w W v M)(ha:EN w va la)(hb:EN w vb lb)(hna:∀ g,va.ownBlock=some g->g≠W)(hnb:∀ g,vb.ownBlock=some g->g≠W)(h1:∀ x∈la,x<201)(h2:∀ x∈lb,x<201)(hl1:la.length<=1000)(hl2:lb.length<=1000):
 Calls Tryz.prog 83 #[.pointer (some ⟨W,0,none⟩),va,vb] w fun e w'=>e = .returned (.tuple #[])/\fV w' W v (fun x y=>M x y||(decide (x∈la)&&decide (y∈lb)))/\Same w w' (fun k=>k=W)/\(∀ n,n<=W->Below n w w'):=by
 obtain⟨a0,ca,rfl,hac⟩:=ha;obtain⟨b0,cb,rfl,hbc⟩:=hb;have HA:Hid _:=hac;have HB:Hid _:=hbc;have HM:Hid (fV w W v M):=h;clear hac hbc h;go_enter Tryz.func83,Tryz.ntmps83
 go_wp2;go_loopw [6,7] (fun s6 _ wr=>∃ i:Nat,i<=la.length/\s6 = .int .i64 (i:Int)/\Hid (fV wr W v (fun x y=>M x y||(decide (x∈la.take i)&&decide (y∈lb)))/\Same w wr (fun k=>k=W)/\∀ n,n<=W->Below n w wr)) (fun s6 _ _=>la.length-(intOf s6).toNat)
 case atStart=>exact⟨0,by omega,rfl,HM.out.is (fun x y=>by simp),(Same.below (YQ _ _)).mono (fun _ _ e=>e.elim),fun n _=>YQ _ _⟩
 case round =>
  obtain⟨i,hi,rfl,HI⟩:=hrel;have HJ:Hid (fV wr W v (fun x y=>M x y||(decide (x∈la.take i)&&decide (y∈lb)))/\Same w wr (fun k=>k=W)/\∀ n,n<=W->Below n w wr):=HI.out;clear HI;by_cases bX:i<la.length
  ·have hiI:(i:Int)<(la.length:Int):=by omega
   obtain⟨xa,d0⟩:∃ xa,la[i]?=some xa:=⟨_,A7 bX⟩;have cX:=h1 xa (aC3 d0);obtain⟨ga,offa,rfl,hca⟩:=HA.out i xa d0;have HX:Hid (_/\_):=⟨d0,hca⟩;clear d0 hca;go_wp2;go_loopw [7] (fun s7 w2=>∃ k:Nat,k<=lb.length/\s7 = .int .i64 (k:Int)/\Hid (fV w2 W v (fun x y=>(M x y||(decide (x∈la.take i)&&decide (y∈lb)))||(decide (x=xa)&&decide (y∈lb.take k)))/\Same w w2 (fun k=>k=W)/\∀ n,n<=W->Below n w w2)) (fun s7 _=>lb.length-(intOf s7).toNat)
   case atStart=>exact⟨0,by omega,rfl,HJ.out.1.is (fun x y=>by simp),HJ.out.2⟩
   case round =>
    obtain⟨k,hk,rfl,HI⟩:=hrel;have HK:Hid (fV wr W v (fun x y=>(M x y||(decide (x∈la.take i)&&decide (y∈lb)))||(decide (x=xa)&&decide (y∈lb.take k)))/\Same w wr (fun k=>k=W)/\∀ n,n<=W->Below n w wr):=HI.out;clear HI;by_cases hlt2:k<lb.length
    ·have hkI:(k:Int)<(lb.length:Int):=by omega
     obtain⟨xb,d1⟩:∃ xb,lb[k]?=some xb:=⟨_,A7 hlt2⟩;have cG:=h2 xb (aC3 d1);obtain⟨gb,offb,rfl,hcb⟩:=HB.out k xb d1;have ka:=HK.out.2.1.cell HX.out.2 (hna ga rfl);have kb:=HK.out.2.1.cell hcb (hnb gb rfl);have xai:(xa:Int)<201:=by omega
     have xbi:(xb:Int)<201:=by omega
     have hmc:=HK.out.1.cell cX cG;have ua:=fun u=>aC ka u;have ub:=fun u=>aC kb u;have HXb:Hid _:=d1;clear ka kb hcb d1;go_upto_region 6 with fail
     refine bC (n:=9) rfl (by kernel_rfl) (by kernel_rfl) (by kernel_rfl) ?_;simp only[List.dropLast];repeat (gi_big_quiet_step (fail))
     refine wpQuietIn_nil ?_;rintro wx ⟨u,rfl⟩;have cY:=aD wr u;have d9:=HK.out.1.same (Same.below cY) id;have cB:=d9.cell cX cG;have c1:=cB.1;have c2:=cB.2;have cA:=d9.set (a:=xa) cG;have hWl:W<wr.heap.size:=by obtain⟨cs,hcs,_⟩:=HK.out.1;exact(aC2.1 hcs).1
     have HN:Hid (fV ((ext wr u).setCell ⟨W,1+xa*201+xb,none⟩ (.bool true)) W v (fun x y=>(M x y||(decide (x∈la.take i)&&decide (y∈lb)))||(decide (x=xa)&&decide (y∈lb.take (k+1))))/\Same w ((ext wr u).setCell ⟨W,1+xa*201+xb,none⟩ (.bool true)) (fun k=>k=W)/\∀ n,n<=W->Below n w ((ext wr u).setCell ⟨W,1+xa*201+xb,none⟩ (.bool true))):=(⟨cA.is (fun x y=>by
      rw[aE0,HXb.out];by_cases e1:x=xa
      ·simp[e1,Bool.or_assoc]
      ·simp[e1]),((HK.out.2.1.trans (Same.below cY)).trans (Same.set _ ⟨W,1+xa*201+xb,none⟩ (.bool true))).mono (fun k _ e=>by rcases e with (e | e) | e;exact e;exact e.elim;exact e),fun n hn=>((HK.out.2.2 n hn).trans (cY.mono (by omega))).setCell (p:=⟨W,1+xa*201+xb,none⟩) hn _⟩:_/\_/\_)
     clear cY d9 cB cA hmc;simp only[List.getLast];refine⟨by intros;trivial,?_⟩;go_simp;clear ua ub c1 c2;go_wp2;go_roundw;case rel=>exact⟨k+1,by omega,by go_num,HN.out⟩
     case measure=>simp[intOf];omega
    ·obtain rfl:k=lb.length:=by omega
     have HN:Hid (fV wr W v (fun x y=>M x y||(decide (x∈la.take (i+1))&&decide (y∈lb)))/\Same w wr (fun k=>k=W)/\∀ n,n<=W->Below n w wr):=(⟨HK.out.1.is (fun x y=>by
      rw[aE3,aE0,HX.out.1];by_cases e1:x=xa
      ·simp[e1];cases M xa y <;> cases decide (y∈lb) <;> simp
      ·simp[e1]),HK.out.2⟩:_/\_/\_)
     go_wp2;go_roundw;case rel=>exact⟨i+1,by omega,by go_num,HN.out⟩
     case measure=>simp[intOf];omega
  ·obtain rfl:i=la.length:=by omega
   go_wp2;refine bodyPost_end (results_none rfl _ _ _) rfl ⟨rfl,HJ.out.1.is (fun x y=>by rw[aE3]),HJ.out.2⟩
end Go.Proofs.YtphjbbbnbmafnaaGreatDoor.G
namespace Go.Proofs.YtphjbbbnbmafnaaGreatDoor.G
open Go.RowKit Go.Shelf RxM
variable {w w' w1 w2 wr:World} {S:Nat->Prop} {W base h k n:Nat} {vF vL a2 a8 vl a9:Value} {L:List (Option Nat)} {M MM:Nat->Nat->Bool} {t t1:Rx}
structure Lst (w:World) (b:Nat) (v:Value) (l:List Nat):Prop where
 own:w.ownsRow b 3 1 v l.length (ints l)
 nil:l=[]->v = .slice none 0 0
theorem Lst.same{b:Nat}{v:Value}{l:List Nat}(h:Lst w b v l)(hs:Same w w' S)(hn:∀ g,v.ownBlock=some g->¬ S g):Lst w' b v l:=⟨aF h.own hs hn,h.nil⟩
theorem qC(w:World)(b:Nat):Lst w b (.slice none 0 0) []:=⟨⟨rfl,.inl ⟨rfl,rfl⟩⟩,fun _=>rfl⟩
theorem Lst.down{b b2:Nat}{v:Value}{l:List Nat}(h:Lst w b v l)(hb:b2<=b):Lst w b2 v l:=⟨l8 h.own hb,h.nil⟩
theorem Lst.int{b:Nat}{v:Value}{l:List Nat}(h:Lst w b v l):EN w v l:=by
 obtain⟨h1,h2⟩:=h.own;rcases h2 with ⟨rfl,h3⟩ | ⟨g,cap,cur,rfl,hb,hg,_⟩
 ·refine⟨none,0,by rw[h3],fun j x hj => ?_⟩;rw[aI6.1 h3]at hj;simp at hj
 ·refine⟨_,cap,rfl,fun j x hj=>⟨g,0,rfl,?_⟩⟩;have hjl:=(aC4.1 hj).1;rw[aG1,h.own.cellAt j (by omega),aD0,hj];rfl
theorem XJ(w:World):(Builtin.append_ #[64,64] 64 #[.slice none 0 0,.slice none 0 0]).run Tryz.prog w = .ok (.slice none 0 0) w:=by
 simp[go_sem]
theorem TP(w:World)(g n cap:Nat)(h:n<=cap):(Builtin.append_ #[64,64] 64 #[.slice (some ⟨g,0,none⟩) n cap,.slice none 0 0]).run Tryz.prog w = .ok (.slice (some ⟨g,0,none⟩) n cap) w:=by
 simp[go_sem,h]
theorem Tryz.infoIi:(Tryz.prog.info? 3).map (fun i=>(i.zero,i.size,i.bytes))=some (some (.int .i64 0),1,8):=by kernel_rfl
theorem SQ(l m:List Nat):ints (l++m)=ints l++ints m:=by unfold ints;simp
theorem vU(w:World)(b b2:Nat)(v vf:Value)(l lf:List Nat)(h:Lst w b v l)(hf:Lst w b2 vf lf)(c8:l.length+lf.length<=1000000)(hb:b<=w.heap.size):
 ∃ v' w',(Builtin.append_ #[64,64] 64 #[v,vf]).run Tryz.prog w = .ok v' w'/\Lst w' b v' (l++lf)/\Same w w' (fun k=>v.ownBlock=some k)/\Below b w w'/\(∀ g,v'.ownBlock=some g->v.ownBlock=some g\/w.heap.size<=g):=by
 obtain⟨i1,d8,dT,d2,cN⟩:=info_parts Tryz.infoIi;by_cases he:lf=[]
 ·subst he;rw[hf.nil rfl,aE4];rcases h.own.2 with ⟨rfl,_⟩ | ⟨g,cap,cur,rfl,_,_,hnc,_⟩
  ·exact⟨_,w,XJ w,h,(Same.below (YQ _ _)).mono (fun _ _ e=>e.elim),YQ _ _,fun g e=>.inl e⟩
  ·exact⟨_,w,TP w g _ cap hnc,h,(Same.below (YQ _ _)).mono (fun _ _ e=>e.elim),YQ _ _,fun g e=>.inl e⟩
 ·have cU:0<lf.length:=List.length_pos_iff.2 he;obtain⟨g2,d5,hvf,_,_⟩:=hf.own.form cU;subst hvf;obtain⟨g,cap,w',hr,h2,h3⟩:=lN (P:=Tryz.prog) w 64 64 b 3 i1 (.int .i64 0) 1 8 Tryz.underlying64 d8 dT d2 cN rfl (by decide) v l.length (ints l) h.own ⟨g2,0,none⟩ lf.length d5 (ints lf) (by simp) (fun j u hj=>by
   have hjl:=(aC4.1 hj).1;have:=hf.own.cellAt j (by simp at hjl ⊢;omega);rw[hj]at this;cases j with
   | zero=>simpa[Addr.add]using this
   | succ j=>simpa[Addr.add]using this) (fun u hu=>by
   simp only[ints,List.mem_map]at hu;obtain⟨x,_,rfl⟩:=hu;rfl) cU (by unfold maxLen;omega) (by omega) hb
  refine⟨_,w',hr,⟨by rw[WT,SQ];exact h2,fun e=>by simp at e;exact absurd e.2 he⟩,dN h3,?_,fun k e => ?_⟩
  ·rcases h3 with ⟨e,hg⟩ | ⟨_,hg⟩
   ·exact(YQ _ w).grown hg hb (fun k e2=>by injection e2 with e2;subst e2;exact(h.own.lt g e).1)
   ·exact(YQ _ w).grown hg hb (fun k e2=>by cases e2)
  ·simp only[Value.ownBlock,aC5]at e;subst e;rcases h3 with ⟨e,_⟩ | ⟨e,_⟩
   ·exact .inl e
   ·exact .inr (by omega)
theorem aY{ops:Array Oper}{rest:List Oper}{o:Oper}{a:Act}{Q:Exit->Act->World->Prop}(w:World)(hgd:o.guard=none)(s x:Operand)
 (ho:o.op = .call { callee:=.builtin .append,args:=#[s,x],argTypes:=#[64,64] }) (hty:o.type=64) (b b2:Nat) (v vf:Value) (l lf:List Nat) (hs:a.eval s=v) (hx:a.eval x=vf) (h:Lst w b v l) (hf:Lst w b2 vf lf) (c8:l.length+lf.length<=1000000) (hb:b<=w.heap.size)
 (hK:∀ v' w',Lst w' b v' (l++lf)->Same w w' (fun k=>v.ownBlock=some k)->Below b w w'->(∀ g,v'.ownBlock=some g->v.ownBlock=some g\/w.heap.size<=g)->wpList Tryz.prog ops Q rest (a.put o.dst v') w'):wpList Tryz.prog ops Q (o::rest) a w :=
 wpList_plain hgd fun _ hK2=>by
  obtain⟨v',w',hr,h1,h2,h3,h4⟩:=vU w b b2 v vf l lf h hf c8 hb;unfold Oper.wp execOp;simp only[ho,resolve,invoke,builtin,Sem.run_bind,Sem.run_pure,aJ8,List.map_toArray,aJ4,List.map_nil,hs,hx,hty,hr];exact hK2 _ _ (hK v' w' h1 h2 h3 h4)
abbrev N9(L:List (Option Nat)):List Value:=L.map fun(o:Option Nat)=>Value.int .i64 (NB o)
structure dH (w:World) (base W:Nat) (vL:Value) (L:List (Option Nat)) (M:Nat->Nat->Bool):Prop where
 mat:fV w W vL M
 own:w.ownsRow base 3 1 vL L.length (N9 L)
 ne:∀ g,vL.ownBlock=some g->g≠W
 bW:base<=W
theorem dH.same(h:dH w base W vL L M)(hs:Same w w' S)(hW:¬ S W)(hn:∀ g,vL.ownBlock=some g->¬ S g):dH w' base W vL L M:=⟨h.mat.same hs hW,aF h.own hs hn,h.ne,h.bW⟩
theorem dH.lt(h:dH w base W vL L M):W<w.heap.size/\∀ g,vL.ownBlock=some g->base<=g/\g<w.heap.size:=by
 obtain⟨cs,h1,_⟩:=h.mat;exact⟨(aC2.1 h1).1,h.own.lt⟩
theorem dH.is{M':Nat->Nat->Bool}(h:dH w base W vL L M)(he:∀ x y,M x y=M' x y):dH w base W vL L M':=⟨h.mat.is he,h.own,h.ne,h.bW⟩
theorem fV.head{v:Value}(h:fV w W v M):w.cell? ⟨W,0,none⟩=some v/\w.frozen? ⟨W,0,none⟩=false:=by
 obtain⟨cs,h1,h2,h3,_⟩:=h;exact⟨by rw[cell_of_row _ _ 0 _ _ _ h1];exact h3,frozen_of_row _ _ _ _ _ h1⟩
theorem fV.lab{v:Value}(h:fV w W v M)(v':Value):fV (w.setCell ⟨W,0,none⟩ v') W v' M:=by
 obtain⟨cs,h1,h2,h3,h4⟩:=h;refine⟨cs.setIfInBounds 0 v',aH w W _ _ _ _ _ h1,by simp[h2],?_,fun a b ha hb => ?_⟩
 ·rw[aH1,if_pos rfl,if_pos (by omega)]
 ·rw[aH1,if_neg (by omega)];exact h4 a b ha hb
theorem sH{B:Nat}{t:TypeId}{a b c:Value}(h:w.heap[B]?=some (.cells #[a,b,c] t (0,0))):w.cell? ⟨B,0,none⟩=some a/\w.cell? ⟨B,1,none⟩=some b/\w.cell? ⟨B,2,none⟩=some c :=
 ⟨by rw[cell_of_row _ _ 0 _ _ _ h];rfl,by rw[cell_of_row _ _ 1 _ _ _ h];rfl,by rw[cell_of_row _ _ 2 _ _ _ h];rfl⟩
def mU(base W:Nat)(t:Rx)(vL:Value)(L:List (Option Nat))(M:Nat->Nat->Bool)(w:World)(e:Ending)(w':World):Prop :=
 ∃ vf vl a3,e = .returned (.tuple #[vf,vl,.bool (nul t)])/\dH w' base W a3 (L++aM t) (fun x y=>M x y||nxt t L.length x y)/\Lst w' w.heap.size vf (aW t L.length)/\Lst w' w.heap.size vl (lasts t L.length) /\
  (∀ g,vf.ownBlock=some g\/vl.ownBlock=some g->a3.ownBlock≠some g)/\Same w w' (fun k=>k=W\/vL.ownBlock=some k)/\Below base w w'/\(∀ g,a3.ownBlock=some g->vL.ownBlock=some g\/w.heap.size<=g)
def MG(h:Nat):Prop:=∀(base W:Nat) (vL:Value) (L:List (Option Nat)) (M:Nat->Nat->Bool) (p:Nat) (t:Rx) (F:Nat->Prop) (w:World),dS w F h p t->(∀ k,F k->k<base)->dH w base W vL L M->L.length+size t<=200->Calls Tryz.prog 82 #[.pointer (some ⟨W,0,none⟩),.pointer (some ⟨p,0,none⟩)] w (mU base W t vL L M w)
theorem FO(w:World)(x:Nat):Lst (w.alloc (.cells #[.int .i64 (x:Int)] 3)) w.heap.size (.slice (some ⟨w.heap.size,0,none⟩) 1 1) [x] :=
 ⟨⟨rfl,.inr ⟨w.heap.size,1,_,rfl,V7 _,heap_alloc_new w _,V7 _,by unfold maxLen;omega,rfl,rfl⟩⟩,fun e=>by cases e⟩
theorem dH.push(h:dH w base W vL L M)(o:Option Nat)(g cap:Nat)(hown:w2.ownsRow base 3 1 (.slice (some ⟨g,0,none⟩) (L.length+1) cap) (L.length+1) (N9 L++[.int .i64 (NB o)]))(hg:(vL.ownBlock=some g/\w.grownBy w2 (some g))\/(g=w.heap.size/\w.grownBy w2 none)):
 dH (w2.setCell ⟨W,0,none⟩ (.slice (some ⟨g,0,none⟩) (L.length+1) cap)) base W (.slice (some ⟨g,0,none⟩) (L.length+1) cap) (L++[o]) M/\Same w (w2.setCell ⟨W,0,none⟩ (.slice (some ⟨g,0,none⟩) (L.length+1) cap)) (fun k=>k=W\/vL.ownBlock=some k)/\Below base w (w2.setCell ⟨W,0,none⟩ (.slice (some ⟨g,0,none⟩) (L.length+1) cap))/\(vL.ownBlock=some g\/w.heap.size<=g):=by
 have bX:=h.lt;have cM:=dN hg;have aL:=Same.set w2 ⟨W,0,none⟩ (.slice (some ⟨g,0,none⟩) (L.length+1) cap);have hgg:vL.ownBlock=some g\/w.heap.size<=g:=by
  rcases hg with ⟨e,_⟩ | ⟨e,_⟩
  ·exact .inl e
  ·exact .inr (by omega)
 have hgW:g≠W:=by
  rcases hgg with e | e
  ·exact h.ne g e
  ·omega
 have cH:Below base w w2:=by
  have:=h.bW;rcases hg with ⟨e,hg⟩ | ⟨_,hg⟩
  ·exact(YQ _ w).grown hg (by omega) (fun k e2=>by injection e2 with e2;subst e2;exact(bX.2 g e).1)
  ·exact(YQ _ w).grown hg (by omega) (fun k e2=>by cases e2)
 refine⟨⟨(h.mat.same cM fun e=>h.ne W e rfl).lab _,?_,fun k e => ?_,h.bW⟩,(cM.trans aL).mono (fun k _ e=>e.elim .inr .inl),cH.setCell (p:=⟨W,0,none⟩) h.bW _,hgg⟩
 ·rw[WT,aF6,show N9 (L++[o])=N9 L++[.int .i64 (NB o)] by simp];exact aF hown aL (fun k e=>by simp only[Value.ownBlock,aC5]at e;subst e;exact hgW)
 ·simp only[Value.ownBlock,aC5]at e;subst e;exact hgW
theorem NH(base W:Nat)(vL:Value)(L:List (Option Nat))(M:Nat->Nat->Bool)(p:Nat)(o:Option Nat)(v:Value)(w:World)(hp:w.heap[p]?=some (.cells #[.int .u8 97,.int .i64 (NB o),v] 154 (0,0)))(h:dH w base W vL L M)(hL:L.length<=200):
 Calls Tryz.prog 82 #[.pointer (some ⟨W,0,none⟩),.pointer (some ⟨p,0,none⟩)] w (mU base W (.sym o) vL L M w):=by
 have bX:=h.lt;have cP:=h.bW;obtain⟨k0,k1,k2⟩:=sH hp;obtain⟨m0,mz⟩:=h.mat.head;obtain⟨i1,d8,dT,d2,cN⟩:=info_parts Tryz.infoIi;obtain⟨lb,cS⟩:∃ lb,NB o=lb:=⟨_,rfl⟩;have HLb:Hid _:=cS;rw[cS]at k1;obtain⟨a0,cL,hvL⟩:∃ a0 cL,vL = .slice a0 L.length cL:=by
  rcases h.own.2 with ⟨h0,h1⟩ | ⟨g,cap,cur,h1,_⟩
  ·exact⟨none,0,by rw[h0,h1]⟩
  ·exact⟨_,_,h1⟩
 subst hvL;have HH:Hid _:=h;have a1:=fun o=>cell_kept (aA w o) _ _ m0;have b1:=fun o=>cell_kept (aA w o) _ _ k1;clear cS hp h;go_enter Tryz.func82,Tryz.ntmps82
 go_upto_region 4 with fail
 go_cut [] (fun wx=>∃ g cap,Hid (dH wx base W (.slice (some ⟨g,0,none⟩) (L.length+1) cap) (L++[o]) M/\Same w wx (fun k=>k=W\/(Value.slice a0 L.length cL).ownBlock=some k)/\Below base w wx/\((Value.slice a0 L.length cL).ownBlock=some g\/w.heap.size<=g)))
 case first =>
  go_region_law (refine bI _ (by rfl) _ _ _ (by rfl) base 3 i1 _ 1 8 Tryz.underlying64 d8 dT d2 cN rfl (by omega) (.slice a0 L.length cL) L.length (N9 L) (by rfl) (World.ownsRow.drew (World.ownsRow.alloc HH.out.own _)) ⟨w.heap.size,0,none⟩ 1 1 [.int .i64 lb] (by rfl) (by rfl) (aG4 (cs:=#[.int .i64 lb]) (t:=3) (fr:=(0,0)) (heap_alloc_new w _)) (by simp[Value.oneCell']) (by omega) (by unfold maxLen;omega) (by omega) (by simp;omega) ?_;intro g5 cap5 w5 hown5 hg5;have hmm:=(HH.out.mat.same (Same.below ((aA w (.cells #[.int .i64 lb] 3)).drew)) id).same (dN hg5) (fun e=>HH.out.ne W e rfl);obtain⟨q0,qz⟩:=hmm.head;clear hmm)
  all_goals
   have cQ:=(aA w (.cells #[.int .i64 lb] 3)).drew;have cV:=(HH.out.same (Same.below cQ) id (fun _ _=>id)).push o g5 cap5 (by rw[HLb.out];exact hown5) hg5;have HF:Hid (_/\_/\_/\_):=⟨cV.1,((Same.below cQ).trans cV.2.1).mono (T:=fun k=>k=W\/(Value.slice a0 L.length cL).ownBlock=some k) (fun k _ e=>e.elim False.elim id),(cQ.mono (by omega)).trans cV.2.2.1,(cV.2.2.2.imp id (fun e=>by have:=cQ.size;omega):(Value.slice a0 L.length cL).ownBlock=some g5\/w.heap.size<=g5)⟩;clear cQ cV hown5 hg5 q0 qz a1 b1;go_wp2_with fail
   go_meet;case rel=>exact⟨_,_,HF.out⟩
 case rest =>
  obtain⟨g,cap,HC⟩:=hcut;have HD:Hid (dH wc base W (.slice (some ⟨g,0,none⟩) (L.length+1) cap) (L++[o]) M/\Same w wc (fun k=>k=W\/(Value.slice a0 L.length cL).ownBlock=some k)/\Below base w wc/\((Value.slice a0 L.length cL).ownBlock=some g\/w.heap.size<=g)):=HC.out;clear HC a1 b1 k0 k1 k2 m0 mz;go_wp2;have cH:=aA wc (.cells #[.int .i64 (L.length:Int)] 3);have b6:=aA (wc.alloc (.cells #[.int .i64 (L.length:Int)] 3)) (.cells #[.int .i64 (L.length:Int)] 3);have d6:=chain cH b6;have hzc:w.heap.size<=wc.heap.size:=HD.out.2.1.1;have l1:=((FO wc L.length).same (Same.below b6) (fun _ _=>id)).down hzc;have l2:=FO (wc.alloc (.cells #[.int .i64 (L.length:Int)] 3)) L.length;rw[aD1]at l2;have hlw:=HD.out.1.lt;refine bodyPost_ret (results_tmp3 rfl _ _ _) rfl ⟨_,_,_,rfl,((HD.out.1.same (Same.below d6) id (fun _ _=>id))).is (fun x y=>by simp[nxt]),l1,l2.down (by omega),fun k e e2 => ?_,((HD.out.2.1.trans (Same.below d6))).mono (fun k _ e=>e.elim id False.elim),HD.out.2.2.1.trans (d6.mono (by omega)),fun k e => ?_⟩
  ·have hk:=(hlw.2 k e2).2;rcases e with e | e <;> (simp only[Value.ownBlock,aC5]at e;omega)
  ·simp only[Value.ownBlock,aC5]at e;subst e;exact HD.out.2.2.2
theorem uT(h:k+size t<=n):∀ x∈aW t k,x<n:=fun x hx=>by
 have:=eD _ _ _ ((gJ t k x).1 hx);omega
theorem yL(h:k+size t<=n):∀ x∈lasts t k,x<n:=fun x hx=>by
 have:=iC _ _ _ ((fI t k x).1 hx);omega
theorem jX(t:Rx)(k x:Nat):decide (x∈aW t k)=fst t k x:=by
 rw[aI5,decide_eq_true_eq,gJ]
theorem oU(t:Rx)(k x:Nat):decide (x∈lasts t k)=lst t k x:=by
 rw[aI5,decide_eq_true_eq,fI]
theorem OE(IH:MG h)(base W:Nat)(vL:Value)(L:List (Option Nat))(M:Nat->Nat->Bool)(p p1 g cap:Nat)(lb:Int)(t1:Rx)(F:Nat->Prop)(w:World)(hp:w.heap[p]?=some (.cells #[.int .u8 42,.int .i64 lb,.slice (some ⟨g,0,none⟩) 1 cap] 154 (0,0)))(hg:w.cell? ⟨g,0,none⟩=some (.pointer (some ⟨p1,0,none⟩)))(hT:dS w F h p1 t1)(hF:∀ k,F k->k<base)(hw:dH w base W vL L M)(hL:L.length+size t1<=200):
 Calls Tryz.prog 82 #[.pointer (some ⟨W,0,none⟩),.pointer (some ⟨p,0,none⟩)] w (mU base W (.star t1) vL L M w):=by
 have bX:=hw.lt;have cP:=hw.bW;obtain⟨k0,k1,k2⟩:=sH hp;have HI:Hid (Calls Tryz.prog 82 #[.pointer (some ⟨W,0,none⟩),.pointer (some ⟨p1,0,none⟩)] w _):=IH base W vL L M p1 t1 F w hT hF hw hL;clear IH hT hF hw hp;go_enter Tryz.func82,Tryz.ntmps82
 go_wp2_with fail
 refine HI.out.mono ?_;rintro e w1 ⟨vf,vl,a2,rfl,hw1,hf,hl,dM,cM,cH,hv1⟩;have d2:w.heap.size<=w1.heap.size:=cM.1;have cI:∀ k,vf.ownBlock=some k->k≠W:=fun k e=>by have:=(hf.own.lt k e).1;omega
 have cJ:∀ k,vl.ownBlock=some k->k≠W:=fun k e=>by have:=(hl.own.lt k e).1;omega
 have d3:Hid (Calls Tryz.prog 83 #[.pointer (some ⟨W,0,none⟩),vl,vf] w1 _):=tH W a2 vl vf (lasts t1 L.length) (aW t1 L.length) _ w1 hw1.mat hl.int hf.int cJ cI (yL (by omega)) (uT (by omega)) (by have:=dY t1 L.length;omega) (by have:=cZ t1 L.length;omega);have HD:Hid (_/\_/\_/\_/\_/\_/\_/\_/\_):=⟨hw1,hf,hl,dM,cM,cH,hv1,cI,cJ⟩;clear hw1 hf hl dM cM cH hv1 cI cJ k0 k1 k2 hg;go_wp2_with fail
 refine d3.out.mono ?_;rintro e w2 ⟨rfl,cA,aL,b6⟩;have HE:Hid (_/\_/\_):=⟨cA,aL,b6⟩;clear cA aL b6;go_wp2;refine bodyPost_ret (results_tmp3 rfl _ _ _) rfl ⟨vf,vl,a2,rfl,⟨HE.out.1.is (fun x y => ?_),aF HD.out.1.own HE.out.2.1 (fun k e=>HD.out.1.ne k e),HD.out.1.ne,HD.out.1.bW⟩,HD.out.2.1.same HE.out.2.1 HD.out.2.2.2.2.2.2.2.1,HD.out.2.2.1.same HE.out.2.1 HD.out.2.2.2.2.2.2.2.2,HD.out.2.2.2.1,(HD.out.2.2.2.2.1.trans HE.out.2.1).mono (fun k _ e=>e.elim id .inl),HD.out.2.2.2.2.2.1.trans (HE.out.2.2 base cP),HD.out.2.2.2.2.2.2.1⟩;rw[jX,oU];simp only[nxt,Bool.or_assoc]
structure GSt (w wr:World) (base W:Nat) (vL a3 vF vl:Value) (L:List (Option Nat)) (M:Nat->Nat->Bool) (t:Rx):Prop where
 wy:dH wr base W a3 (L++aM t) (fun x y=>M x y||nxt t L.length x y)
 f:Lst wr w.heap.size vF (aW t L.length)
 l:Lst wr w.heap.size vl (lasts t L.length)
 d:∀ g,vF.ownBlock=some g->vl.ownBlock≠some g
 n1:∀ g,vF.ownBlock=some g\/vl.ownBlock=some g->a3.ownBlock≠some g
 s:Same w wr (fun k=>k=W\/vL.ownBlock=some k)
 b:Below base w wr
 v:∀ g,a3.ownBlock=some g->vL.ownBlock=some g\/w.heap.size<=g
 lt:W<w.heap.size
structure R8 (w wr w1:World) (base W:Nat) (vL a2 vF vl a8 a9:Value) (L:List (Option Nat)) (MM:Nat->Nat->Bool) (t t1:Rx):Prop where
 wy:dH w1 base W a2 (L++aM t++aM t1) MM
 f:Lst w1 w.heap.size vF (aW t L.length)
 l:Lst w1 w.heap.size vl (lasts t L.length)
 f1:Lst w1 wr.heap.size a8 (aW t1 (L.length+size t))
 l1:Lst w1 wr.heap.size a9 (lasts t1 (L.length+size t))
 d:∀ g,vF.ownBlock=some g->vl.ownBlock≠some g
 o:∀ g,vF.ownBlock=some g\/vl.ownBlock=some g->g<wr.heap.size/\w.heap.size<=g/\a2.ownBlock≠some g
 s:Same w w1 (fun k=>k=W\/vL.ownBlock=some k)
 b:Below base w w1
 v:∀ g,a2.ownBlock=some g->vL.ownBlock=some g\/w.heap.size<=g
 lt:W<w.heap.size
 z:wr.heap.size<=w1.heap.size
 zw:w.heap.size<=wr.heap.size
theorem GSt.mid{a3:Value}(h:GSt w wr base W vL a3 vF vl L M t){e:Ending}(hp:mU base W t1 a3 (L++aM t) (fun x y=>M x y||nxt t L.length x y) wr e w1):
 ∃ a8 a9 a2,e = .returned (.tuple #[a8,a9,.bool (nul t1)])/\R8 w wr w1 base W vL a2 vF vl a8 a9 L (fun x y=>M x y||nxt t L.length x y||nxt t1 (L.length+size t) x y) t t1:=by
 obtain⟨a8,a9,a2,rfl,hw,hf,hl,dM,hs,hb,hv⟩:=hp;have c8:(L++aM t).length=L.length+size t:=by rw[WT,cK]
 rw[c8]at hw hf hl;have ho:∀ g,vF.ownBlock=some g\/vl.ownBlock=some g->g<wr.heap.size/\w.heap.size<=g:=fun g e=>by
  rcases e with e | e
  ·exact⟨(h.f.own.lt g e).2,(h.f.own.lt g e).1⟩
  ·exact⟨(h.l.own.lt g e).2,(h.l.own.lt g e).1⟩
 have hk:∀ g,vF.ownBlock=some g\/vl.ownBlock=some g->¬(g=W\/a3.ownBlock=some g):=fun g e e2=>by
  have:=ho g e;have bX:=h.lt;rcases e2 with e2 | e2
  ·omega
  ·exact h.n1 g e e2
 refine⟨a8,a9,a2,rfl,hw,h.f.same hs (fun g e=>hk g (.inl e)),h.l.same hs (fun g e=>hk g (.inr e)),hf,hl,h.d,fun g e=>⟨(ho g e).1,(ho g e).2,fun e2 => ?_⟩,(h.s.trans hs).mono (fun k hk2 e => ?_),h.b.trans hb,fun g e => ?_,h.lt,hs.1,h.s.1⟩
 ·rcases hv g e2 with e3 | e3
  ·exact h.n1 g e e3
  ·have:=(ho g e).1;omega
 ·rcases e with e | e | e
  ·exact e
  ·exact .inl e
  ·rcases h.v k e with e | e
   ·exact .inr e
   ·omega
 ·rcases hv g e with e | e
  ·exact h.v g e
  ·have:=h.s.1;exact .inr (by omega)
theorem R8.putF(h:R8 w wr w1 base W vL a2 vF vl a8 a9 L MM t t1)(hs:Same w1 w2 (fun k=>vF.ownBlock=some k))(hb:Below w.heap.size w1 w2)(hbw:base<=w.heap.size):
 dH w2 base W a2 (L++aM t++aM t1) MM/\Lst w2 w.heap.size vl (lasts t L.length)/\Lst w2 wr.heap.size a9 (lasts t1 (L.length+size t))/\Same w w2 (fun k=>k=W\/vL.ownBlock=some k)/\Below base w w2 :=
 ⟨h.wy.same hs (fun e=>by have:=(h.o W (.inl e)).2.1;have:=h.lt;omega) (fun g e e2=>(h.o g (.inl e2)).2.2 e),h.l.same hs (fun g e e2=>h.d g e2 e),h.l1.same hs (fun g e e2=>by have:=(h.l1.own.lt g e).1;have:=(h.o g (.inl e2)).1;omega),h.s.kept hb,h.b.trans (hb.mono hbw)⟩
theorem R8.joined{M2:Nat->Nat->Bool}(h:R8 w wr w1 base W vL a2 vF vl a8 a9 L MM t t1)(hm:fV w2 W a2 M2)(hs:Same w1 w2 (fun k=>k=W))(hb:Below base w1 w2):R8 w wr w2 base W vL a2 vF vl a8 a9 L M2 t t1:=by
 have bX:=h.lt;have hz:=h.zw;refine⟨⟨hm,aF h.wy.own hs (fun g e=>h.wy.ne g e),h.wy.ne,h.wy.bW⟩,h.f.same hs (fun g e => ?_),h.l.same hs (fun g e => ?_),h.f1.same hs (fun g e => ?_),h.l1.same hs (fun g e => ?_),h.d,h.o,(h.s.trans hs).mono (fun k _ e=>e.elim id .inl),h.b.trans hb,h.v,h.lt,aD9 h.z hs.1,h.zw⟩
 ·have:=(h.f.own.lt g e).1;omega
 ·have:=(h.l.own.lt g e).1;omega
 ·have:=(h.f1.own.lt g e).1;omega
 ·have:=(h.l1.own.lt g e).1;omega
theorem R8.fin{w3:World}{vX vF2 vl2:Value}{t2:Rx}(h:R8 w wr w1 base W vL a2 vF vl a8 a9 L MM t t1)(hbw:base<=w.heap.size)
 (a6:Lst w2 w.heap.size vF2 (aW t2 L.length)) (aL:Same w1 w2 (fun k=>vF.ownBlock=some k)) (b6:Below w.heap.size w1 w2) (hv2:∀ g,vF2.ownBlock=some g->vF.ownBlock=some g\/w1.heap.size<=g)
 (hX:∀ g,vX.ownBlock=some g->vl.ownBlock=some g) (hl3:Lst w3 w.heap.size vl2 (lasts t2 L.length)) (a7:Same w2 w3 (fun k=>vX.ownBlock=some k)) (aE:Below w.heap.size w2 w3) (aG:∀ g,vl2.ownBlock=some g->vX.ownBlock=some g\/w2.heap.size<=g)
 (cS:aM t2=aM t++aM t1) (hMM:∀ x y,MM x y=(M x y||nxt t2 L.length x y)) :
 GSt w w3 base W vL a2 vF2 vl2 L M t2:=by
 obtain⟨p1,p2,p3,p4,p5⟩:=h.putF aL b6 hbw;have cN:w1.heap.size<=w2.heap.size:=aL.1;have hz:=h.z;have hzw:=h.zw;have hlL:∀ g,a2.ownBlock=some g->g<w1.heap.size:=fun g e=>(h.wy.own.lt g e).2;refine⟨?_,a6.same a7 (fun g e e2 => ?_),hl3,fun g e e2 => ?_,fun g e e2 => ?_,p4.kept aE,p5.trans (aE.mono hbw),h.v,h.lt⟩
 ·have:=p1.same a7 (fun e=>by have:=(h.o W (.inr (hX W e))).2.1;have:=h.lt;omega) (fun g e e2=>(h.o g (.inr (hX g e2))).2.2 e);rw[aD3,<-cS]at this;exact this.is hMM
 ·rcases hv2 g e with e3 | e3
  ·exact h.d g e3 (hX g e2)
  ·have:=(h.o g (.inr (hX g e2))).1;omega
 ·rcases hv2 g e with e3 | e3
  ·rcases aG g e2 with e4 | e4
   ·exact h.d g e3 (hX g e4)
   ·have:=(h.o g (.inl e3)).1;omega
  ·rcases aG g e2 with e4 | e4
   ·have:=(h.o g (.inr (hX g e4))).1;omega
   ·have:=(a6.own.lt g e).2;omega
 ·have:=hlL g e2;rcases e with e | e
  ·rcases hv2 g e with e3 | e3
   ·exact(h.o g (.inl e3)).2.2 e2
   ·omega
  ·rcases aG g e with e3 | e3
   ·exact(h.o g (.inr (hX g e3))).2.2 e2
   ·omega
theorem YD(IH:MG h)(base W:Nat)(vL:Value)(L:List (Option Nat))(M:Nat->Nat->Bool)(p:Nat)(v:Value)(ps:List Nat)(ts:List Rx)(lb:Int)(F:Nat->Prop)(w:World)(hp:w.heap[p]?=some (.cells #[.int .u8 124,.int .i64 lb,v] 154 (0,0)))(hP:wG w F v ps)(hpl:ps.length=ts.length)(hT:∀(j p1:Nat) (t1:Rx),ps[j]?=some p1->ts[j]?=some t1->dS w F h p1 t1)(hF:∀ k,F k->k<base)(hFp:F p)(hw:dH w base W vL L M)(hL:L.length+size (alts ts)<=200)(hm:ts.length<=1000):
 Calls Tryz.prog 82 #[.pointer (some ⟨W,0,none⟩),.pointer (some ⟨p,0,none⟩)] w (mU base W (alts ts) vL L M w):=by
 have bX:=hw.lt;have cP:=hw.bW;have cD:=hF p hFp;obtain⟨k0,k1,k2⟩:=sH hp;obtain⟨a0,cv,hv⟩:∃ a0 cv,v = .slice a0 ts.length cv:=by
  rcases hP with ⟨h1,h2⟩ | ⟨g,cap,h1,_⟩
  ·exact⟨none,0,by rw[h1,<-hpl,h2];rfl⟩
  ·exact⟨_,_,by rw[h1,hpl]⟩
 subst hv;have HC:Hid (∀(j p1:Nat),ps[j]?=some p1->∃ g,a0=some ⟨g,0,none⟩/\g<base/\w.cell? ⟨g,j,none⟩=some (.pointer (some ⟨p1,0,none⟩))):=(fun j p1 hj=>by
  rcases hP with ⟨h1,h2⟩ | ⟨g,cap,h1,h2,h3⟩
  ·rw[h2]at hj;simp at hj
  ·injection h1 with h1;exact⟨g,h1,hF g h2,h3 j p1 hj⟩:∀(j p1:Nat),_)
 have b3:∀ i,size (alts (ts.take i))<=size (alts ts):=fun i=>by
  have e0:∀(l:List Rx) (a:Rx),size a<=size (l.foldl .alt a):=by
   intro l
   induction l with
   | nil=>intro a;exact V7 _
   | cons x l ih=>intro a;exact aD9 (by simp[size]) (ih (.alt a x))
  conv=>rhs;rw[<-aD5 i ts]
  unfold alts;rw[List.foldl_append];exact e0 _ _
 have d4:Hid (GSt w w base W vL vL (.slice none 0 0) (.slice none 0 0) L M (alts (ts.take 0))):=(⟨by
  rw[show aM (alts (ts.take 0))=[]from rfl,aE4];exact hw.is (fun x y=>by rw[show nxt (alts (ts.take 0)) L.length x y=false from rfl,Bool.or_false]),qC _ _,qC _ _,(fun g e=>by cases e),(fun g e=>by rcases e with e | e <;> cases e),(Same.below (YQ _ _)).mono (fun _ _ e=>e.elim),YQ _ _,fun g e=>.inl e,bX.1⟩:GSt _ _ _ _ _ _ _ _ _ _ _)
 have HH:Hid (_/\_/\_):=⟨IH,hT,hF⟩;clear IH hT hF hw hp hP;go_enter Tryz.func82,Tryz.ntmps82
 go_wp2;go_loopw [14,11,12,13] (fun s14 s11 s12 s13 wr=>∃(i:Nat) (a3:Value),i<=ts.length/\s14 = .int .i64 (i:Int)/\s13 = .bool (nul (alts (ts.take i)))/\Hid (GSt w wr base W vL a3 s11 s12 L M (alts (ts.take i)))) (fun s14 _ _ _ _=>ts.length-(intOf s14).toNat)
 case atStart=>exact⟨0,vL,by omega,rfl,rfl,d4.out⟩
 case round =>
  obtain⟨i,a3,hi,rfl,rfl,HG⟩:=hrel;have b8:Hid (GSt w wr base W vL a3 u11 u12 L M (alts (ts.take i))):=HG.out;clear HG;have b7:Same w wr (fun k=>base<=k):=⟨b8.out.b.size,fun k _ hn=>b8.out.b.block k (by simpa using hn)⟩;have q0:=b7.cell k0 (by simpa using cD);have q2:=b7.cell k2 (by simpa using cD);by_cases hlt2:i<ts.length
  ·have hiI:(i:Int)<(ts.length:Int):=by omega
   obtain⟨t1,cF⟩:∃ t1,ts[i]?=some t1:=⟨_,A7 hlt2⟩;obtain⟨p1,cC⟩:∃ p1,ps[i]?=some p1:=⟨_,A7 (by omega)⟩;obtain⟨g,rfl,d7,cR⟩:=HC.out i p1 cC;have qg:=b7.cell cR (by simpa using d7);have cE:alts (ts.take (i+1)) = .alt (alts (ts.take i)) t1:=by rw[aE0,cF];exact uC _ _
   have cW:=b3 (i+1);rw[cE]at cW;simp only[size]at cW;have cT:(L++aM (alts (ts.take i))).length=L.length+size (alts (ts.take i)):=by rw[WT,cK]
   have HI:Hid (Calls Tryz.prog 82 #[.pointer (some ⟨W,0,none⟩),.pointer (some ⟨p1,0,none⟩)] wr _):=HH.out.1 base W a3 (L++aM (alts (ts.take i))) _ p1 t1 F wr ((HH.out.2.1 i p1 t1 cC cF).same b7 (fun k hk=>by have:=HH.out.2.2 k hk;omega) (fun _=>id)) HH.out.2.2 b8.out.wy (by rw[cT];omega);have b9:Hid _:=cE;generalize alts (ts.take i)=ti at *;clear b7 cR cF cC cE b3 cT;go_wp2_with fail
   refine HI.out.mono ?_;intro e w1 hpost;obtain⟨a8,a9,a2,rfl,a5⟩:=b8.out.mid hpost;have r0:w1.cell? ⟨p,0,none⟩=some (.int .u8 124):=(a5.b.cell (p:=⟨p,0,none⟩) cD).trans k0;have HM:Hid (R8 w wr w1 base W vL a2 u11 u12 a8 a9 L (fun x y=>M x y||nxt ti L.length x y||nxt t1 (L.length+size ti) x y) ti t1):=a5;have l1:=cZ ti L.length;have l2:=cZ t1 (L.length+size ti);have l3:=dY ti L.length;have l4:=dY t1 (L.length+size ti);have c7:base<=w.heap.size:=by omega
   have hzz:=a5.z;have hzw:=a5.zw;clear a5 hpost q0 q2 qg;cases hnt:nul ti;all_goals
    go_wp2_with (at_builtin;first
     | (refine aY _ rfl _ _ rfl rfl w.heap.size wr.heap.size u11 a8 _ _ rfl rfl HM.out.f HM.out.f1 (by omega) (by omega) ?_;intro vF2 w2 a6 aL b6 hv2;have c0:=HM.out.putF aL b6 c7;have cN:w1.heap.size<=w2.heap.size:=aL.1)
     | (refine aY _ rfl _ _ rfl rfl w.heap.size wr.heap.size u12 a9 _ _ rfl rfl c0.2.1 c0.2.2.1 (by omega) (by omega) ?_;intro vl2 w3 hl3 a7 aE aG))
    have HN:Hid (GSt w w3 base W vL a2 vF2 vl2 L M (.alt ti t1)):=(HM.out.fin (t2:=.alt ti t1) c7 a6 aL b6 hv2 (fun g e=>e) hl3 a7 aE aG rfl (fun x y=>by simp only[nxt,Bool.or_assoc]):GSt _ _ _ _ _ _ _ _ _ _ _);clear c0 a6 aL b6 hv2 hl3 a7 aE aG r0;go_wp2;go_roundw;case rel=>exact⟨i+1,a2,by omega,by go_num,by rw[b9.out];simp[nul,hnt],by rw[b9.out];exact HN.out⟩
    case measure=>simp[intOf];omega
  ·obtain rfl:i=ts.length:=by omega
   have b5:=b8.out;rw[aE3]at b5;have HF:Hid (GSt w wr base W vL a3 u11 u12 L M (alts ts)):=b5;clear b5 b7;go_wp2;refine bodyPost_ret (results_tmp3 rfl _ _ _) rfl ⟨u11,u12,a3,by rw[aE3];rfl,HF.out.wy,HF.out.f,HF.out.l,HF.out.n1,HF.out.s,HF.out.b,HF.out.v⟩
theorem TW(IH:MG h)(base W:Nat)(vL:Value)(L:List (Option Nat))(M:Nat->Nat->Bool)(p:Nat)(v:Value)(ps:List Nat)(ts:List Rx)(lb:Int)(F:Nat->Prop)(w:World)(hp:w.heap[p]?=some (.cells #[.int .u8 38,.int .i64 lb,v] 154 (0,0)))(hP:wG w F v ps)(hpl:ps.length=ts.length)(hT:∀(j p1:Nat) (t1:Rx),ps[j]?=some p1->ts[j]?=some t1->dS w F h p1 t1)(hF:∀ k,F k->k<base)(hFp:F p)(hw:dH w base W vL L M)(hL:L.length+size (jU ts)<=200)(hm:ts.length<=1000):
 Calls Tryz.prog 82 #[.pointer (some ⟨W,0,none⟩),.pointer (some ⟨p,0,none⟩)] w (mU base W (jU ts) vL L M w):=by
 have bX:=hw.lt;have cP:=hw.bW;have cD:=hF p hFp;obtain⟨k0,k1,k2⟩:=sH hp;obtain⟨a0,cv,hv⟩:∃ a0 cv,v = .slice a0 ts.length cv:=by
  rcases hP with ⟨h1,h2⟩ | ⟨g,cap,h1,_⟩
  ·exact⟨none,0,by rw[h1,<-hpl,h2];rfl⟩
  ·exact⟨_,_,by rw[h1,hpl]⟩
 subst hv;have HC:Hid (∀(j p1:Nat),ps[j]?=some p1->∃ g,a0=some ⟨g,0,none⟩/\g<base/\w.cell? ⟨g,j,none⟩=some (.pointer (some ⟨p1,0,none⟩))):=(fun j p1 hj=>by
  rcases hP with ⟨h1,h2⟩ | ⟨g,cap,h1,h2,h3⟩
  ·rw[h2]at hj;simp at hj
  ·injection h1 with h1;exact⟨g,h1,hF g h2,h3 j p1 hj⟩:∀(j p1:Nat),_)
 have b3:∀ i,size (jU (ts.take i))<=size (jU ts):=fun i=>by
  have e0:∀(l:List Rx) (a:Rx),size a<=size (l.foldl .cat a):=by
   intro l
   induction l with
   | nil=>intro a;exact V7 _
   | cons x l ih=>intro a;exact aD9 (by simp[size]) (ih (.cat a x))
  conv=>rhs;rw[<-aD5 i ts]
  unfold jU;rw[List.foldl_append];exact e0 _ _
 have d4:Hid (GSt w w base W vL vL (.slice none 0 0) (.slice none 0 0) L M (jU (ts.take 0))):=(⟨by
  rw[show aM (jU (ts.take 0))=[]from rfl,aE4];exact hw.is (fun x y=>by rw[show nxt (jU (ts.take 0)) L.length x y=false from rfl,Bool.or_false]),qC _ _,qC _ _,(fun g e=>by cases e),(fun g e=>by rcases e with e | e <;> cases e),(Same.below (YQ _ _)).mono (fun _ _ e=>e.elim),YQ _ _,fun g e=>.inl e,bX.1⟩:GSt _ _ _ _ _ _ _ _ _ _ _)
 have HH:Hid (_/\_/\_):=⟨IH,hT,hF⟩;clear IH hT hF hw hp hP;go_enter Tryz.func82,Tryz.ntmps82
 go_wp2;go_loopw [14,11,12,13] (fun s14 s11 s12 s13 wr=>∃(i:Nat) (a3:Value),i<=ts.length/\s14 = .int .i64 (i:Int)/\s13 = .bool (nul (jU (ts.take i)))/\Hid (GSt w wr base W vL a3 s11 s12 L M (jU (ts.take i)))) (fun s14 _ _ _ _=>ts.length-(intOf s14).toNat)
 case atStart=>exact⟨0,vL,by omega,rfl,rfl,d4.out⟩
 case round =>
  obtain⟨i,a3,hi,rfl,rfl,HG⟩:=hrel;have b8:Hid (GSt w wr base W vL a3 u11 u12 L M (jU (ts.take i))):=HG.out;clear HG;have b7:Same w wr (fun k=>base<=k):=⟨b8.out.b.size,fun k _ hn=>b8.out.b.block k (by simpa using hn)⟩;have q0:=b7.cell k0 (by simpa using cD);have q2:=b7.cell k2 (by simpa using cD);by_cases hlt2:i<ts.length
  ·have hiI:(i:Int)<(ts.length:Int):=by omega
   obtain⟨t1,cF⟩:∃ t1,ts[i]?=some t1:=⟨_,A7 hlt2⟩;obtain⟨p1,cC⟩:∃ p1,ps[i]?=some p1:=⟨_,A7 (by omega)⟩;obtain⟨g,rfl,d7,cR⟩:=HC.out i p1 cC;have qg:=b7.cell cR (by simpa using d7);have cE:jU (ts.take (i+1)) = .cat (jU (ts.take i)) t1:=by rw[aE0,cF];exact C8 _ _
   have cW:=b3 (i+1);rw[cE]at cW;simp only[size]at cW;have cT:(L++aM (jU (ts.take i))).length=L.length+size (jU (ts.take i)):=by rw[WT,cK]
   have HI:Hid (Calls Tryz.prog 82 #[.pointer (some ⟨W,0,none⟩),.pointer (some ⟨p1,0,none⟩)] wr _):=HH.out.1 base W a3 (L++aM (jU (ts.take i))) _ p1 t1 F wr ((HH.out.2.1 i p1 t1 cC cF).same b7 (fun k hk=>by have:=HH.out.2.2 k hk;omega) (fun _=>id)) HH.out.2.2 b8.out.wy (by rw[cT];omega);have b9:Hid _:=cE;generalize jU (ts.take i)=ti at *;clear b7 cR cF cC cE b3 cT;go_wp2_with fail
   refine HI.out.mono ?_;intro e w1 hpost;obtain⟨a8,a9,a2,rfl,a5⟩:=b8.out.mid hpost;have r0:w1.cell? ⟨p,0,none⟩=some (.int .u8 38):=(a5.b.cell (p:=⟨p,0,none⟩) cD).trans k0;have HM:Hid (R8 w wr w1 base W vL a2 u11 u12 a8 a9 L (fun x y=>M x y||nxt ti L.length x y||nxt t1 (L.length+size ti) x y) ti t1):=a5;have l1:=cZ ti L.length;have l2:=cZ t1 (L.length+size ti);have l3:=dY ti L.length;have l4:=dY t1 (L.length+size ti);have c7:base<=w.heap.size:=by omega
   have hzz:=a5.z;have hzw:=a5.zw;clear a5 hpost q0 q2 qg;have cJ:∀ k,u12.ownBlock=some k->k≠W:=fun k e=>by have:=(HM.out.l.own.lt k e).1;omega
   have cI:∀ k,a8.ownBlock=some k->k≠W:=fun k e=>by have:=(HM.out.f1.own.lt k e).1;omega
   have d3:Hid (Calls Tryz.prog 83 #[.pointer (some ⟨W,0,none⟩),u12,a8] w1 _):=tH W a2 u12 a8 (lasts ti L.length) (aW t1 (L.length+size ti)) _ w1 HM.out.wy.mat HM.out.l.int HM.out.f1.int cJ cI (yL (by omega)) (uT (by omega)) (by omega) (by omega);clear cJ cI;go_wp2_with fail
   refine d3.out.mono ?_;rintro e w2 ⟨rfl,cA,aL,b6⟩;have hj:=HM.out.joined cA aL (b6 base cP);have b4:Hid _:=hj;have cN:=aL.1;clear hj cA aL b6 r0;cases hnt:nul ti <;> cases hnt1:nul t1
   ·go_wp2_with (at_builtin;refine aY _ rfl _ _ rfl rfl w.heap.size wr.heap.size (.slice none 0 0) a9 _ _ rfl rfl (qC _ _) b4.out.l1 (by simp;omega) (by omega) ?_;intro vl2 w4 hl4 hs4 hb4 hv4)
    have a7:Same w2 w2 (fun k=>u11.ownBlock=some k):=(Same.below (YQ _ _)).mono (fun _ _ e=>e.elim);have aE:Below w.heap.size w2 w2:=YQ _ _;have aG:∀ g,u11.ownBlock=some g->u11.ownBlock=some g\/w2.heap.size<=g:=fun g e=>.inl e;have a6:=b4.out.f;have bS:aW (.cat ti t1) L.length=aW ti L.length:=by simp[aW,hnt]
    have a4:lasts (.cat ti t1) L.length=[]++lasts t1 (L.length+size ti):=by simp[lasts,hnt1]
    rw[<-bS]at a6;rw[<-a4]at hl4;have HN:Hid (GSt w w4 base W vL a2 u11 vl2 L M (.cat ti t1)):=(b4.out.fin (t2:=.cat ti t1) c7 a6 a7 aE aG (fun g e=>by cases e) hl4 hs4 hb4 hv4 rfl (fun x y=>by rw[jX,oU];simp only[nxt,Bool.or_assoc]):GSt _ _ _ _ _ _ _ _ _ _ _);clear a6 a7 aE aG hl4 hs4 hb4 hv4 bS a4;go_wp2;go_roundw;case rel=>exact⟨i+1,a2,by omega,by go_num,by rw[b9.out];simp[nul,hnt,hnt1],by rw[b9.out];exact HN.out⟩
    case measure=>simp[intOf];omega
   ·go_wp2_with (at_builtin;refine aY _ rfl _ _ rfl rfl w.heap.size wr.heap.size u12 a9 _ _ rfl rfl b4.out.l b4.out.l1 (by omega) (by omega) ?_;intro vl2 w4 hl4 hs4 hb4 hv4)
    have a7:Same w2 w2 (fun k=>u11.ownBlock=some k):=(Same.below (YQ _ _)).mono (fun _ _ e=>e.elim);have aE:Below w.heap.size w2 w2:=YQ _ _;have aG:∀ g,u11.ownBlock=some g->u11.ownBlock=some g\/w2.heap.size<=g:=fun g e=>.inl e;have a6:=b4.out.f;have bS:aW (.cat ti t1) L.length=aW ti L.length:=by simp[aW,hnt]
    have a4:lasts (.cat ti t1) L.length=lasts ti L.length++lasts t1 (L.length+size ti):=by simp[lasts,hnt1]
    rw[<-bS]at a6;rw[<-a4]at hl4;have HN:Hid (GSt w w4 base W vL a2 u11 vl2 L M (.cat ti t1)):=(b4.out.fin (t2:=.cat ti t1) c7 a6 a7 aE aG (fun g e=>e) hl4 hs4 hb4 hv4 rfl (fun x y=>by rw[jX,oU];simp only[nxt,Bool.or_assoc]):GSt _ _ _ _ _ _ _ _ _ _ _);clear a6 a7 aE aG hl4 hs4 hb4 hv4 bS a4;go_wp2;go_roundw;case rel=>exact⟨i+1,a2,by omega,by go_num,by rw[b9.out];simp[nul,hnt,hnt1],by rw[b9.out];exact HN.out⟩
    case measure=>simp[intOf];omega
   ·go_wp2_with (at_builtin;first
     | (refine aY _ rfl _ _ rfl rfl w.heap.size wr.heap.size u11 a8 _ _ rfl rfl b4.out.f b4.out.f1 (by omega) (by omega) ?_;intro vF2 w3 a6 a7 aE aG;have c0:=b4.out.putF a7 aE c7;have hz3:w2.heap.size<=w3.heap.size:=a7.1)
     | (refine aY _ rfl _ _ rfl rfl w.heap.size wr.heap.size (.slice none 0 0) a9 _ _ rfl rfl (qC _ _) c0.2.2.1 (by simp;omega) (by omega) ?_;intro vl2 w4 hl4 hs4 hb4 hv4))
    have bS:aW (.cat ti t1) L.length=aW ti L.length++aW t1 (L.length+size ti):=by simp[aW,hnt]
    have a4:lasts (.cat ti t1) L.length=[]++lasts t1 (L.length+size ti):=by simp[lasts,hnt1]
    rw[<-bS]at a6;rw[<-a4]at hl4;have HN:Hid (GSt w w4 base W vL a2 vF2 vl2 L M (.cat ti t1)):=(b4.out.fin (t2:=.cat ti t1) c7 a6 a7 aE aG (fun g e=>by cases e) hl4 hs4 hb4 hv4 rfl (fun x y=>by rw[jX,oU];simp only[nxt,Bool.or_assoc]):GSt _ _ _ _ _ _ _ _ _ _ _);clear c0 a6 a7 aE aG hl4 hs4 hb4 hv4 bS a4;go_wp2;go_roundw;case rel=>exact⟨i+1,a2,by omega,by go_num,by rw[b9.out];simp[nul,hnt,hnt1],by rw[b9.out];exact HN.out⟩
    case measure=>simp[intOf];omega
   ·go_wp2_with (at_builtin;first
     | (refine aY _ rfl _ _ rfl rfl w.heap.size wr.heap.size u11 a8 _ _ rfl rfl b4.out.f b4.out.f1 (by omega) (by omega) ?_;intro vF2 w3 a6 a7 aE aG;have c0:=b4.out.putF a7 aE c7;have hz3:w2.heap.size<=w3.heap.size:=a7.1)
     | (refine aY _ rfl _ _ rfl rfl w.heap.size wr.heap.size u12 a9 _ _ rfl rfl c0.2.1 c0.2.2.1 (by omega) (by omega) ?_;intro vl2 w4 hl4 hs4 hb4 hv4))
    have bS:aW (.cat ti t1) L.length=aW ti L.length++aW t1 (L.length+size ti):=by simp[aW,hnt]
    have a4:lasts (.cat ti t1) L.length=lasts ti L.length++lasts t1 (L.length+size ti):=by simp[lasts,hnt1]
    rw[<-bS]at a6;rw[<-a4]at hl4;have HN:Hid (GSt w w4 base W vL a2 vF2 vl2 L M (.cat ti t1)):=(b4.out.fin (t2:=.cat ti t1) c7 a6 a7 aE aG (fun g e=>e) hl4 hs4 hb4 hv4 rfl (fun x y=>by rw[jX,oU];simp only[nxt,Bool.or_assoc]):GSt _ _ _ _ _ _ _ _ _ _ _);clear c0 a6 a7 aE aG hl4 hs4 hb4 hv4 bS a4;go_wp2;go_roundw;case rel=>exact⟨i+1,a2,by omega,by go_num,by rw[b9.out];simp[nul,hnt,hnt1],by rw[b9.out];exact HN.out⟩
    case measure=>simp[intOf];omega
  ·obtain rfl:i=ts.length:=by omega
   have b5:=b8.out;rw[aE3]at b5;have HF:Hid (GSt w wr base W vL a3 u11 u12 L M (jU ts)):=b5;clear b5 b7;go_wp2;refine bodyPost_ret (results_tmp3 rfl _ _ _) rfl ⟨u11,u12,a3,by rw[aE3];rfl,HF.out.wy,HF.out.f,HF.out.l,HF.out.n1,HF.out.s,HF.out.b,HF.out.v⟩
theorem ZK(IH:MG h):MG (h+1):=by
 rintro base W vL L M p t F w ⟨hFp,kind,lb,v,ps,ts,hrow,hP,⟨hpl,hm⟩,hT,hk⟩ hF hw hL;rcases hk with ⟨rfl,l,rfl,rfl⟩ | ⟨rfl,t1,rfl,rfl⟩ | ⟨rfl,rfl⟩ | ⟨rfl,rfl⟩
 ·exact NH base W vL L M p l v w hrow hw (by omega)
 ·obtain⟨p1,rfl⟩:∃ p1,ps=[p1]:=List.length_eq_one_iff.1 hpl;rcases hP with ⟨_,h2⟩ | ⟨g,cap,rfl,h2,h3⟩
  ·cases h2
  ·exact OE IH base W vL L M p p1 g cap lb t1 F w hrow (h3 0 p1 rfl) (hT 0 p1 t1 rfl rfl) hF hw hL
 ·exact TW IH base W vL L M p v ps ts lb F w hrow hP hpl hT hF hFp hw hL hm
 ·exact YD IH base W vL L M p v ps ts lb F w hrow hP hpl hT hF hFp hw hL hm
theorem JB:∀ h,MG h
 | 0=>fun _ _ _ _ _ _ _ _ _ hT=>hT.elim
 | h+1=>ZK (JB h)
def isF:Value->Bool
 | .bool false=>true
 | _=>false
theorem aAi{v:Value}(h:isF v=true):v = .bool false:=by
 cases v with
 | bool b=>cases b with
  | false=>rfl
  | true=>cases h
 | _=>cases h
def cntF:List Value->Nat->Bool
 | [],0=>true
 | [],_+1=>false
 | _::_,0=>false
 | v::l,k+1=>isF v&&cntF l k
theorem Q7:∀{l:List Value} {k:Nat},cntF l k=true->l=List.replicate k (.bool false)
 | [],0,_=>rfl
 | [],_+1,h=>by cases h
 | _::_,0,h=>by cases h
 | v::l,k+1,h=>by
  simp only[cntF,aD6]at h;rw[aAi h.1,Q7 h.2,List.replicate_succ]
def isNil:Value->Bool
 | .slice none 0 0=>true
 | _=>false
theorem UZ{v:Value}(h:isNil v=true):v = .slice none 0 0:=by
 unfold isNil at h;split at h
 ·rfl
 ·cases h
def zw:Array Value:=⟨.slice none 0 0::List.replicate 40401 (.bool false)⟩
theorem aAl(k:Nat):zw[k]?=if k=0 then some (.slice none 0 0)else if k<40402 then some (.bool false)else none:=by
 unfold zw;rw[List.getElem?_toArray];cases k with
 | zero=>rfl
 | succ k =>
  rw[aJ5,aE9];by_cases h:k<40401
  ·rw[if_pos h,if_neg (by omega),if_pos (by omega)]
  ·rw[if_neg h,if_neg (by omega),if_neg (by omega)]
theorem YL:zw.size=40402:=by
 show(Value.slice none 0 0::List.replicate 40401 (Value.bool false)).length=40402;rw[aE7,aH3]
theorem TJ(w:World)(base:Nat)(hb:base<=w.heap.size):dH (w.alloc (.cells zw 160)) base w.heap.size (.slice none 0 0) [] (fun _ _=>false) :=
 ⟨⟨zw,heap_alloc_new w _,YL,by rw[aAl,if_pos rfl],fun a b ha hb=>by rw[aAl,if_neg (by omega),if_pos (by omega)]⟩,⟨rfl,.inl ⟨rfl,rfl⟩⟩,(fun g e=>by cases e),hb⟩
end Go.Proofs.YtphjbbbnbmafnaaGreatDoor.G
