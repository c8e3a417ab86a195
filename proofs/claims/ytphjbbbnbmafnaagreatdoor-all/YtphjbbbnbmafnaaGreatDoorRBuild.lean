/- Parts: ROrd RBuild. -/
import Derived.Test.YtphjbbbnbmafnaaGreatDoorOrdM
import Derived.Test.YtphjbbbnbmafnaaGreatDoorExt
import Derived.Test.YtphjbbbnbmafnaaGreatDoorInOrd
import Derived.Deep.DeepCutAuto
import Derived.Test.YtphjbbbnbmafnaaGreatDoorPRead
import Derived.Test.YtphjbbbnbmafnaaGreatDoorPEdg
set_option maxHeartbeats 8000000
set_option maxRecDepth 100000
namespace Go.Proofs.YtphjbbbnbmafnaaGreatDoor.G
open Go.RowKit
variable {w:World} {B cap cap':Nat} {v:Value} {l:List E3}
theorem dZ{w':World}{n:Nat}{e:TypeId}{xs:List Value}(h:w.ownsRow B e 3 v n xs)(hB:Below w.heap.size w w'):w'.ownsRow B e 3 v n xs:=by
 refine⟨h.1,?_⟩;rcases h.2 with h0 | ⟨g,cap,a7,hv,hb,hg,r⟩
 ·exact .inl h0
 ·refine .inr ⟨g,cap,a7,hv,hb,?_,r⟩;rw[hB.block g (aC2.1 hg).1];exact hg
theorem DC(b off i:Nat):(⟨b,off,none⟩:Addr).add i=⟨b,off+i,none⟩:=by
 by_cases e:i=0
 ·subst e;simp[Addr.add]
 ·simp[Addr.add,e]
theorem mY{a:World}(h:Below B w a)(q:Nat):Below B w (a.drewN q):=h.trans ⟨rfl,rfl,rfl,V7 _,fun _ _=>rfl⟩
theorem iV(W:World)(q:Nat)(o:Obj):Below W.heap.size W ((W.drewN q).alloc o):=(mY (YQ _ W) q).alloc (V7 _) o
theorem eO.drewN{wr:World}(h:eO w wr v l)(q:Nat):eO w (wr.drewN q) v l:=⟨h.1,mY h.2 q⟩
theorem J4(W:World)(q:Nat)(a b c:Value)(t:TypeId)(j:Nat)(u:Value)(hj:[a,b,c][j]?=some u):((W.drewN q).alloc (.cells #[a,b,c] t)).cell? ((⟨W.heap.size,0,none⟩:Addr).add j)=some u:=SK (W.drewN q) a b c t j u hj
def uO(v:Value):Prop:=∀ a0 n cap,v = .slice a0 n cap->n<=cap
theorem aBE(f l t f' l' t':Int):WY f l t f' l' t'=Gm.ltE (f,l,t) (f',l',t'):=rfl
theorem KN{a0:Option Addr}(k:Nat)(hv:v = .slice a0 l.length cap)(h:aI w v l)(hk:k<=l.length):aI w (.slice a0 k cap') (l.take k):=by
 subst hv;obtain⟨a1,cY,e,h⟩:=h;cases e;refine⟨a0,cap',by rw[aD7,aI0 hk],fun j e hj=>h j e ?_⟩;rw[List.getElem?_take]at hj;split at hj
 ·exact hj
 ·cases hj
theorem M8{g off:Nat}(k:Nat)(hv:v = .slice (some ⟨g,off,none⟩) l.length cap)(h:aI w v l):aI w (.slice (some ⟨g,off+k*3,none⟩) (l.length-k) cap') (l.drop k):=by
 subst hv;obtain⟨a1,cY,e,h⟩:=h;cases e;refine⟨_,cap',by rw[aE1],fun j e hj => ?_⟩;rw[List.getElem?_drop]at hj;obtain⟨g2,off2,e2,c0,c1,c2⟩:=h (k+j) e hj;cases e2;refine⟨g,off+k*3,rfl,?_,?_,?_⟩
 ·rw[show off+k*3+j*3=off+(k+j)*3 by omega];exact c0
 ·rw[show off+k*3+j*3+1=off+(k+j)*3+1 by omega];exact c1
 ·rw[show off+k*3+j*3+2=off+(k+j)*3+2 by omega];exact c2
theorem BO(w:World)(t:TypeId):(w.alloc (.cells #[] t)).ownsRow w.heap.size t 3 (.slice (some ⟨w.heap.size,0,none⟩) 0 0) 0 []:=by
 refine⟨rfl,.inr ⟨w.heap.size,0,#[],rfl,V7 _,heap_alloc_new _ _,V7 _,by decide,rfl,rfl⟩⟩
theorem U9(W:World)(g cap:Nat)(a0:Option Addr)(ty:TypeId):(Builtin.append_ #[24,24] ty #[.slice (some ⟨g,0,none⟩) 0 0,.slice a0 0 cap]).run Tryz.prog W = .ok (.slice (some ⟨g,0,none⟩) 0 0) W:=by
 obtain⟨i0,hi,_⟩:=info_parts Tryz.infoE;cases a0 <;> simp[Builtin.append_,run_underlying Tryz.underlying24,sizeOf,typeInfo,hi,Builtin.lenOf,Builtin.firstCells,loadCells,loadCellsFrom,storeCells]
theorem uJ(w:World){ops:Array Oper}{rest:List Oper}{o:Oper}{a:Act}{Q:Exit->Act->World->Prop}(hgd:o.guard=none)(sl x:Operand)
 (ho:o.op = .call { callee:=.builtin .append,args:=#[sl,x],argTypes:=#[24,24] }) (g cap:Nat) (a0:Option Addr) (hs:a.eval sl = .slice (some ⟨g,0,none⟩) 0 0) (hx:a.eval x = .slice a0 0 cap)
 (h:wpList Tryz.prog ops Q rest (a.put o.dst (.slice (some ⟨g,0,none⟩) 0 0)) w):wpList Tryz.prog ops Q (o::rest) a w:=by
 refine wpList_plain hgd fun K hK => ?_;have hr:=U9 w g cap a0 o.type;unfold Oper.wp execOp;simp only[ho,resolve,invoke,builtin,Sem.run_bind,Sem.run_pure,aJ8,List.map_toArray,aJ4,List.map_nil,hs,hx,hr];exact hK _ _ h
theorem AY(l:List E3)(v:Value)(w:World)(he:aI w v l)(h2:l.length<2):
 Calls Tryz.prog 55 #[v] w fun e w'=>∃ v',e = .returned v'/\w'.ownsRow w.heap.size 38 3 v' (Gm.TM l).length (flat (Gm.TM l))/\Below w.heap.size w w':=by
 rw[Gm.Z7 l h2];obtain⟨i0,hi,aL,cA,cB⟩:=info_parts Tryz.infoE;obtain⟨a0,cap,rfl,b7⟩:=he;have cQ:(l.length:Int)<2:=by omega
 match l,h2,b7,cQ with
 | [],_,_,cQ =>
  go_enter Tryz.func55,Tryz.ntmps55
  go_wp2_with (at_builtin;refine uJ _ rfl _ _ rfl w.heap.size cap a0 rfl rfl ?_)
  go_ret;exact⟨_,rfl,BO w _,aA _ _⟩
 | [x],_,b7,cQ =>
  obtain⟨g,off,rfl,c0,c1,c2⟩:=b7 0 x rfl;obtain⟨x1,x2,x3⟩:=x;simp only[Nat.zero_mul,Nat.add_zero]at c0 c1 c2;have HSr:Hid (∀ j u,[Value.int .i64 x1,.int .i64 x2,.int .i64 x3][j]?=some u->(w.alloc (.cells #[] 38)).cell? ((⟨g,off,none⟩:Addr).add j)=some u):=(fun j u hj=>by
   rw[DC]
   match j,hj with
   | 0,hj=>simp at hj;subst hj;exact dL c0
   | 1,hj=>simp at hj;subst hj;exact dL c1
   | 2,hj=>simp at hj;subst hj;exact dL c2
   | j+3,hj=>simp at hj:∀ j u,[Value.int .i64 x1,.int .i64 x2,.int .i64 x3][j]?=some u->_)
  clear c0 c1 c2 b7;go_enter Tryz.func55,Tryz.ntmps55
  go_wp2_with (at_builtin;refine wpList_append_own _ rfl _ _ 24 rfl w.heap.size 38 i0 (.agg #[.int .i64 0,.int .i64 0,.int .i64 0]) 3 24 Tryz.underlying24 hi aL cA cB rfl (by decide) _ _ _ rfl (BO w _) ⟨g,off,none⟩ 1 cap [.int .i64 x1,.int .i64 x2,.int .i64 x3] rfl rfl HSr.out (ED _ _ _) (by decide) (by decide) (by simp) ?_;intro v' w2 hown hgrow hnil)
  go_ret;exact⟨_,rfl,hown,(aA w _).grown hgrow (by simp) (fun k hk=>by cases hk;exact V7 _)⟩
theorem Y9(N:Nat):∀(l:List E3) (v:Value) (w:World),l.length<=N->l.length<=1000000->aI w v l->uO v ->
 Calls Tryz.prog 55 #[v] w fun e w'=>∃ v',e = .returned v'/\w'.ownsRow w.heap.size 38 3 v' (Gm.TM l).length (flat (Gm.TM l))/\Below w.heap.size w w':=by
 induction N with
 | zero=>intro l v w hN _ he _;exact AY l v w he (by omega)
 | succ N ih =>
  intro l v w hN hl he hcap;by_cases h2:l.length<2
  ·exact AY l v w he h2
  have cV:Hid _:=ih;clear ih;obtain⟨i0,hi,aL,cA,cB⟩:=info_parts Tryz.infoE;have hEd:=he;obtain⟨a0,cap,rfl,b7⟩:=he;have hlc:l.length<=cap:=hcap _ _ _ rfl;clear hcap;obtain⟨x0,hx0⟩:∃ x0,l[0]?=some x0:=⟨_,A7 (by omega)⟩;obtain⟨g,off,rfl,_⟩:=b7 0 x0 hx0;have cG:Hid _:=hEd;have cQ:¬(l.length:Int)<2:=by omega
  have hdv:(l.length:Int).tdiv 2=((l.length / 2:Nat):Int):=by rw[Int.tdiv_eq_ediv_of_nonneg (by omega)];omega
  have d3:(l.length:Int) / 2=((l.length / 2:Nat):Int):=by omega
  have hhl:l.length / 2<=l.length:=by omega
  have d4:l.length / 2<l.length:=by omega
  have hh1:1<=l.length / 2:=by omega
  clear b7 hEd hx0 h2;generalize hhe:l.length / 2=hf at hdv d3 hhl d4 hh1;have HHe:Hid _:=hhe;have hlh:l.length-hf<=N:=by omega
  have hfn:hf<=N:=by omega
  clear hhe;go_enter Tryz.func55,Tryz.ntmps55
  go_wp2_with fail
  refine(cV.out (l.take hf) _ w (by simp;omega) (by simp;omega) (KN hf rfl cG.out hhl) (fun a n c e=>by cases e;omega)).mono ?_;rintro e w1 ⟨va,rfl,hra,hB1⟩;have HE1:Hid _:=aI.below cG.out hB1;have HRa:Hid _:=hra;have HB1:Hid _:=hB1;clear hra hB1;go_wp2_with fail
  refine(cV.out (l.drop hf) _ w1 (by simp;omega) (by simp;omega) (M8 hf rfl HE1.out) (fun a n c e=>by cases e;omega)).mono ?_;rintro e w2 ⟨vb,rfl,hrb,hB2⟩;have hAl:(Gm.TM (l.take hf)).length<=1000000:=by have:=Gm.ordE_len (l.take hf);simp at this;omega
  have hBl:(Gm.TM (l.drop hf)).length<=1000000:=by have:=Gm.ordE_len (l.drop hf);simp at this;omega
  have hAs:=Gm.F3 (l.take hf);have hBs:=Gm.F3 (l.drop hf);have cW:Hid (∀ x,x∈l↔x∈Gm.TM (l.take hf)\/x∈Gm.TM (l.drop hf)):=(fun x=>by
   rw[Gm.VW,Gm.VW,<-aC9,aD5]:∀ x,x∈l↔_)
  have hEA:aI w2 va (Gm.TM (l.take hf)):=(kJ HRa.out).below hB2;have hEB:aI w2 vb (Gm.TM (l.drop hf)):=kJ hrb;have HBw:Hid (Below w.heap.size w w2):=chain HB1.out hB2;have cM:Hid _:=hAs;have cN:Hid _:=hBs;generalize Gm.TM (l.take hf)=A at hAl cW hEA cM;generalize Gm.TM (l.drop hf)=B at hBl cW hEB cN;obtain⟨aa,ca,rfl,heA⟩:=hEA;obtain⟨ab,cb,rfl,heB⟩:=hEB;have HEA:Hid _:=heA;have cS:Hid _:=heB;clear hrb hB2 hAs hBs heA heB HRa HE1 cV cG HB1;go_wp2;go_loopw [5,6,7] (fun so si sk wr=>∃(i k:Nat) (L:List E3),i<=A.length/\k<=B.length/\si = .int .i64 (i:Int)/\sk = .int .i64 (k:Int)/\Hid (eO w2 wr so L/\Gm.MInv A B i k L)) (fun _ si sk _=>A.length+B.length-((intOf si).toNat+(intOf sk).toNat))
  case atStart=>exact⟨0,0,[],aC6 _,aC6 _,rfl,rfl,⟨aG2 _ _ _ _,YQ _ _⟩,Gm.MInv.start A B⟩
  case round =>
   obtain⟨i,k,L,hiA,hkB,rfl,rfl,HI⟩:=hrel;obtain⟨vo,rfl⟩:∃ vo,vo=u5:=⟨u5,rfl⟩;by_cases hend:A.length<=i/\B.length<=k
   ·obtain rfl:i=A.length:=by omega
    obtain rfl:k=B.length:=by omega
    have HF:Hid (L=Gm.TM l):=HI.out.2.all cW.out;have HO:Hid _:=HI.out.1;clear hend;go_wp2;go_ret;refine⟨_,rfl,?_,chain HBw.out HO.out.2⟩;rw[<-HF.out];have h:=HO.out.1;have hs:=HBw.out.size;refine⟨h.1,?_⟩;rcases h.2 with h0 | ⟨g,cap,a7,hv,hb,r⟩
    ·exact .inl h0
    ·exact .inr ⟨g,cap,a7,hv,by omega,r⟩
   ·have d6:i<A.length\/k<B.length:=by omega
    have HNe:Hid _:=d6;have hBx:Below w2.heap.size w2 (wr.alloc (.cells #[.int .i64 0,.int .i64 0,.int .i64 0] 38)):=HI.out.1.2.alloc HI.out.1.2.size _;have b9:Hid _:=hBx;clear hend hBx;rcases aG5 i A.length with hi1 | hi1
    ·have hiI:(i:Int)<(A.length:Int):=by omega
     obtain⟨xa,d7⟩:∃ xa,A[i]?=some xa:=⟨_,A7 hi1⟩;have cX:Hid _:=d7;obtain⟨ga,oa,rfl,c0,c1,c2⟩:=HEA.out i xa d7;clear d6 d7;go_upto_region 10 with fail
     go_cut [9] (fun s wx=>∃ bf:Bool,s = .bool bf/\Hid ((bf=true->∃ x,A[i]?=some x/\(B.length<=k\/∃ y,B[k]?=some y/\Gm.ltE x y=true))/\(bf=false->∃ x,B[k]?=some x/\(A.length<=i\/∃ y,A[i]?=some y/\Gm.ltE y x=false)))/\Hid (wx.heap[wr.heap.size]?=some (.cells #[.int .i64 0,.int .i64 0,.int .i64 0] 38 (0,0))/\Below wr.heap.size wr wx))
     case first =>
      have d0:=cell_kept b9.out _ _ c0;have d1:=cell_kept b9.out _ _ c1;have d2:=cell_kept b9.out _ _ c2;have bX:Hid (Below wr.heap.size wr (wr.alloc (.cells #[.int .i64 0,.int .i64 0,.int .i64 0] 38))):=aA _ _;have c7:Hid ((wr.alloc (.cells #[.int .i64 0,.int .i64 0,.int .i64 0] 38)).heap[wr.heap.size]?=some (.cells #[.int .i64 0,.int .i64 0,.int .i64 0] 38 (0,0))):=heap_alloc_new _ _;obtain⟨x1,x2,x3⟩:=xa;simp only at d0 d1 d2;rcases aG5 k B.length with cL | cL
      ·obtain⟨xb,cE⟩:∃ xb,B[k]?=some xb:=⟨_,A7 cL⟩;have cP:Hid _:=cE;obtain⟨gb,ob,rfl,e0,e1,e2⟩:=cS.out k xb cE;have f0:=cell_kept b9.out _ _ e0;have f1:=cell_kept b9.out _ _ e1;have f2:=cell_kept b9.out _ _ e2;obtain⟨y1,y2,y3⟩:=xb;simp only at f0 f1 f2;have hkI:(k:Int)<(B.length:Int):=by omega
       have hkE:((k:Int) == (B.length:Int))=false:=by simpa using(by omega:¬(k:Int)=(B.length:Int))
       have cR:∀ W,Hid (Calls Tryz.prog 97 _ W _):=fun W=>QP x1 x2 x3 y1 y2 y3 W;simp only[aBE]at cR;clear c0 c1 c2 e0 e1 e2 cE;generalize hlv:Gm.ltE (x1,x2,x3) (y1,y2,y3)=lv at cR;have HLV:Hid _:=hlv;clear hlv;generalize wr.alloc (.cells #[.int .i64 0,.int .i64 0,.int .i64 0] 38)=Wx at d0 d1 d2 f0 f1 f2 bX c7 b9 ⊢;go_region_held (fun w'=>w'.cell? ⟨ga,oa+i*3,none⟩=some (.int .i64 x1)/\w'.cell? ⟨ga,oa+i*3+1,none⟩=some (.int .i64 x2)/\w'.cell? ⟨ga,oa+i*3+2,none⟩=some (.int .i64 x3)/\w'.cell? ⟨gb,ob+k*3,none⟩=some (.int .i64 y1)/\w'.cell? ⟨gb,ob+k*3+1,none⟩=some (.int .i64 y2)/\w'.cell? ⟨gb,ob+k*3+2,none⟩=some (.int .i64 y3)) (refine⟨?_,?_,?_,?_,?_,?_⟩ <;> (repeat (first | assumption | apply fZ)))
        (first
         | (go_at_call 97;refine(aC0 (cR _).out ?_);rintro e w' ⟨rfl,hB9⟩;have q0:=cell_kept hB9 _ _ d0;have q1:=cell_kept hB9 _ _ d1;have q2:=cell_kept hB9 _ _ d2;have q3:=cell_kept hB9 _ _ f0;have q4:=cell_kept hB9 _ _ f1;have q5:=cell_kept hB9 _ _ f2))
       go_wp2_with fail
       go_meet;case rel =>
        refine⟨lv,rfl,?_,?_⟩
        ·exact(show _/\_ from⟨fun h=>⟨_,cX.out,.inr ⟨_,cP.out,by rw[HLV.out];exact h⟩⟩,fun h=>⟨_,cP.out,.inr ⟨_,cX.out,by rw[HLV.out];exact h⟩⟩⟩)
        ·exact(show _/\_ from⟨by rw[hB9.block _ ((aC2.1 c7.out).1)];exact c7.out,bX.out.drew.trans (hB9.mono bX.out.size)⟩)
      ·have hkE:((k:Int) == (B.length:Int))=true:=by simpa using(by omega:(k:Int)=(B.length:Int))
       clear c0 c1 c2;generalize wr.alloc (.cells #[.int .i64 0,.int .i64 0,.int .i64 0] 38)=Wx at d0 d1 d2 bX c7 b9 ⊢;go_quiet (fail)
       go_wp2_with fail
       go_meet;case rel =>
        refine⟨true,rfl,?_,?_⟩
        ·exact(show _/\_ from⟨fun _=>⟨_,cX.out,.inl cL⟩,fun h=>by cases h⟩)
        ·exact(show _/\_ from⟨c7.out,mY bX.out _⟩)
     case rest =>
      obtain⟨bf,rfl,HP,HW⟩:=hcut;clear c0 c1 c2;cases bf
      ·-- b's
       have a9:=HW.out.1;have a6:=HW.out.2;obtain⟨x,hx,b8⟩:=HP.out.2 rfl;have b3:Hid (Gm.MInv A B i (k+1) (Gm.push L x)):=HI.out.2.right cM.out cN.out hx b8;obtain⟨ga2,oa2,cH,c0,c1,c2⟩:=cS.out k x hx;cases cH;have a3:Below w2.heap.size w2 wc:=HI.out.1.2.trans (a6.mono HI.out.1.2.size);have d0:=cell_kept a3 _ _ c0;have d1:=cell_kept a3 _ _ c1;have d2:=cell_kept a3 _ _ c2;obtain⟨x1,x2,x3⟩:=x;simp only at d0 d1 d2;have cJ:(k:Int)<(B.length:Int):=by have:=bN hx;omega
       have hLn:L.length<=2000000:=by
        have h1:L.length<=i+k:=HI.out.2.len;omega
       obtain⟨b0,b1,b2⟩:=cells3 a9;have f0:=frozen_of_row wc wr.heap.size 0 _ _ a9;have f1:=frozen_of_row wc wr.heap.size 1 _ _ a9;have f2:=frozen_of_row wc wr.heap.size 2 _ _ a9;have h1:=heap_setCell_same wc wr.heap.size 0 _ _ (.int .i64 x1) a9;have h2:=heap_setCell_same _ wr.heap.size 1 _ _ (.int .i64 x2) h1;have h3:=heap_setCell_same _ wr.heap.size 2 _ _ (.int .i64 x3) h2;have c8:Hid ((((wc.setCell ⟨wr.heap.size,0,none⟩ (.int .i64 x1)).setCell ⟨wr.heap.size,1,none⟩ (.int .i64 x2)).setCell ⟨wr.heap.size,2,none⟩ (.int .i64 x3)).heap[wr.heap.size]?=some (.cells #[.int .i64 x1,.int .i64 x2,.int .i64 x3] 38 (0,0))):=h3;have a5:Hid (Below wr.heap.size wr (((wc.setCell ⟨wr.heap.size,0,none⟩ (.int .i64 x1)).setCell ⟨wr.heap.size,1,none⟩ (.int .i64 x2)).setCell ⟨wr.heap.size,2,none⟩ (.int .i64 x3))):=((a6.setCell (p:=⟨wr.heap.size,0,none⟩) (V7 _) _).setCell (p:=⟨wr.heap.size,1,none⟩) (V7 _) _).setCell (p:=⟨wr.heap.size,2,none⟩) (V7 _) _;clear hx b8 c0 c1 c2 a3 a6 a9 h1 h2 h3 HW HP;go_upto_region 16 with fail
       generalize ((wc.setCell ⟨wr.heap.size,0,none⟩ (.int .i64 x1)).setCell ⟨wr.heap.size,1,none⟩ (.int .i64 x2)).setCell ⟨wr.heap.size,2,none⟩ (.int .i64 x3)=W3 at c8 a5 ⊢;clear b0 b1 b2 f0 f1 f2 d0 d1 d2;obtain⟨b0,b1,b2⟩:=cells3 c8.out;have a8:eO w2 W3 vo L:=⟨dZ HI.out.1.1 a5.out,HI.out.1.2.trans (a5.out.mono HI.out.1.2.size)⟩;have b4:Hid _:=a8;have gE:=guardE;have a2:=a8.1;have aE:=a8.2.size;by_cases hL0:L=[]
       ·subst hL0;have aG:Hid (Gm.push [] (x1,x2,x3)=[]++[(x1,x2,x3)]):=(rfl:Gm.push [] (x1,x2,x3)=_);obtain⟨ao,co,rfl⟩:∃ ao co,vo = .slice ao 0 co:=by
         rcases a2.2 with ⟨rfl,_⟩ | ⟨g',c',_,rfl,_⟩
         ·exact⟨none,0,rfl⟩
         ·exact⟨_,_,rfl⟩
        clear a8;go_quiet (fail)
        go_wp2_with (at_builtin;refine wpList_append_own _ rfl _ _ 24 rfl w2.heap.size 38 i0 (.agg #[.int .i64 0,.int .i64 0,.int .i64 0]) 3 24 Tryz.underlying24 hi aL cA cB rfl (by decide) _ _ _ rfl (dZ a2 (iV W3 nq _)) ⟨W3.heap.size,0,none⟩ 1 1 [.int .i64 x1,.int .i64 x2,.int .i64 x3] rfl rfl (J4 _ _ _ _ _ _) (ED _ _ _) (by unfold maxLen;simp) (by simp) (by simp;omega) ?_)
        intro v' w4 hown hgrow hnil;have b5:Hid (eO w2 w4 v' (Gm.push [] (x1,x2,x3))):=(by
         rw[aG.out];exact eP (e:=(x1,x2,x3)) (eO.drewN b4.out nq) hown hgrow:eO _ _ _ _)
        clear hown hgrow hnil a2;go_wp2;go_roundw;case rel=>exact⟨i,k+1,_,by omega,by omega,by go_num,by go_num,b5.out,b3.out⟩
        case measure=>simp[intOf] <;> omega
       ·obtain⟨g2,co,a7,rfl,_,b6,r1,r2,r3,r4⟩:∃ g2 co a7,vo = .slice (some ⟨g2,0,none⟩) L.length co/\w2.heap.size<=g2/\W3.heap[g2]?=some (.cells a7 38 (0,0))/\L.length<=co/\co<=maxLen/\a7.size=co*3/\a7.toList.take (L.length*3)=flat L:=by
         rcases a2.2 with ⟨_,h0⟩ | h
         ·exact absurd (aI6.1 h0) hL0
         ·exact h
        have hR:aR W3 g2 co L:=⟨a7,b6,r3,r4⟩;have hLp:0<L.length:=List.length_pos_iff.2 hL0;obtain⟨z,hz⟩:∃ z,L[L.length-1]?=some z:=⟨_,A7 (by omega)⟩;have a4:L.getLast?=some z:=by rw[List.getLast?_eq_getElem?];exact hz
        obtain⟨e0,e1,e2⟩:=hR.cells hz;obtain⟨z1,z2,z3⟩:=z;simp only at e0 e1 e2;have hLI:((L.length:Int) == 0)=false:=by simpa using(by omega:¬(L.length:Int)=0)
        have hLm:(L.length:Int)-1=((L.length-1:Nat):Int):=by omega
        have hLb:((L.length-1:Nat):Int)<(L.length:Int):=by omega
        by_cases hxe:(z1,z2,z3)=(x1,x2,x3)
        ·have cI:=EC z1 z2 z3 x1 x2 x3 true (decide_eq_true hxe);have aG:Hid (Gm.push L (x1,x2,x3)=L):=(by unfold Gm.push;rw[a4,hxe,if_pos rfl]:_=_);clear hxe hz a4 a8 hR r4 r3 b6;go_quiet (fail)
         go_wp2;go_roundw;case rel=>exact⟨i,k+1,L,by omega,by omega,by go_num,by go_num,eO.drewN b4.out _,by rw[<-aG.out];exact b3.out⟩
         case measure=>simp[intOf] <;> omega
        ·have cI:=EC z1 z2 z3 x1 x2 x3 false (decide_eq_false hxe);have aG:Hid (Gm.push L (x1,x2,x3)=L++[(x1,x2,x3)]):=(by unfold Gm.push;rw[a4,if_neg (fun e=>hxe (aH5 e))]:_=_);clear hxe hz a4 a8 hR r4 r3 b6;go_quiet (fail)
         go_wp2_with (at_builtin;refine wpList_append_own _ rfl _ _ 24 rfl w2.heap.size 38 i0 (.agg #[.int .i64 0,.int .i64 0,.int .i64 0]) 3 24 Tryz.underlying24 hi aL cA cB rfl (by decide) _ _ _ rfl (dZ a2 (iV W3 nq _)) ⟨W3.heap.size,0,none⟩ 1 1 [.int .i64 x1,.int .i64 x2,.int .i64 x3] rfl rfl (J4 _ _ _ _ _ _) (ED _ _ _) (by unfold maxLen;omega) (by omega) (by simp;omega) ?_)
         intro v' w4 hown hgrow hnil;have b5:Hid (eO w2 w4 v' (Gm.push L (x1,x2,x3))):=(by
          rw[aG.out];exact eP (e:=(x1,x2,x3)) (eO.drewN b4.out nq) hown hgrow:eO _ _ _ _)
         clear hown hgrow hnil a2;go_wp2;go_roundw;case rel=>exact⟨i,k+1,_,by omega,by omega,by go_num,by go_num,b5.out,b3.out⟩
         case measure=>simp[intOf] <;> omega
      ·-- a's
       have a9:=HW.out.1;have a6:=HW.out.2;obtain⟨x,hx,b8⟩:=HP.out.1 rfl;have b3:Hid (Gm.MInv A B (i+1) k (Gm.push L x)):=HI.out.2.left cM.out cN.out hx b8;obtain⟨ga2,oa2,cH,c0,c1,c2⟩:=HEA.out i x hx;cases cH;have a3:Below w2.heap.size w2 wc:=HI.out.1.2.trans (a6.mono HI.out.1.2.size);have d0:=cell_kept a3 _ _ c0;have d1:=cell_kept a3 _ _ c1;have d2:=cell_kept a3 _ _ c2;obtain⟨x1,x2,x3⟩:=x;simp only at d0 d1 d2;have cJ:(i:Int)<(A.length:Int):=by have:=bN hx;omega
       have hLn:L.length<=2000000:=by
        have h1:L.length<=i+k:=HI.out.2.len;omega
       obtain⟨b0,b1,b2⟩:=cells3 a9;have f0:=frozen_of_row wc wr.heap.size 0 _ _ a9;have f1:=frozen_of_row wc wr.heap.size 1 _ _ a9;have f2:=frozen_of_row wc wr.heap.size 2 _ _ a9;have h1:=heap_setCell_same wc wr.heap.size 0 _ _ (.int .i64 x1) a9;have h2:=heap_setCell_same _ wr.heap.size 1 _ _ (.int .i64 x2) h1;have h3:=heap_setCell_same _ wr.heap.size 2 _ _ (.int .i64 x3) h2;have c8:Hid ((((wc.setCell ⟨wr.heap.size,0,none⟩ (.int .i64 x1)).setCell ⟨wr.heap.size,1,none⟩ (.int .i64 x2)).setCell ⟨wr.heap.size,2,none⟩ (.int .i64 x3)).heap[wr.heap.size]?=some (.cells #[.int .i64 x1,.int .i64 x2,.int .i64 x3] 38 (0,0))):=h3;have a5:Hid (Below wr.heap.size wr (((wc.setCell ⟨wr.heap.size,0,none⟩ (.int .i64 x1)).setCell ⟨wr.heap.size,1,none⟩ (.int .i64 x2)).setCell ⟨wr.heap.size,2,none⟩ (.int .i64 x3))):=((a6.setCell (p:=⟨wr.heap.size,0,none⟩) (V7 _) _).setCell (p:=⟨wr.heap.size,1,none⟩) (V7 _) _).setCell (p:=⟨wr.heap.size,2,none⟩) (V7 _) _;clear hx b8 c0 c1 c2 a3 a6 a9 h1 h2 h3 HW HP;go_upto_region 16 with fail
       generalize ((wc.setCell ⟨wr.heap.size,0,none⟩ (.int .i64 x1)).setCell ⟨wr.heap.size,1,none⟩ (.int .i64 x2)).setCell ⟨wr.heap.size,2,none⟩ (.int .i64 x3)=W3 at c8 a5 ⊢;clear b0 b1 b2 f0 f1 f2 d0 d1 d2;obtain⟨b0,b1,b2⟩:=cells3 c8.out;have a8:eO w2 W3 vo L:=⟨dZ HI.out.1.1 a5.out,HI.out.1.2.trans (a5.out.mono HI.out.1.2.size)⟩;have b4:Hid _:=a8;have gE:=guardE;have a2:=a8.1;have aE:=a8.2.size;by_cases hL0:L=[]
       ·subst hL0;have aG:Hid (Gm.push [] (x1,x2,x3)=[]++[(x1,x2,x3)]):=(rfl:Gm.push [] (x1,x2,x3)=_);obtain⟨ao,co,rfl⟩:∃ ao co,vo = .slice ao 0 co:=by
         rcases a2.2 with ⟨rfl,_⟩ | ⟨g',c',_,rfl,_⟩
         ·exact⟨none,0,rfl⟩
         ·exact⟨_,_,rfl⟩
        clear a8;go_quiet (fail)
        go_wp2_with (at_builtin;refine wpList_append_own _ rfl _ _ 24 rfl w2.heap.size 38 i0 (.agg #[.int .i64 0,.int .i64 0,.int .i64 0]) 3 24 Tryz.underlying24 hi aL cA cB rfl (by decide) _ _ _ rfl (dZ a2 (iV W3 nq _)) ⟨W3.heap.size,0,none⟩ 1 1 [.int .i64 x1,.int .i64 x2,.int .i64 x3] rfl rfl (J4 _ _ _ _ _ _) (ED _ _ _) (by unfold maxLen;simp) (by simp) (by simp;omega) ?_)
        intro v' w4 hown hgrow hnil;have b5:Hid (eO w2 w4 v' (Gm.push [] (x1,x2,x3))):=(by
         rw[aG.out];exact eP (e:=(x1,x2,x3)) (eO.drewN b4.out nq) hown hgrow:eO _ _ _ _)
        clear hown hgrow hnil a2;go_wp2;go_roundw;case rel=>exact⟨i+1,k,_,by omega,by omega,by go_num,by go_num,b5.out,b3.out⟩
        case measure=>simp[intOf] <;> omega
       ·obtain⟨g2,co,a7,rfl,_,b6,r1,r2,r3,r4⟩:∃ g2 co a7,vo = .slice (some ⟨g2,0,none⟩) L.length co/\w2.heap.size<=g2/\W3.heap[g2]?=some (.cells a7 38 (0,0))/\L.length<=co/\co<=maxLen/\a7.size=co*3/\a7.toList.take (L.length*3)=flat L:=by
         rcases a2.2 with ⟨_,h0⟩ | h
         ·exact absurd (aI6.1 h0) hL0
         ·exact h
        have hR:aR W3 g2 co L:=⟨a7,b6,r3,r4⟩;have hLp:0<L.length:=List.length_pos_iff.2 hL0;obtain⟨z,hz⟩:∃ z,L[L.length-1]?=some z:=⟨_,A7 (by omega)⟩;have a4:L.getLast?=some z:=by rw[List.getLast?_eq_getElem?];exact hz
        obtain⟨e0,e1,e2⟩:=hR.cells hz;obtain⟨z1,z2,z3⟩:=z;simp only at e0 e1 e2;have hLI:((L.length:Int) == 0)=false:=by simpa using(by omega:¬(L.length:Int)=0)
        have hLm:(L.length:Int)-1=((L.length-1:Nat):Int):=by omega
        have hLb:((L.length-1:Nat):Int)<(L.length:Int):=by omega
        by_cases hxe:(z1,z2,z3)=(x1,x2,x3)
        ·have cI:=EC z1 z2 z3 x1 x2 x3 true (decide_eq_true hxe);have aG:Hid (Gm.push L (x1,x2,x3)=L):=(by unfold Gm.push;rw[a4,hxe,if_pos rfl]:_=_);clear hxe hz a4 a8 hR r4 r3 b6;go_quiet (fail)
         go_wp2;go_roundw;case rel=>exact⟨i+1,k,L,by omega,by omega,by go_num,by go_num,eO.drewN b4.out _,by rw[<-aG.out];exact b3.out⟩
         case measure=>simp[intOf] <;> omega
        ·have cI:=EC z1 z2 z3 x1 x2 x3 false (decide_eq_false hxe);have aG:Hid (Gm.push L (x1,x2,x3)=L++[(x1,x2,x3)]):=(by unfold Gm.push;rw[a4,if_neg (fun e=>hxe (aH5 e))]:_=_);clear hxe hz a4 a8 hR r4 r3 b6;go_quiet (fail)
         go_wp2_with (at_builtin;refine wpList_append_own _ rfl _ _ 24 rfl w2.heap.size 38 i0 (.agg #[.int .i64 0,.int .i64 0,.int .i64 0]) 3 24 Tryz.underlying24 hi aL cA cB rfl (by decide) _ _ _ rfl (dZ a2 (iV W3 nq _)) ⟨W3.heap.size,0,none⟩ 1 1 [.int .i64 x1,.int .i64 x2,.int .i64 x3] rfl rfl (J4 _ _ _ _ _ _) (ED _ _ _) (by unfold maxLen;omega) (by omega) (by simp;omega) ?_)
         intro v' w4 hown hgrow hnil;have b5:Hid (eO w2 w4 v' (Gm.push L (x1,x2,x3))):=(by
          rw[aG.out];exact eP (e:=(x1,x2,x3)) (eO.drewN b4.out nq) hown hgrow:eO _ _ _ _)
         clear hown hgrow hnil a2;go_wp2;go_roundw;case rel=>exact⟨i+1,k,_,by omega,by omega,by go_num,by go_num,b5.out,b3.out⟩
         case measure=>simp[intOf] <;> omega
    ·have hiI:¬(i:Int)<(A.length:Int):=by omega
     have cL:k<B.length:=by omega
     have hkI:(k:Int)<(B.length:Int):=by omega
     obtain⟨xb,cE⟩:∃ xb,B[k]?=some xb:=⟨_,A7 cL⟩;have cP:Hid _:=cE;clear d6 cE;go_upto_region 10 with fail
     go_cut [9] (fun s wx=>∃ bf:Bool,s = .bool bf/\Hid ((bf=true->∃ x,A[i]?=some x/\(B.length<=k\/∃ y,B[k]?=some y/\Gm.ltE x y=true))/\(bf=false->∃ x,B[k]?=some x/\(A.length<=i\/∃ y,A[i]?=some y/\Gm.ltE y x=false)))/\Hid (wx.heap[wr.heap.size]?=some (.cells #[.int .i64 0,.int .i64 0,.int .i64 0] 38 (0,0))/\Below wr.heap.size wr wx))
     case first =>
      have bX:Hid (Below wr.heap.size wr (wr.alloc (.cells #[.int .i64 0,.int .i64 0,.int .i64 0] 38))):=aA _ _;have c7:Hid ((wr.alloc (.cells #[.int .i64 0,.int .i64 0,.int .i64 0] 38)).heap[wr.heap.size]?=some (.cells #[.int .i64 0,.int .i64 0,.int .i64 0] 38 (0,0))):=heap_alloc_new _ _;generalize wr.alloc (.cells #[.int .i64 0,.int .i64 0,.int .i64 0] 38)=Wx at bX c7 b9 ⊢;go_quiet (fail)
      go_wp2_with fail
      go_meet;case rel =>
       refine⟨false,rfl,?_,?_⟩
       ·exact(show _/\_ from⟨(fun h=>by cases h),fun _=>⟨_,cP.out,.inl hi1⟩⟩)
       ·exact(show _/\_ from⟨c7.out,mY bX.out _⟩)
     case rest =>
      obtain⟨bf,rfl,HP,HW⟩:=hcut;cases bf
      ·-- b's
       have a9:=HW.out.1;have a6:=HW.out.2;obtain⟨x,hx,b8⟩:=HP.out.2 rfl;have b3:Hid (Gm.MInv A B i (k+1) (Gm.push L x)):=HI.out.2.right cM.out cN.out hx b8;obtain⟨ga2,oa2,cH,c0,c1,c2⟩:=cS.out k x hx;cases cH;have a3:Below w2.heap.size w2 wc:=HI.out.1.2.trans (a6.mono HI.out.1.2.size);have d0:=cell_kept a3 _ _ c0;have d1:=cell_kept a3 _ _ c1;have d2:=cell_kept a3 _ _ c2;obtain⟨x1,x2,x3⟩:=x;simp only at d0 d1 d2;have cJ:(k:Int)<(B.length:Int):=by have:=bN hx;omega
       have hLn:L.length<=2000000:=by
        have h1:L.length<=i+k:=HI.out.2.len;omega
       obtain⟨b0,b1,b2⟩:=cells3 a9;have f0:=frozen_of_row wc wr.heap.size 0 _ _ a9;have f1:=frozen_of_row wc wr.heap.size 1 _ _ a9;have f2:=frozen_of_row wc wr.heap.size 2 _ _ a9;have h1:=heap_setCell_same wc wr.heap.size 0 _ _ (.int .i64 x1) a9;have h2:=heap_setCell_same _ wr.heap.size 1 _ _ (.int .i64 x2) h1;have h3:=heap_setCell_same _ wr.heap.size 2 _ _ (.int .i64 x3) h2;have c8:Hid ((((wc.setCell ⟨wr.heap.size,0,none⟩ (.int .i64 x1)).setCell ⟨wr.heap.size,1,none⟩ (.int .i64 x2)).setCell ⟨wr.heap.size,2,none⟩ (.int .i64 x3)).heap[wr.heap.size]?=some (.cells #[.int .i64 x1,.int .i64 x2,.int .i64 x3] 38 (0,0))):=h3;have a5:Hid (Below wr.heap.size wr (((wc.setCell ⟨wr.heap.size,0,none⟩ (.int .i64 x1)).setCell ⟨wr.heap.size,1,none⟩ (.int .i64 x2)).setCell ⟨wr.heap.size,2,none⟩ (.int .i64 x3))):=((a6.setCell (p:=⟨wr.heap.size,0,none⟩) (V7 _) _).setCell (p:=⟨wr.heap.size,1,none⟩) (V7 _) _).setCell (p:=⟨wr.heap.size,2,none⟩) (V7 _) _;clear hx b8 c0 c1 c2 a3 a6 a9 h1 h2 h3 HW HP;go_upto_region 16 with fail
       generalize ((wc.setCell ⟨wr.heap.size,0,none⟩ (.int .i64 x1)).setCell ⟨wr.heap.size,1,none⟩ (.int .i64 x2)).setCell ⟨wr.heap.size,2,none⟩ (.int .i64 x3)=W3 at c8 a5 ⊢;clear b0 b1 b2 f0 f1 f2 d0 d1 d2;obtain⟨b0,b1,b2⟩:=cells3 c8.out;have a8:eO w2 W3 vo L:=⟨dZ HI.out.1.1 a5.out,HI.out.1.2.trans (a5.out.mono HI.out.1.2.size)⟩;have b4:Hid _:=a8;have gE:=guardE;have a2:=a8.1;have aE:=a8.2.size;by_cases hL0:L=[]
       ·subst hL0;have aG:Hid (Gm.push [] (x1,x2,x3)=[]++[(x1,x2,x3)]):=(rfl:Gm.push [] (x1,x2,x3)=_);obtain⟨ao,co,rfl⟩:∃ ao co,vo = .slice ao 0 co:=by
         rcases a2.2 with ⟨rfl,_⟩ | ⟨g',c',_,rfl,_⟩
         ·exact⟨none,0,rfl⟩
         ·exact⟨_,_,rfl⟩
        clear a8;go_quiet (fail)
        go_wp2_with (at_builtin;refine wpList_append_own _ rfl _ _ 24 rfl w2.heap.size 38 i0 (.agg #[.int .i64 0,.int .i64 0,.int .i64 0]) 3 24 Tryz.underlying24 hi aL cA cB rfl (by decide) _ _ _ rfl (dZ a2 (iV W3 nq _)) ⟨W3.heap.size,0,none⟩ 1 1 [.int .i64 x1,.int .i64 x2,.int .i64 x3] rfl rfl (J4 _ _ _ _ _ _) (ED _ _ _) (by unfold maxLen;simp) (by simp) (by simp;omega) ?_)
        intro v' w4 hown hgrow hnil;have b5:Hid (eO w2 w4 v' (Gm.push [] (x1,x2,x3))):=(by
         rw[aG.out];exact eP (e:=(x1,x2,x3)) (eO.drewN b4.out nq) hown hgrow:eO _ _ _ _)
        clear hown hgrow hnil a2;go_wp2;go_roundw;case rel=>exact⟨i,k+1,_,by omega,by omega,by go_num,by go_num,b5.out,b3.out⟩
        case measure=>simp[intOf] <;> omega
       ·obtain⟨g2,co,a7,rfl,_,b6,r1,r2,r3,r4⟩:∃ g2 co a7,vo = .slice (some ⟨g2,0,none⟩) L.length co/\w2.heap.size<=g2/\W3.heap[g2]?=some (.cells a7 38 (0,0))/\L.length<=co/\co<=maxLen/\a7.size=co*3/\a7.toList.take (L.length*3)=flat L:=by
         rcases a2.2 with ⟨_,h0⟩ | h
         ·exact absurd (aI6.1 h0) hL0
         ·exact h
        have hR:aR W3 g2 co L:=⟨a7,b6,r3,r4⟩;have hLp:0<L.length:=List.length_pos_iff.2 hL0;obtain⟨z,hz⟩:∃ z,L[L.length-1]?=some z:=⟨_,A7 (by omega)⟩;have a4:L.getLast?=some z:=by rw[List.getLast?_eq_getElem?];exact hz
        obtain⟨e0,e1,e2⟩:=hR.cells hz;obtain⟨z1,z2,z3⟩:=z;simp only at e0 e1 e2;have hLI:((L.length:Int) == 0)=false:=by simpa using(by omega:¬(L.length:Int)=0)
        have hLm:(L.length:Int)-1=((L.length-1:Nat):Int):=by omega
        have hLb:((L.length-1:Nat):Int)<(L.length:Int):=by omega
        by_cases hxe:(z1,z2,z3)=(x1,x2,x3)
        ·have cI:=EC z1 z2 z3 x1 x2 x3 true (decide_eq_true hxe);have aG:Hid (Gm.push L (x1,x2,x3)=L):=(by unfold Gm.push;rw[a4,hxe,if_pos rfl]:_=_);clear hxe hz a4 a8 hR r4 r3 b6;go_quiet (fail)
         go_wp2;go_roundw;case rel=>exact⟨i,k+1,L,by omega,by omega,by go_num,by go_num,eO.drewN b4.out _,by rw[<-aG.out];exact b3.out⟩
         case measure=>simp[intOf] <;> omega
        ·have cI:=EC z1 z2 z3 x1 x2 x3 false (decide_eq_false hxe);have aG:Hid (Gm.push L (x1,x2,x3)=L++[(x1,x2,x3)]):=(by unfold Gm.push;rw[a4,if_neg (fun e=>hxe (aH5 e))]:_=_);clear hxe hz a4 a8 hR r4 r3 b6;go_quiet (fail)
         go_wp2_with (at_builtin;refine wpList_append_own _ rfl _ _ 24 rfl w2.heap.size 38 i0 (.agg #[.int .i64 0,.int .i64 0,.int .i64 0]) 3 24 Tryz.underlying24 hi aL cA cB rfl (by decide) _ _ _ rfl (dZ a2 (iV W3 nq _)) ⟨W3.heap.size,0,none⟩ 1 1 [.int .i64 x1,.int .i64 x2,.int .i64 x3] rfl rfl (J4 _ _ _ _ _ _) (ED _ _ _) (by unfold maxLen;omega) (by omega) (by simp;omega) ?_)
         intro v' w4 hown hgrow hnil;have b5:Hid (eO w2 w4 v' (Gm.push L (x1,x2,x3))):=(by
          rw[aG.out];exact eP (e:=(x1,x2,x3)) (eO.drewN b4.out nq) hown hgrow:eO _ _ _ _)
         clear hown hgrow hnil a2;go_wp2;go_roundw;case rel=>exact⟨i,k+1,_,by omega,by omega,by go_num,by go_num,b5.out,b3.out⟩
         case measure=>simp[intOf] <;> omega
      ·obtain⟨x,hx,_⟩:=HP.out.1 rfl;exact absurd (bN hx) (by omega)
theorem QL(L:List Bool):(⟨((eQ (UC L) ((UC L).length / 2016)).map UInt8.ofNat).toArray⟩:ByteArray)=image L:=by
 unfold image str;rw[yY,show 2016*bK L.length / 2016=bK L.length by omega,KS (UC L) L _ (fun i=>VY L _ i)]
theorem KI(f l t n s:Int):decide (0<=f/\f<n/\0<=l/\l<s/\0<=t/\t<n)=decide (Gm.edgeOk n s (f,l,t)):=rfl
theorem QQ(n s:Int)(l:List E3)(v:Value)(w:World)(he:aI w v l)(aE:¬ Gm.sizeOk n s l.length):
 Calls Tryz.prog 29 #[.int .i64 n,.int .i64 s,v] w fun e w'=>e = .returned (.tuple #[.string ⟨#[]⟩,.int .i64 2])/\w'=w:=by
 obtain⟨a0,cap,rfl,_⟩:=he;by_cases h1:n<1
 ·go_enter Tryz.func29,Tryz.ntmps29
  go_wp2;go_ret2;exact⟨rfl,rfl⟩
 ·by_cases h2:n>10000
  ·clear aE;go_enter Tryz.func29,Tryz.ntmps29
   go_wp2;go_ret2;exact⟨rfl,rfl⟩
  ·by_cases h3:s<1
   ·clear aE;go_enter Tryz.func29,Tryz.ntmps29
    go_wp2;go_ret2;exact⟨rfl,rfl⟩
   ·by_cases h4:s>26
    ·clear aE;go_enter Tryz.func29,Tryz.ntmps29
     go_wp2;go_ret2;exact⟨rfl,rfl⟩
    ·have h5:(l.length:Int)>20000:=by
      rcases aG5 20000 l.length with h | h
      ·omega
      ·exact absurd ⟨by omega,by omega,by omega,by omega,h⟩ aE
     clear aE;go_enter Tryz.func29,Tryz.ntmps29
     go_wp2;go_ret2;exact⟨rfl,rfl⟩
theorem wP(n s:Int)(l:List E3)(v:Value)(w:World)(he:aI w v l)(hcap:uO v):
 Calls Tryz.prog 29 #[.int .i64 n,.int .i64 s,v] w fun e w'=>e = .returned (.tuple #[.string (eY n s l),.int .i64 (jV n s l)])/\Below w.heap.size w w':=by
 by_cases aE:Gm.sizeOk n s l.length
 ·have cG:Hid _:=he;obtain⟨a0,cap,rfl,b7⟩:=he;have HE:Hid _:=b7;have bS:Hid _:=aE;have HCp:Hid _:=hcap;have hl2:l.length<=20000:=aE.2.2.2.2;have g1:¬ n<1:=by have:=aE.1;omega
  have g2:¬ n>10000:=by have:=aE.2.1;omega
  have g3:¬ s<1:=by have:=aE.2.2.1;omega
  have g4:¬ s>26:=by have:=aE.2.2.2.1;omega
  have g5:¬(l.length:Int)>20000:=by omega
  clear aE b7 hcap;go_enter Tryz.func29,Tryz.ntmps29
  go_wp2;go_loopw [8] (fun si wr=>∃ i:Nat,i<=l.length/\si = .int .i64 (i:Int)/\Hid ((∀ e∈l.take i,Gm.edgeOk n s e)/\Below w.heap.size w wr)) (fun si _=>l.length-(intOf si).toNat)
  case atStart=>exact⟨0,aC6 _,rfl,(fun e he=>by simp at he),YQ _ _⟩
  case round =>
   obtain⟨i,hi,rfl,HI⟩:=hrel;by_cases b8:i<l.length
   ·obtain⟨x,hx⟩:∃ x,l[i]?=some x:=⟨_,A7 b8⟩;obtain⟨g,off,rfl,c0,c1,c2⟩:=HE.out i x hx;have d0:=cell_kept HI.out.2 _ _ c0;have d1:=cell_kept HI.out.2 _ _ c1;have d2:=cell_kept HI.out.2 _ _ c2;have hiI:(i:Int)<(l.length:Int):=by omega
    have hT:=take_snoc' hx;have cD:=aC3 hx;obtain⟨x1,x2,x3⟩:=x;simp only at d0 d1 d2;have cC:=wF x1 x2 x3 n s wr;rw[KI]at cC;by_cases hok:Gm.edgeOk n s (x1,x2,x3)
    ·rw[decide_eq_true hok]at cC;have cT:Hid (Calls Tryz.prog 38 _ wr _):=cC;have HI2:Hid (∀ e∈l.take (i+1),Gm.edgeOk n s e):=(fun e he=>by
      rw[hT]at he;rcases aC9.1 he with h | h
      ·exact HI.out.1 e h
      ·simp at h;rw[h];exact hok:∀ e∈l.take (i+1),Gm.edgeOk n s e)
     clear hok c0 c1 c2 hx hT cD cC;go_wp2_with fail
     refine(aC0 cT.out ?_);rintro e w3 ⟨rfl,hB3⟩;have cF:Hid _:=chain HI.out.2 hB3;clear hB3;go_wp2;go_roundw;case rel=>exact⟨i+1,by omega,by go_num,HI2.out,cF.out⟩
     case measure=>simp[intOf] <;> omega
    ·rw[decide_eq_false hok]at cC;have cT:Hid (Calls Tryz.prog 38 _ wr _):=cC;have HN:Hid (¬ okG n s l):=(fun h=>hok (h.2 _ cD):¬ okG n s l);clear hok c0 c1 c2 hx hT cD cC;go_wp2_with fail
     refine(aC0 cT.out ?_);rintro e w3 ⟨rfl,hB3⟩;have cF:Hid _:=chain HI.out.2 hB3;clear hB3;go_wp2;go_ret2;exact⟨by rw[eY,if_neg HN.out,jV,if_neg HN.out];rfl,cF.out⟩
   ·obtain rfl:i=l.length:=by omega
    have hI:=HI.out.1;rw[aE3]at hI;have cU:Hid (okG n s l):=⟨bS.out,hI⟩;have HOr:Hid (Calls Tryz.prog 55 _ wr _):=Y9 l.length l _ wr (V7 _) (by omega) (aI.below cG.out HI.out.2) HCp.out;obtain⟨n',hn'⟩:∃ n':Nat,n=(n':Int):=⟨n.toNat,by have:=bS.out.1;omega⟩;obtain⟨s',hs'⟩:∃ s':Nat,s=(s':Int):=⟨s.toNat,by have:=bS.out.2.2.1;omega⟩;clear hI;go_wp2_with fail
    refine(aC0 HOr.out ?_);rintro e w3 ⟨v3,rfl,a2,hB3⟩;have hE3:aI w3 v3 (Gm.TM l):=kJ a2;subst hn' hs';have bW:∀ e∈Gm.TM l,Gm.edgeOk n' s' e:=fun e he=>cU.out.2 e ((Gm.VW l e).1 he);have d5:=Gm.ordE_len l;have HT:Hid (Calls Tryz.prog 54 _ w3 _):=QC n' s' (Gm.TM l) v3 w3 hE3 (Gm.F3 l) bW (by have:=bS.out.1;omega) (by have:=bS.out.2.1;omega) (by have:=bS.out.2.2.1;omega) (by have:=bS.out.2.2.2.1;omega) (by omega);have aL:=Gm.ah_zero _ (fun e h=>(bW e h).1);have d8:=Gm.ah_all _ n' (fun e h=>(bW e h).2.1);have hgl:=yS n' s' _ aL d8 (by have:=bS.out.2.1;omega) (by have:=bS.out.2.2.2.1;omega) (by omega);have hgn:=l7 n' s' _ aL d8;have HP:∀ W,Hid (Calls Tryz.prog 53 #[.string (txt (UC (dG n' s' (Gm.TM l))))] W fun e w'=>e = .returned (.string (image (dG n' s' (Gm.TM l))))/\Below W.heap.size W w'):=fun W=>(by
     have h:=QX (UC (dG n' s' (Gm.TM l))) W (by rw[yY];unfold bK;omega) (by rw[yY];unfold bK;omega);rw[QL]at h;exact h:Calls Tryz.prog 53 _ W _)
    have cF:Hid _:=chain HI.out.2 hB3;clear hE3 a2 hB3 bW d5 hgl hgn aL d8;go_wp2_with fail
    refine(aC0 HT.out ?_);rintro e w4 ⟨rfl,hB4⟩;have HB4:Hid _:=chain cF.out hB4;clear hB4;go_wp2_with fail
    refine(aC0 (HP w4).out ?_);rintro e w5 ⟨rfl,hB5⟩;have HB5:Hid _:=chain HB4.out hB5;clear hB5;go_wp2;go_ret2;exact⟨by rw[eY,if_pos cU.out,jV,if_pos cU.out,built,aG3,aG3];rfl,HB5.out⟩
 ·refine(QQ n s l v w he aE).mono ?_;rintro e w' ⟨rfl,rfl⟩;have hN:¬ okG n s l:=fun h=>aE h.1;exact⟨by rw[eY,if_neg hN,jV,if_neg hN],YQ _ _⟩
end Go.Proofs.YtphjbbbnbmafnaaGreatDoor.G
