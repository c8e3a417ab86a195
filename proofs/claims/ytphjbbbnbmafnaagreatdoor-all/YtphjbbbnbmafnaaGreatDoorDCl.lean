/- Parts: XGn XRc XRh DCl. -/
import Derived.Test.YtphjbbbnbmafnaaGreatDoorXEf
import Derived.Test.YtphjbbbnbmafnaaGreatDoorRxC
set_option maxHeartbeats 16000000
set_option maxRecDepth 100000
namespace Go.Proofs.YtphjbbbnbmafnaaGreatDoor.G
open Go.RowKit Go.Shelf RxM
variable {w:World} {X:Nat}
attribute [local go_sem] Oper.semAt_some
variable {outs:Nat->List E3}
theorem lL.pop{base K Gp n gs g cap:Nat}{l:List Wst}{wt:List Nat}{u:Nat}(h:lL outs w base K Gp X n gs (.slice (some ⟨g,0,none⟩) (wt.length+1) cap) l (wt++[u])):
 lL outs (w.setCell ⟨K,3,none⟩ (.slice (some ⟨g,0,none⟩) wt.length cap)) base K Gp X n gs (.slice (some ⟨g,0,none⟩) wt.length cap) l wt:=by
 have hs:=Same.set w ⟨K,3,none⟩ (.slice (some ⟨g,0,none⟩) wt.length cap);have hne:=h.ne.2 g rfl;refine⟨aH w K 3 _ _ _ _ h.rK,aF h.os hs (fun k e=>by simp only[Value.ownBlock,aC5]at e;subst e;exact fun e=>h.ne.1 e.symm),?_,h.len,h.ok,h.ne,h.bs,fun u x hx ha => ?_⟩
 ·refine aF ?_ hs (fun k e=>by simp only[Value.ownBlock,aC5]at e;subst e;exact hne.1);obtain⟨h1,h2⟩:=h.ow;rcases h2 with ⟨h2,_⟩ | ⟨g2,cap2,cur,e,hb,hg,hnc,hcm,hcs,ht⟩
  ·cases h2
  ·injection e with e1 e2 e3;injection e1 with e1;injection e1 with e1;subst e1 e3;refine⟨by simp,.inr ⟨g,cap,cur,rfl,hb,hg,by simp at hnc;omega,hcm,hcs,?_⟩⟩;have:=congrArg (List.take wt.length) ht;rw[List.take_take,lW]at this;rw[WT,aF6,Nat.mul_one,aI0 (by omega),List.take_left' (by simp)]at this;rw[Nat.mul_one];exact this
 ·have:=h.ed u x hx ha;exact⟨aF this.1 hs (fun g e=>(this.2 g e).1),this.2⟩
def aAL(outs:Nat->List E3)(t:Rx)(ss:List S4)(u0:Nat)(w:World)(base K Gp X n gs T:Nat)(e:Ending)(w':World):Prop :=
 e = .returned (.tuple #[])/\Below base w w'/\∃ a4 l' a1,lL outs w' base K Gp X n gs a4 l' a1/\Wk (bh0 t) (tk0 t) (Eof outs) u0 n ss.length (sa l') (sb l') a1 (fun _ _ _ _=>False)/\todo (sa l') a1 n ss.length<T
theorem IL(l:List E3)(j:Nat)(e:E3)(h:l[j]?=some e):(flat l)[j*3]?=some (.int .i64 e.1)/\(flat l)[j*3+1]?=some (.int .i64 e.2.1)/\(flat l)[j*3+2]?=some (.int .i64 e.2.2):=by
 induction l generalizing j with
 | nil=>simp at h
 | cons x l ih =>
  rw[show flat (x::l) = .int .i64 x.1::.int .i64 x.2.1::.int .i64 x.2.2::flat l from rfl];cases j with
  | zero=>simp at h;subst h;exact⟨rfl,rfl,rfl⟩
  | succ j =>
   rw[aJ5]at h;have:=ih j h;rw[show(j+1)*3=j*3+3 by omega];exact this
theorem oO.below{w':World}{o:Nat}{ss:List S4}(h:oO w X o ss)(hB:Below w.heap.size w w'):oO w' X o ss:=by
 obtain⟨g,off,cap,h1,h2⟩:=h;refine⟨g,off,cap,cell_kept hB _ _ h1,fun j s hs => ?_⟩;obtain⟨a,b,c,d⟩:=h2 j s hs;exact⟨cell_kept hB _ _ a,cell_kept hB _ _ b,cell_kept hB _ _ c,cell_kept hB _ _ d⟩
theorem VR(t:Rx)(ss ts:List S4)(en:S4)(s u0:Nat)(w0:World)(K Gp X n gs:Nat)(wv:Value)(l:List Wst)(wt:List Nat)(u:Nat)(w:World)(hE:aBe w0 X s t ss ts en)(hT:oL w0)(HOut:aBf outs w0 Gp n)(hok:GX outs n s)(hw0:Below w0.heap.size w0 w)
 (h:lL outs w w0.heap.size K Gp X n gs wv l (wt++[u])) (hk:Wk (bh0 t) (tk0 t) (Eof outs) u0 n ss.length (sa l) (sb l) (wt++[u]) (fun _ _ _ _=>False)) (hTd:todo (sa l) (wt++[u]) n ss.length<=5000000) :
 Calls Tryz.prog 79 #[.pointer (some ⟨K,0,none⟩)] w (aAL outs t ss u0 w w0.heap.size K Gp X n gs (todo (sa l) (wt++[u]) n ss.length)):=by
 have hu:u<n:=hk.inv.lt u (by simp);have h0w:0<w0.heap.size:=aE6 _ _ (hT 0 (by decide));obtain⟨x,hx⟩:∃ x,l[u]?=some x:=⟨_,A7 (by rw[h.len];exact hu)⟩;obtain⟨hk1,hk2,hk3⟩:=Y2 hx hk;have d9:=h.ok x (aC3 hx);have a6:(wt++[u]).length=wt.length+1:=by simp
 have hwtl:wt.length<=5000000:=by unfold todo at hTd;rw[a6]at hTd;omega
 have hwr:wrap64 (wt.length:Int)=(wt.length:Int):=by unfold wrap64;omega
 have a2:=h.ow;rw[a6]at a2;obtain⟨gw,cap,rfl,_,hgw⟩:=a2.form (by omega);have cP:=h.lt;have hbs:=h.bs;have hcap:wt.length+1<=cap:=by
  rcases a2.2 with ⟨h2,_⟩ | ⟨g2,cap2,cur,e,_,_,hnc,_⟩
  ·cases h2
  ·injection e with e1 e2 e3;omega
 have hcu:w.cell? ⟨gw,wt.length,none⟩=some (.int .i64 (u:Int)):=by
  rw[a2.cellAt wt.length (by omega),lW,aC8 (by simp)];simp
 have hp:=h.pop;obtain⟨⟨k0,k1,k2,k3⟩,z0,z1,z2,z3⟩:=dO h.rK;obtain⟨w1,c7⟩:∃ w1,w1=w.setCell ⟨K,3,none⟩ (.slice (some ⟨gw,0,none⟩) wt.length cap):=⟨_,rfl⟩;rw[<-c7]at hp;have cW:Below w0.heap.size w w1:=by rw[c7];exact(YQ _ w).setCell (p:=⟨K,3,none⟩) hbs.1 _
 have hz1:w.heap.size<=w1.heap.size:=by rw[c7];simp[World.setCell]
 have hi1:(wt.length:Int)<((wt.length+1:Nat):Int):=by omega
 have hi2:(wt.length:Int)<=(cap:Int):=by omega
 have HH:Hid (_/\_/\_/\_):=⟨hp,cW,hw0.trans cW,hx⟩;have HK:Hid (_/\_/\_):=⟨hk1,hk2,hk3⟩;have HE:Hid (_/\_/\_/\_):=⟨hE,hT,HOut,hok⟩;clear h hp hk hx cW hk1 hk2 hk3 hE hT HOut hok a2;go_enter Tryz.func79,Tryz.ntmps79
 go_upto_region 3 with fail
 rw[<-c7];have HW1:Hid _:=c7;clear c7 k0 k1 k2 k3 z0 z1 z2 z3 hcu;obtain⟨xs,⟨r0,r1,r2,r3⟩,ev,a3⟩:=x;have huI:(u:Int)<(n:Int):=by omega
 obtain⟨_,_,_,_,f4,f5,f6,f7,_⟩:=dV l u _ HH.out.2.2.2;have e4:=(HH.out.1.os.cellAt (u*10+4) (by omega)).trans f4;have e5:=(HH.out.1.os.cellAt (u*10+5) (by omega)).trans f5;have e6:=(HH.out.1.os.cellAt (u*10+6) (by omega)).trans f6;have e7:=(HH.out.1.os.cellAt (u*10+7) (by omega)).trans f7;simp only at e4 e5 e6 e7;obtain⟨⟨_,k1,k2,_⟩,_⟩:=dO HH.out.1.rK;have cT:Hid (∀ W,Below w1.heap.size w1 W->Calls Tryz.prog 138 #[.pointer (some ⟨X,0,none⟩),.agg #[.int .u64 (r0:Int),.int .u64 (r1:Int),.int .u64 (r2:Int),.int .u64 (r3:Int)]] W _):=(fun W hW=>LB X ss HE.out.1.ex.ok1 (r0,r1,r2,r3) d9.2 W ((HE.out.1.bh.below (HH.out.2.2.1.trans (hW.mono (by have:=HH.out.2.2.1.size;omega)))).beh) (fun p hp=>(HK.out.2.2 p (jH.1 hp)).2) (oL.below (w:=w0) HE.out.2.1 (HH.out.2.2.1.trans (hW.mono (by have:=HH.out.2.2.1.size;omega)))) (by have:=hW.size;omega):∀ W,_);obtain⟨cB,b7⟩:∃ cB,nV ss (jE r0 r1 r2 r3 4)=cB:=⟨_,rfl⟩;have a5:ok4 cB:=by rw[<-b7];exact RP HE.out.1.ex.ok1 _
 have hbd:∀ q,dP cB q=true↔∃ p,dP (r0,r1,r2,r3) p=true/\bh0 t p q=true:=fun q=>by
  rw[<-b7,J8];constructor
  ·rintro⟨p,hp,hq⟩;have hp2:=jH (s:=(r0,r1,r2,r3)).1 hp;exact⟨p,hp2,by rw[<-HE.out.1.ex.bh p q (HK.out.2.2 p hp2).2];exact hq⟩
  ·rintro⟨p,hp,hq⟩;exact⟨p,jH.2 hp,by rw[HE.out.1.ex.bh p q (HK.out.2.2 p hp).2];exact hq⟩
 have cI:Hid (_/\_):=⟨a5,hbd⟩;simp only[b7]at cT;clear b7 a5 hbd f4 f5 f6 f7;obtain⟨b0,b1,b2,b3⟩:=cB;simp only[v4]at cT;go_cut [4] (fun s4 wx=>∃ b4,s4 = .pointer (some ⟨b4,0,none⟩)/\Hid (w1.heap.size<=b4/\wx.heap[b4]?=some (.cells #[.int .u64 (b0:Int),.int .u64 (b1:Int),.int .u64 (b2:Int),.int .u64 (b3:Int)] 135 (0,0))/\Below w1.heap.size w1 wx))
 case first =>
  have y0:=fun o=>cell_kept (aA w1 o) _ _ e4;have y1:=fun o=>cell_kept (aA w1 o) _ _ e5;have y2:=fun o=>cell_kept (aA w1 o) _ _ e6;have y3:=fun o=>cell_kept (aA w1 o) _ _ e7;have x1:=fun o=>cell_kept (aA w1 o) _ _ k1;have x2:=fun o=>cell_kept (aA w1 o) _ _ k2;go_region_with (refine(cT.out _ (by first | exact(YQ _ _).drew | exact(aA w1 _).drew)).mono ?_;rintro r w3 ⟨rfl,hB1⟩;try obtain⟨⟨p0,p1,p2,p3⟩,p4,p5,p6,p7⟩:=dO (aB hB1 (heap_alloc_new w1 (.cells #[.int .u64 0,.int .u64 0,.int .u64 0,.int .u64 0] 135))))
  all_goals
   go_wp2_with fail
   go_meet;case rel =>
    first
     | exact⟨w3.heap.size,rfl,(((YQ w1.heap.size w1).drew).trans hB1).size,heap_alloc_new w3 _,(((YQ w1.heap.size w1).drew).trans hB1).alloc (((YQ w1.heap.size w1).drew).trans hB1).size _⟩
     | exact⟨w1.heap.size,rfl,V7 _,aAH (aB hB1 (heap_alloc_new w1 (.cells #[.int .u64 0,.int .u64 0,.int .u64 0,.int .u64 0] 135))) _ _ _ _,iO (((aA w1 (.cells #[.int .u64 0,.int .u64 0,.int .u64 0,.int .u64 0] 135)).drew).trans (hB1.mono (by simp))) (V7 _) _ _ _ _⟩
 case rest =>
  obtain⟨b4,rfl,HC⟩:=hcut;have HD:Hid (_/\_/\_):=HC.out;clear HC e4 e5 e6 e7 k1 k2;have hb4:=HD.out.1;have hlt1:=HH.out.1.lt;have hW:=HH.out.1.below HD.out.2.2;have hbz:w0.heap.size<=w1.heap.size:=HH.out.2.2.1.size;obtain⟨_,_,_,_,f4,f5,f6,f7,_⟩:=dV l u _ HH.out.2.2.2;have e4:=(hW.os.cellAt (u*10+4) (by omega)).trans f4;have e5:=(hW.os.cellAt (u*10+5) (by omega)).trans f5;have e6:=(hW.os.cellAt (u*10+6) (by omega)).trans f6;have e7:=(hW.os.cellAt (u*10+7) (by omega)).trans f7;simp only at e4 e5 e6 e7;have z4':=hW.os.frozenAt (u*10+4);have z5:=hW.os.frozenAt (u*10+5);have z6:=hW.os.frozenAt (u*10+6);have z7:=hW.os.frozenAt (u*10+7);obtain⟨⟨_,_,k2,_⟩,_⟩:=dO hW.rK;obtain⟨w2,c8⟩:∃ w2,w2=((((wc.setCell ⟨gs,u*10+4,none⟩ (.int .u64 0)).setCell ⟨gs,u*10+5,none⟩ (.int .u64 0)).setCell ⟨gs,u*10+6,none⟩ (.int .u64 0)).setCell ⟨gs,u*10+7,none⟩ (.int .u64 0)):=⟨_,rfl⟩;have hW2:lL outs w2 w0.heap.size K Gp X n gs (.slice (some ⟨gw,0,none⟩) wt.length cap) (l.set u (xs,z4,ev,a3)) wt:=by rw[c8];exact hW.fresh HH.out.2.2.2 z4 eX
  have d4:Same wc w2 (fun k=>k=gs):=by rw[c8];exact sP _ _ _ _ _ _ _ _ _ _
  have hb2:Below w0.heap.size wc w2:=by rw[c8];exact kC (YQ _ wc) hbs.2 _ _ _ _ _ _ _ _
  have q4:=d4.row HD.out.2.1 (by omega);have cD:Below w0.heap.size w w2:=(HH.out.2.1.trans (HD.out.2.2.mono hbz)).trans hb2;have hz2:wc.heap.size<=w2.heap.size:=d4.1;have hzc:b4<wc.heap.size:=(aC2.1 HD.out.2.1).1;have HF:Hid (_/\_/\_):=⟨hW2,cD,q4⟩;have HEm:Hid (∀ W,Calls Tryz.prog 137 #[.agg #[.int .u64 (b0:Int),.int .u64 (b1:Int),.int .u64 (b2:Int),.int .u64 (b3:Int)]] W _):=fun W=>oD (b0,b1,b2,b3) W;clear hW hW2 d4 hb2 cD f4 f5 f6 f7;go_upto_region 5 with fail
  rw[<-c8];have HW2:Hid _:=c8;clear c8 e4 e5 e6 e7 z4' z5 z6 z7 k2;obtain⟨⟨t0,t1,t2,t3⟩,_⟩:=dO q4;clear q4;go_wp2_with fail
  refine(HEm.out w2).mono ?_;rintro e w3 ⟨rfl,hB3⟩;have HG:Hid (_/\_/\_/\_):=⟨HF.out.1.below hB3,HF.out.2.1.trans (hB3.mono (by omega)),aB hB3 HF.out.2.2,hB3.size⟩;clear hB3 t0 t1 t2 t3;by_cases hzz:(b0,b1,b2,b3)=z4
  ·rw[decide_eq_true hzz];have HQ:Hid _:=hzz;clear hzz;go_wp2;refine bodyPost_ret (results_none rfl _ _ _) rfl ⟨rfl,HG.out.2.1,_,_,wt,HG.out.1,XP HK.out.1 (fun p q hp => ?_),HK.out.2.1⟩;cases hq:bh0 t p q with
   | false=>rfl
   | true =>
    have:=(cI.out.2 q).2 ⟨p,hp,hq⟩;rw[HQ.out,dQ]at this;cases this
  ·rw[decide_eq_false hzz];clear hzz;have hxu:(l.set u (xs,z4,ev,a3))[u]?=some (xs,z4,ev,a3):=aE5 (aC4.1 HH.out.2.2.2).1;have d6:Below w0.heap.size w0 w3:=hw0.trans HG.out.2.1;go_wp2_with fail
   refine(QS w0 w0.heap.size K Gp X n gs (.slice (some ⟨gw,0,none⟩) wt.length cap) (l.set u (xs,z4,ev,a3)) wt u _ hxu w3 HG.out.1 HE.out.2.2.1 d6).mono ?_;rintro e w5 ⟨v,l5,rfl,hW5,hl5,hS5,hB5,hO5,hn5⟩;have q5:=hS5.row HG.out.2.2.1 (by omega);have hk5:Wk (bh0 t) (tk0 t) (Eof outs) u0 n ss.length (sa l5) (sb l5) wt (Lft outs u (r0,r1,r2,r3) 0)/\todo (sa l5) wt n ss.length<todo (sa l) (wt++[u]) n ss.length:=by
    rcases hl5 with rfl | rfl
    ·exact⟨HK.out.1,HK.out.2.1⟩
    ·have e1:sa ((l.set u (xs,z4,ev,a3)).set u (xs,z4,v,true))=sa (l.set u (xs,z4,ev,a3)):=by rw[List.set_set,BQ,BQ]
     have e2:sb ((l.set u (xs,z4,ev,a3)).set u (xs,z4,v,true))=sb (l.set u (xs,z4,ev,a3)):=by rw[List.set_set,BL,BL]
     show Wk _ _ _ _ _ _ (sa ((l.set u (xs,z4,ev,a3)).set u (xs,z4,v,true))) (sb ((l.set u (xs,z4,ev,a3)).set u (xs,z4,v,true))) _ _/\todo (sa ((l.set u (xs,z4,ev,a3)).set u (xs,z4,v,true))) wt n ss.length<_;rw[e1,e2];exact⟨HK.out.1,HK.out.2.1⟩
   obtain⟨a0,lv,cv,hv,hlv⟩:∃ a0 lv cv,v = .slice a0 lv cv/\lv=(outs u).length:=by
    rcases hO5.2 with ⟨h0,h1⟩ | ⟨g,cap,cur,h1,_⟩
    ·exact⟨_,_,_,h0,h1.symm⟩
    ·exact⟨_,_,_,h1,rfl⟩
   have hzw5:w3.heap.size<=w5.heap.size:=hS5.1;have hz23:w2.heap.size<=w3.heap.size:=HG.out.2.2.2;have HJ:Hid (_/\_/\_/\_/\_/\_):=⟨hW5,hk5,HG.out.2.1.trans hB5,q5,hO5,hn5⟩;have hol:=(HE.out.2.2.2 u hu).1;subst hv;subst hlv;clear hW5 hl5 hS5 hB5 hO5 hn5 q5 hk5 hxu;go_wp2;go_loopw [56] (fun si wr=>∃(j:Nat) (a4:Value) (l':List Wst) (a1:List Nat),j<=(outs u).length/\si = .int .i64 (j:Int)/\Hid (lL outs wr w0.heap.size K Gp X n gs a4 l' a1/\Wk (bh0 t) (tk0 t) (Eof outs) u0 n ss.length (sa l') (sb l') a1 (Lft outs u (r0,r1,r2,r3) j)/\todo (sa l') a1 n ss.length<todo (sa l) (wt++[u]) n ss.length/\Below w0.heap.size w wr/\wr.heap[b4]?=some (.cells #[.int .u64 (b0:Int),.int .u64 (b1:Int),.int .u64 (b2:Int),.int .u64 (b3:Int)] 135 (0,0))/\wr.ownsRow w0.heap.size 38 3 (.slice a0 (outs u).length cv) (outs u).length (flat (outs u))/\(∀ g,(Value.slice a0 (outs u).length cv).ownBlock=some g->g≠K/\g≠gs/\a4.ownBlock≠some g)/\(∀ g,a4.ownBlock=some g->g≠b4))) (fun si _=>(outs u).length-(intOf si).toNat)
   case atStart=>exact⟨0,_,l5,wt,by omega,rfl,HJ.out.1,HJ.out.2.1.1,HJ.out.2.1.2,HJ.out.2.2.1,HJ.out.2.2.2.1,HJ.out.2.2.2.2.1,HJ.out.2.2.2.2.2,fun g e=>by simp only[Value.ownBlock,aC5]at e;omega⟩
   case round =>
    obtain⟨j,a4,l',a1,hj,rfl,HR⟩:=hrel;have HS:Hid (_/\_/\_/\_/\_/\_/\_/\_):=HR.out;clear HR;by_cases hjl:j<(outs u).length
    ·obtain⟨e,he⟩:∃ e,(outs u)[j]?=some e:=⟨_,A7 hjl⟩;obtain⟨c,v1,rfl,hc,hv1⟩:=(HE.out.2.2.2 u hu).2 e (aC3 he);obtain⟨gv,cv2,hfv,hgv0,hgv1⟩:=HS.out.2.2.2.2.2.1.form (by omega);injection hfv with hfa _ hfc;subst hfa;subst hfc;obtain⟨g0,g1,g2⟩:=IL _ j _ he;have hj3:j*3+2<(outs u).length*3:=by omega
     have e0:=(HS.out.2.2.2.2.2.1.cellAt (j*3) (by omega)).trans g0;have e1:=(HS.out.2.2.2.2.2.1.cellAt (j*3+1) (by omega)).trans g1;have e2:=(HS.out.2.2.2.2.2.1.cellAt (j*3+2) (by omega)).trans g2;simp only at e0 e1 e2;have hjI:(j:Int)<((outs u).length:Int):=by omega
     obtain⟨y,hy⟩:∃ y,l'[v1]?=some y:=⟨_,A7 (by rw[HS.out.1.len];exact hv1)⟩;obtain⟨W6,cM⟩:∃ W6,W6=wr.alloc (.cells #[.int .i64 (u:Int),.int .i64 (c:Int),.int .i64 (v1:Int)] 38):=⟨_,rfl⟩;have bS:Below wr.heap.size wr W6:=by rw[cM];exact aA _ _
     have q6:W6.heap[wr.heap.size]?=some (.cells #[.int .i64 (u:Int),.int .i64 (c:Int),.int .i64 (v1:Int)] 38 (0,0)):=by rw[cM];exact heap_alloc_new wr _
     have hwW:w.heap.size<=wr.heap.size:=HS.out.2.2.2.1.size;have h0r:w0.heap.size<=wr.heap.size:=aD9 hw0.size hwW;have aG:Below w0.heap.size w0 W6:=(hw0.trans HS.out.2.2.2.1).trans (bS.mono h0r);have aL:=HS.out.1.below bS;have cX:=aB bS HS.out.2.2.2.2.1;have hz6:wr.heap.size<=W6.heap.size:=bS.size;obtain⟨tt,cQ⟩:∃ tt,ts[c]?=some tt:=⟨_,A7 (by rw[HE.out.1.ex.tlen];exact hc)⟩;have b8:ts.getD c z4=tt:=by rw[aC1,cQ];rfl
     have cH:=HE.out.1.ex.ok2 tt (aC3 cQ);obtain⟨q0,q1,q2,q3⟩:=tt;have cV:Hid (∀ U,Calls Tryz.prog 141 #[.pointer (some ⟨X,0,none⟩),.int .i64 (c:Int)] (ext W6 U) _):=(fun U=>MR X ts c (q0,q1,q2,q3) (ext W6 U) (HE.out.1.tk.below (aG.trans ((aD W6 U).mono (by omega)))) cQ:∀ U,_);have a5:=cI.out.1;have cR:Hid (∀ W,Calls Tryz.prog 140 _ W _):=fun W=>wO b0 b1 b2 b3 q0 q1 q2 q3 a5.1 a5.2.1 a5.2.2.1 a5.2.2.2 cH.1 cH.2.1 cH.2.2.1 cH.2.2.2 W;have d7:a1.length<=10000000:=by have:=HS.out.2.2.1;unfold todo at this hTd;omega
     have cU:Hid (∀ U,Calls Tryz.prog 77 #[.pointer (some ⟨K,0,none⟩),.int .i64 (v1:Int),.agg #[.int .u64 ((b0 &&& q0:Nat):Int),.int .u64 ((b1 &&& q1:Nat):Int),.int .u64 ((b2 &&& q2:Nat):Int),.int .u64 ((b3 &&& q3:Nat):Int)]] (ext W6 U) _):=(fun U=>IY w0.heap.size K Gp X n gs a4 l' a1 v1 y hy (qQ (b0,b1,b2,b3) (q0,q1,q2,q3)) (E8 a5) (ext W6 U) (aL.below (aD W6 U)) d7:∀ U,_);obtain⟨⟨_,k1,_,_⟩,_⟩:=dO aL.rK;obtain⟨⟨t0,t1,t2,t3⟩,_⟩:=dO cX;have d1:W6.cell? ⟨wr.heap.size,1,none⟩=some (.int .i64 (c:Int)):=by rw[cell_of_row _ _ 1 _ _ _ q6];rfl
     have d2:W6.cell? ⟨wr.heap.size,2,none⟩=some (.int .i64 (v1:Int)):=by rw[cell_of_row _ _ 2 _ _ _ q6];rfl
     have x1:=fun U=>aC k1 U;have y0:=fun U=>aC t0 U;have y1:=fun U=>aC t1 U;have y2:=fun U=>aC t2 U;have y3:=fun U=>aC t3 U;have m1:=fun U=>aC d1 U;have m2:=fun U=>aC d2 U;have HY:Hid (_/\_/\_):=⟨hy,he,b8⟩;have cS:Hid (_/\_/\_):=⟨aG,bS,cX⟩;clear k1 t0 t1 t2 t3 d1 d2 aL cX q6 g0 g1 g2 hy he b8 cH cQ a5 aG bS;go_upto_region 9 with fail
     rw[<-cM];clear cM e0 e1 e2;refine bC (n:=9) rfl (by kernel_rfl) (by kernel_rfl) (by kernel_rfl) ?_;simp only[List.dropLast];repeat (gi_big_quiet_step (fail))
     refine wpQuietIn_step (by intros;intro;intros;trivial) (fun K hK => ?_);rw[if_pos (show Region.wanted _ _=true from rfl)];gi_big_quiet_op;apply Exists.intro;refine⟨fun u => ?_,?_⟩
     ·first
       | (refine⟨fun h=>by cases h,(callsIn_wide.2 (cV.out _)).mono ?_⟩;rintro r w1 ⟨rfl,hB⟩;exact⟨rfl,w1,aN (chain (aD _ _) hB)⟩)
       | (refine⟨trivial,(callsIn_wide.2 (cV.out _)).mono ?_⟩;rintro r w1 ⟨rfl,hB⟩;exact⟨rfl,w1,aN (chain (aD _ _) hB)⟩)
       | (refine(callsIn_wide.2 (cV.out _)).mono ?_;rintro r w1 ⟨rfl,hB⟩;exact⟨rfl,w1,aN (chain (aD _ _) hB)⟩)
     refine hK _ ?_;clear hK K;repeat (gi_big_quiet_step (fail))
     refine wpQuietIn_step (by intros;intro;intros;trivial) (fun K hK => ?_);rw[if_pos (show Region.wanted _ _=true from rfl)];gi_big_quiet_op;apply Exists.intro;refine⟨fun u => ?_,?_⟩
     ·first
       | (refine⟨fun h=>by cases h,(callsIn_wide.2 (cR.out _)).mono ?_⟩;rintro r w1 ⟨rfl,hB⟩;exact⟨rfl,w1,aN (chain (aD _ _) hB)⟩)
       | (refine⟨trivial,(callsIn_wide.2 (cR.out _)).mono ?_⟩;rintro r w1 ⟨rfl,hB⟩;exact⟨rfl,w1,aN (chain (aD _ _) hB)⟩)
       | (refine(callsIn_wide.2 (cR.out _)).mono ?_;rintro r w1 ⟨rfl,hB⟩;exact⟨rfl,w1,aN (chain (aD _ _) hB)⟩)
     refine hK _ ?_;clear hK K;repeat (gi_big_quiet_step (fail))
     refine wpQuietIn_nil ?_;rintro wx ⟨U,rfl⟩;simp only[List.getLast];refine⟨by intros;trivial,?_⟩;go_simp;refine(callsIn_wide.2 (cU.out U)).mono ?_;rintro e w7 ⟨rfl,hSm,hBm,wv7,hwv7,hW7⟩;have a7:=ZF (outs:=outs) HE.out.1.ex HY.out.2.1 hv1 hc HK.out.2.2 HY.out.1 HS.out.1.ok HS.out.2.1 (b0,b1,b2,b3) cI.out.1 cI.out.2;rw[HY.out.2.2]at a7;have cF:=aD W6 U;have hzx:W6.heap.size<=(ext W6 U).heap.size:=cF.size;have hgr:b4<wr.heap.size:=(aC2.1 HS.out.2.2.2.2.1).1;have bX:=HS.out.2.2.2.2.2.2.1 gv rfl;have hvr:=aF (aF HS.out.2.2.2.2.2.1 (Same.below cS.out.2.1) (fun _ _=>id)) (Same.below cF) (fun _ _=>id);have HN:Hid (_/\_/\_/\_/\_/\_/\_/\_):=⟨hW7,a7.1,aK8 a7.2 HS.out.2.2.1,((HS.out.2.2.2.1.trans (cS.out.2.1.mono h0r)).trans (cF.mono (by omega))).trans hBm,hSm.row (aB cF cS.out.2.2) (fun e=>by rcases e with e | e | e;omega;omega;exact HS.out.2.2.2.2.2.2.2 b4 e rfl),aF hvr hSm (fun g e=>by
      simp only[Value.ownBlock,aC5]at e;subst e;rintro(e | e | e)
      ·exact bX.1 e
      ·exact bX.2.1 e
      ·exact bX.2.2 e),(fun g e=>by
      simp only[Value.ownBlock,aC5]at e;subst e;refine⟨bX.1,bX.2.1,fun e2 => ?_⟩;rcases hwv7 _ e2 with e3 | e3
      ·exact bX.2.2 e3
      ·omega:∀ g,(Value.slice (some ⟨gv,0,none⟩) (outs u).length cv).ownBlock=some g->g≠K/\g≠gs/\wv7.ownBlock≠some g),(fun g e=>by
      rcases hwv7 g e with e3 | e3
      ·exact HS.out.2.2.2.2.2.2.2 g e3
      ·omega:∀ g,wv7.ownBlock=some g->g≠b4)⟩
     clear hSm hBm hwv7 hW7 a7 cF hvr x1 y0 y1 y2 y3 m1 m2;go_wp2;go_roundw;case rel=>exact⟨j+1,_,_,_,by omega,by go_num,HN.out⟩
     case measure=>simp[intOf];omega
    ·obtain rfl:j=(outs u).length:=by omega
     go_wp2;exact bodyPost_end (results_none rfl _ _ _) rfl ⟨rfl,HS.out.2.2.2.1,a4,l',a1,HS.out.1,X3 HS.out.2.1,HS.out.2.2.1⟩
end Go.Proofs.YtphjbbbnbmafnaaGreatDoor.G
namespace Go.Proofs.YtphjbbbnbmafnaaGreatDoor.G
open Go.RowKit Go.Shelf RxM
variable {R:World->Nat->Prop} {w:World} {j k:Nat} {l:List Wst} {en:S4}
attribute [local go_sem] Oper.semAt_some
variable {outs:Nat->List E3}
theorem JG{R:Nat->Prop}(h:∃ k,R k):∃ k,R k/\∀ j,R j->k<=j:=by
 obtain⟨k,hk⟩:=h
 induction k using Nat.strongRecOn with
 | _ k ih =>
  by_cases hl:∃ j,j<k/\R j
  ·obtain⟨j,hj,hr⟩:=hl;exact ih j hj hr
  ·exact⟨k,hk,fun j hj=>by
    rcases aG5 j k with e | e
    ·exact absurd ⟨j,e,hj⟩ hl
    ·exact e⟩
noncomputable def msr (R:World->Nat->Prop) (w:World):Nat:=by
 classical
 exact if h:∃ k,R w k/\∀ j,R w j->k<=j then Classical.choose h else 0
theorem XD(h:R w k)(hl:∀ j,R w j->k<=j):msr R w=k:=by
 have hx:∃ k,R w k/\∀ j,R w j->k<=j:=⟨k,h,hl⟩;unfold msr;rw[dif_pos hx];have h1:=Classical.choose_spec hx;have:=h1.2 k h;have:=hl _ h1.1;omega
theorem aBa(h:R w k):msr R w<=k:=by
 obtain⟨m,hm,hl⟩:=JG ⟨k,h⟩;rw[XD hm hl];exact hl k h
theorem FQ(n:Nat):eU (List.replicate n (z4,z4,.slice none 0 0,false))=(madeCells #[.int .u64 0,.int .u64 0,.int .u64 0,.int .u64 0,.int .u64 0,.int .u64 0,.int .u64 0,.int .u64 0,.slice none 0 0,.bool false] (n*10)).toList:=by
 apply aG6;intro k;by_cases h:k<n*10
 ·obtain⟨e0,e1,e2,e3,e4,e5,e6,e7,e8,e9⟩:=dV (List.replicate n (z4,z4,.slice none 0 0,false)) (k / 10) (z4,z4,.slice none 0 0,false) (by rw[aE9,if_pos (by omega)]);have hk:k=k / 10*10+k % 10:=by omega
  rcases(show k % 10=0\/k % 10=1\/k % 10=2\/k % 10=3\/k % 10=4\/k % 10=5\/k % 10=6\/k % 10=7\/k % 10=8\/k % 10=9 by omega)with e | e | e | e | e | e | e | e | e | e
  ·rw[show k=k / 10*10 by omega,e0,<-show k=k / 10*10 by omega];simp[madeCells,h,e]
  ·rw[show k=k / 10*10+1 by omega,e1,<-show k=k / 10*10+1 by omega];simp[madeCells,h,e]
  ·rw[show k=k / 10*10+2 by omega,e2,<-show k=k / 10*10+2 by omega];simp[madeCells,h,e]
  ·rw[show k=k / 10*10+3 by omega,e3,<-show k=k / 10*10+3 by omega];simp[madeCells,h,e]
  ·rw[show k=k / 10*10+4 by omega,e4,<-show k=k / 10*10+4 by omega];simp[madeCells,h,e]
  ·rw[show k=k / 10*10+5 by omega,e5,<-show k=k / 10*10+5 by omega];simp[madeCells,h,e]
  ·rw[show k=k / 10*10+6 by omega,e6,<-show k=k / 10*10+6 by omega];simp[madeCells,h,e]
  ·rw[show k=k / 10*10+7 by omega,e7,<-show k=k / 10*10+7 by omega];simp[madeCells,h,e]
  ·rw[show k=k / 10*10+8 by omega,e8,<-show k=k / 10*10+8 by omega];simp[madeCells,h,e]
  ·rw[show k=k / 10*10+9 by omega,e9,<-show k=k / 10*10+9 by omega];simp[madeCells,h,e]
 ·rw[aC7 (by rw[xO,aH3];omega),aC7 (by simp[size_madeCells];omega)]
theorem Tryz.infoSp:(Tryz.prog.info? 151).map (fun i=>(i.zero,i.size,i.bytes))=some (some (.agg #[.int .u64 0,.int .u64 0,.int .u64 0,.int .u64 0,.int .u64 0,.int .u64 0,.int .u64 0,.int .u64 0,.slice none 0 0,.bool false]),10,96):=by kernel_rfl
theorem ND(X:Nat)(w:World):Calls Tryz.prog 78 #[.pointer (some ⟨X,0,none⟩)] w fun e w'=>e = .returned (.agg #[.int .u64 1,.int .u64 0,.int .u64 0,.int .u64 0])/\Below w.heap.size w w':=by
 have HOn:Hid (∀ W,Calls Tryz.prog 75 #[.int .i64 0] W fun e w'=>e = .returned (.agg #[.int .u64 1,.int .u64 0,.int .u64 0,.int .u64 0])/\Below W.heap.size W w'):=(fun W=>(oC 0 (by decide) W):∀ W,_);obtain⟨W0,cL⟩:∃ W0,W0=w.alloc (.cells #[.int .u64 0,.int .u64 0,.int .u64 0,.int .u64 0] 135):=⟨_,rfl⟩;have hJ:Below w.heap.size w W0:=by rw[cL];exact aA _ _
 have r0:W0.heap[w.heap.size]?=some (.cells #[.int .u64 0,.int .u64 0,.int .u64 0,.int .u64 0] 135 (0,0)):=by rw[cL];exact heap_alloc_new w _
 go_enter Tryz.func78,Tryz.ntmps78
 go_wp2_with fail
 rw[<-cL];clear cL;refine(HOn.out W0).mono ?_;rintro e w1 ⟨rfl,hB⟩;have k0:=aB hB r0;obtain⟨⟨c0,c1,c2,c3⟩,z0,z1,z2,z3⟩:=dO k0;have HB:Hid (_/\_):=⟨chain hJ hB,k0⟩;clear hB hJ r0 k0;go_wp2;exact bodyPost_ret (results_cell_row rfl _ _ w.heap.size _ _ (0,0) _ rfl (aAH HB.out.2 _ _ _ _) rfl rfl rfl) rfl ⟨rfl,iO HB.out.1 (V7 _) _ _ _ _⟩
def OV(outs:Nat->List E3)(t:Rx)(u n:Nat)(w:World)(e:Ending)(w':World):Prop :=
 ∃ rv res,e = .returned rv/\Below w.heap.size w w'/\w'.ownsRow w.heap.size 3 1 rv res.length (ints res)/\res.Pairwise (· < ·)/\∀ v,v∈res↔v<n/\rel (Eof outs) t u v
def aAS(outs:Nat->List E3)(t:Rx)(ss:List S4)(u n:Nat)(w0:World)(K Gp X gs:Nat)(w:World)(k:Nat):Prop :=
 ∃ wv l wt,lL outs w w0.heap.size K Gp X n gs wv l wt/\Wk (bh0 t) (tk0 t) (Eof outs) u n ss.length (sa l) (sb l) wt (fun _ _ _ _=>False)/\todo (sa l) wt n ss.length<=5000000/\Below w0.heap.size w0 w/\k=todo (sa l) wt n ss.length
def nI(l:List Wst)(en:S4)(j:Nat):List Nat:=(List.range j).filter fun v=>decide (qQ ((sa l).getD v z4) en≠z4)
theorem UE(h:qQ ((sa l).getD j z4) en≠z4):nI l en (j+1)=nI l en j++[j]:=by
 unfold nI;rw[List.range_succ,aF7,aG8,if_pos (by rw[decide_eq_true_eq];exact h)];rfl
theorem ZX(h:¬ qQ ((sa l).getD j z4) en≠z4):nI l en (j+1)=nI l en j:=by
 unfold nI;rw[List.range_succ,aF7,aG8,if_neg (by rw[decide_eq_true_eq];exact h)];simp
theorem NT(l:List Wst)(en:S4)(j:Nat):(nI l en j).length<=j:=by
 have:=aE8 (fun v=>decide (qQ ((sa l).getD v z4) en≠z4)) (List.range j);rwa [List.length_range]at this
theorem l8{b b2:Nat}{e:TypeId}{v:Value}{n:Nat}{xs:List Value}(h:w.ownsRow b e k v n xs)(hb:b2<=b):w.ownsRow b2 e k v n xs:=by
 refine⟨h.1,?_⟩;rcases h.2 with h0 | ⟨g,cap,cur,h1,h2,h3⟩
 ·exact .inl h0
 ·exact .inr ⟨g,cap,cur,h1,aD9 hb h2,h3⟩
theorem H9:gY 0=(1,0,0,0):=by simp[gY]
theorem PX(t:Rx)(ss ts:List S4)(en:S4)(s u n Gp X:Nat)(w:World)(hE:aBe w X s t ss ts en)(hT:oL w)(HOut:aBf outs w Gp n)(hok:GX outs n s)(hn:n<=10000)(hu:u<n)(hsz:size t<=200)(hG:w.cell? ⟨Gp,0,none⟩=some (.int .i64 (n:Int))):
 Calls Tryz.prog 45 #[.pointer (some ⟨Gp,0,none⟩),.int .i64 (u:Int),.pointer (some ⟨X,0,none⟩)] w (OV outs t u n w):=by
 obtain⟨i1,hi1,hz0,hz1,hz2⟩:=info_parts Tryz.infoSp;obtain⟨cn,cN⟩:∃ cn,cn=madeCells #[.int .u64 0,.int .u64 0,.int .u64 0,.int .u64 0,.int .u64 0,.int .u64 0,.int .u64 0,.int .u64 0,.slice none 0 0,.bool false] (n*10):=⟨_,rfl⟩;have mkn:∀ W,(Instr.makeSlice 144 (.int .i64 (n:Int)) (.int .i64 (n:Int))).run Tryz.prog W = .ok (.slice (some ⟨W.heap.size,0,none⟩) n n) (W.alloc (.cells cn 151)):=fun W=>by
  have:=run_make (P:=Tryz.prog) W 144 151 i1 _ Tryz.underlying144 hi1 hz0 .i64 .i64 (n:Int) (n:Int) (by omega) (by omega) (by rw[hz2];omega) (by omega);rw[hz1,aG3]at this;rw[cN];exact this
 obtain⟨W1,bW⟩:∃ W1,W1=(w.alloc (.cells cn 151)).alloc (.cells #[.pointer (some ⟨Gp,0,none⟩),.pointer (some ⟨X,0,none⟩),.slice (some ⟨w.heap.size,0,none⟩) n n,.slice none 0 0] 146):=⟨_,rfl⟩;have hJ:Below w.heap.size w W1:=by rw[bW];exact xal (aA _ _)
 have r0:W1.heap[w.heap.size]?=some (.cells cn 151 (0,0)):=by rw[bW];exact aB (aA _ _) (heap_alloc_new w _)
 have r1:W1.heap[w.heap.size+1]?=some (.cells #[.pointer (some ⟨Gp,0,none⟩),.pointer (some ⟨X,0,none⟩),.slice (some ⟨w.heap.size,0,none⟩) n n,.slice none 0 0] 146 (0,0)):=by
  rw[bW];have:=heap_alloc_new (w.alloc (.cells cn 151)) (.cells #[.pointer (some ⟨Gp,0,none⟩),.pointer (some ⟨X,0,none⟩),.slice (some ⟨w.heap.size,0,none⟩) n n,.slice none 0 0] 146);rwa [aD1]at this
 have hk0:lL outs W1 w.heap.size (w.heap.size+1) Gp X n w.heap.size (.slice none 0 0) (List.replicate n (z4,z4,.slice none 0 0,false)) []:=by
  refine⟨r1,?_,⟨rfl,.inl ⟨rfl,rfl⟩⟩,by simp,fun x hx => ?_,⟨by omega,fun g e=>by cases e⟩,⟨by omega,by omega⟩,fun u x hx ha => ?_⟩
  ·refine⟨by rw[xO,aH3],.inr ⟨w.heap.size,n,cn,rfl,V7 _,r0,V7 _,by unfold maxLen;omega,by rw[cN,size_madeCells],?_⟩⟩;rw[FQ,cN,aD2 (by simp[size_madeCells])]
  ·rw[aK3 hx];exact⟨eX,eX⟩
  ·have hm:=aC3 hx;rw[aK3 hm]at ha;cases ha
 have hPl:ss.length<=201:=by rw[hE.ex.len];omega
 have h0u:(List.replicate n ((z4,z4,.slice none 0 0,false):Wst))[u]?=some (z4,z4,.slice none 0 0,false):=by rw[aE9,if_pos hu]
 have cU:Hid (∀ W,Below W1.heap.size W1 W->Calls Tryz.prog 77 #[.pointer (some ⟨w.heap.size+1,0,none⟩),.int .i64 (u:Int),.agg #[.int .u64 1,.int .u64 0,.int .u64 0,.int .u64 0]] W fun e w'=>e = .returned (.tuple #[])/\∃ k,aAS outs t ss u n w (w.heap.size+1) Gp X w.heap.size w' k):=(fun W hW=>by
  have:=IY (outs:=outs) w.heap.size (w.heap.size+1) Gp X n w.heap.size (.slice none 0 0) (List.replicate n (z4,z4,.slice none 0 0,false)) [] u _ h0u (1,0,0,0) (by rw[<-H9];exact oI 0) W (hk0.below hW) (by simp);refine aC0 this ?_;rintro e w' ⟨rfl,hS,hB,a4,hwv,hW'⟩;have e1:wo4 (1,0,0,0) z4=(1,0,0,0):=by decide
  have e2:((1,0,0,0):S4)≠z4:=by decide
  have e3:or4 z4 (1,0,0,0)=gY 0:=by rw[H9];decide
  simp only[e1,e2,if_false,e3,if_true]at hW';have hsa:sa ((List.replicate n ((z4,z4,.slice none 0 0,false):Wst)).set u (gY 0,gY 0,.slice none 0 0,false))=(List.replicate n z4).set u (gY 0):=by rw[BQ];congr 1;simp[sa]
  have hsb:sb ((List.replicate n ((z4,z4,.slice none 0 0,false):Wst)).set u (gY 0,gY 0,.slice none 0 0,false))=(List.replicate n z4).set u (gY 0):=by rw[BL];congr 1;simp[sb]
  refine⟨rfl,_,a4,_,[u],hW',by rw[hsa,hsb];exact TV hu (by rw[hE.ex.len];omega),?_,(hJ.trans (hW.mono hJ.size)).trans hB,rfl⟩;have hh:=xJ (fn (sa ((List.replicate n ((z4,z4,.slice none 0 0,false):Wst)).set u (gY 0,gY 0,.slice none 0 0,false)))) n ss.length;have:n*ss.length<=10000*201:=aJ9 hn hPl;unfold todo;simp only[aF6];omega:∀ W,Below W1.heap.size W1 W->_)
 have HSt:Hid (∀ W,Calls Tryz.prog 78 #[.pointer (some ⟨X,0,none⟩)] W _):=(fun W=>ND X W:∀ W,_);have HE:Hid (_/\_/\_/\_):=⟨hE,hT,HOut,hok⟩;have HJ:Hid _:=hJ;clear hE hT HOut hok hk0 r0 r1 hJ h0u cN;go_enter Tryz.func45,Tryz.ntmps45
 go_wp2_with fail
 rw[<-bW];have HW1:Hid _:=bW;clear bW mkn;refine(HSt.out W1).mono ?_;rintro e w2 ⟨rfl,cD⟩;have HB2:Hid _:=cD;clear cD;go_wp2_with fail
 refine(cU.out w2 HB2.out).mono ?_;rintro e w3 ⟨rfl,hst⟩;have HS3:Hid _:=hst;clear hst;go_wp2;go_loopw [32] (fun _ wr=>Hid (∃ k,aAS outs t ss u n w (w.heap.size+1) Gp X w.heap.size wr k)) (fun _ wr=>msr (aAS outs t ss u n w (w.heap.size+1) Gp X w.heap.size) wr)
 case atStart=>exact HS3.out
 case round =>
  have HR:Hid (∃ k,aAS outs t ss u n w (w.heap.size+1) Gp X w.heap.size wr k):=hrel.out;clear hrel;obtain⟨k,hk,d0⟩:=JG HR.out;have d3:=XD hk d0;obtain⟨wv,l,wt,hW,a7,b8,hB,cY⟩:=hk;rcases List.eq_nil_or_concat wt with rfl | ⟨a1,x,hwt⟩
  ·obtain⟨a0,cap,hwv⟩:∃ a0 cap,wv = .slice a0 0 cap:=by
    rcases hW.ow.2 with ⟨h0,_⟩ | ⟨g,cap,cur,h1,_⟩
    ·exact⟨_,_,h0⟩
    ·exact⟨_,_,h1⟩
   subst hwv;obtain⟨⟨_,_,k2,k3⟩,_⟩:=dO hW.rK;have HW:Hid (_/\_/\_):=⟨hW,a7,hB⟩;have d8:w.heap.size<=wr.heap.size:=hB.size;obtain⟨i2,hi2,hy0,hy1,hy2⟩:=info_parts Tryz.infoIn;clear hW a7 b8 hB cY d3 d0;rename World=>Wf;go_wp2;go_loopw [38,8,9] (fun si s8 _ w6=>∃ j:Nat,j<=n/\si = .int .i64 (j:Int)/\Hid (w6.ownsRow Wf.heap.size 3 1 s8 (nI l en j).length (ints (nI l en j))/\Below Wf.heap.size Wf w6)) (fun si _ _ _=>n-(intOf si).toNat)
   case atStart=>exact⟨0,by omega,rfl,⟨rfl,.inl ⟨rfl,rfl⟩⟩,YQ _ _⟩
   case round =>
    obtain⟨j,hj,rfl,HL⟩:=hrel;have cA:Hid (_/\_):=HL.out;clear HL;have cE:=cA.out.2;have hzr:Wf.heap.size<=wr.heap.size:=cE.size;have b5:=HW.out.1.below cE;by_cases cP:j<n
    ·have hjI:(j:Int)<(n:Int):=by omega
     obtain⟨x,hx⟩:∃ x,l[j]?=some x:=⟨_,A7 (by rw[HW.out.1.len];exact cP)⟩;obtain⟨f0,f1,f2,f3,_⟩:=dV l j _ hx;have e0:=(b5.os.cellAt (j*10) (by omega)).trans f0;have e1:=(b5.os.cellAt (j*10+1) (by omega)).trans f1;have e2:=(b5.os.cellAt (j*10+2) (by omega)).trans f2;have e3:=(b5.os.cellAt (j*10+3) (by omega)).trans f3;have d9:=HW.out.1.ok x (aC3 hx);have cC:Below w.heap.size w wr:=HW.out.2.2.trans (cE.mono d8);have cJ:=KR X x.1 en d9.1 HE.out.1.ex.ok3 wr (cell_kept cC _ _ HE.out.1.e2) (cell_kept cC _ _ HE.out.1.e3) (cell_kept cC _ _ HE.out.1.e4) (cell_kept cC _ _ HE.out.1.e5);have d5:(sa l).getD j z4=x.1:=XQ hx;obtain⟨⟨s0,s1,s2,s3⟩,xr⟩:=x;simp only[v4]at cJ;simp only at e0 e1 e2 e3 d5;have b7:(!decide (s0 &&& en.1=0/\s1 &&& en.2.1=0/\s2 &&& en.2.2.1=0/\s3 &&& en.2.2.2=0))=decide (qQ (s0,s1,s2,s3) en≠z4):=by
      rw[<-decide_not];refine decide_eq_decide.2 (not_congr ?_);obtain⟨en0,en1,en2,en3⟩:=en;simp[qQ]
     rw[b7]at cJ;have HIs:Hid (Calls Tryz.prog 80 #[.pointer (some ⟨X,0,none⟩),.agg #[.int .u64 (s0:Int),.int .u64 (s1:Int),.int .u64 (s2:Int),.int .u64 (s3:Int)]] wr _):=cJ;obtain⟨⟨_,_,m2,_⟩,_⟩:=dO b5.rK;have HX:Hid _:=d5;clear cJ b7 b5 cE hx f0 f1 f2 f3 cC k2 k3 d5;go_wp2_with fail
     refine HIs.out.mono ?_;rintro e w7 ⟨rfl,hB7⟩;have a2:=aF cA.out.1 (Same.below hB7) (fun _ _=>id);have hB6:Below Wf.heap.size Wf w7:=cA.out.2.trans (hB7.mono hzr);have hz7:wr.heap.size<=w7.heap.size:=hB7.size;have HM:Hid (_/\_):=⟨a2,hB6⟩;have hul:=NT l en j;clear a2 hB6 hB7 e0 e1 e2 e3 m2;by_cases hyes:qQ (s0,s1,s2,s3) en≠z4
     ·rw[decide_eq_true hyes];have aE:=UE (l:=l) (en:=en) (j:=j) (by rw[HX.out];exact hyes);have HU:Hid _:=aE;clear aE hyes;go_wp2_with (at_builtin;refine aO _ rfl _ _ 64 rfl Wf.heap.size 3 i2 (.int .i64 0) 1 8 Tryz.underlying64 hi2 hy0 hy1 hy2 rfl (by decide) _ _ _ rfl (HM.out.1.alloc _) ⟨w7.heap.size,0,none⟩ 1 1 [.int .i64 (j:Int)] rfl rfl (aG4 (cs:=#[.int .i64 (j:Int)]) (t:=3) (fr:=(0,0)) (heap_alloc_new w7 _)) (by simp[Value.oneCell']) (by omega) (by unfold maxLen;omega) (by omega) (by simp;omega) ?_;intro g5 cap5 w8 hown5 hg5)
      have hb8:Below Wf.heap.size Wf w8:=by
       have h1:Below Wf.heap.size Wf (w7.alloc (.cells #[.int .i64 (j:Int)] 3)):=HM.out.2.alloc (by omega) _;rcases hg5 with ⟨h5,h6⟩ | ⟨_,h6⟩
       ·exact h1.grown h6 (by simp;omega) (fun k e=>by injection e with e;subst e;exact(HM.out.1.lt _ h5).1)
       ·exact h1.grown h6 (by simp;omega) (fun k e=>by cases e)
      have HN:Hid (w8.ownsRow Wf.heap.size 3 1 (.slice (some ⟨g5,0,none⟩) ((nI l en j).length+1) cap5) (nI l en (j+1)).length (ints (nI l en (j+1)))/\Below Wf.heap.size Wf w8):=(⟨by rw[HU.out,WT,aF6,lW];exact hown5,hb8⟩:_/\_);clear hown5 hg5 hb8;go_wp2;go_roundw;case rel=>exact⟨j+1,by omega,by go_num,HN.out⟩
      case measure=>simp[intOf];omega
     ·rw[decide_eq_false hyes];have aE:=ZX (l:=l) (en:=en) (j:=j) (by rw[HX.out];exact hyes);have HN:Hid (w7.ownsRow Wf.heap.size 3 1 u8 (nI l en (j+1)).length (ints (nI l en (j+1)))/\Below Wf.heap.size Wf w7):=(by rw[aE];exact HM.out:_/\_);clear aE hyes;go_wp2;go_roundw;case rel=>exact⟨j+1,by omega,by go_num,HN.out⟩
      case measure=>simp[intOf];omega
    ·obtain rfl:j=n:=by omega
     clear cE b5;go_wp2;go_ret;refine⟨_,nI l en j,rfl,HW.out.2.2.trans (cA.out.2.mono d8),l8 cA.out.1 d8,List.Pairwise.sublist List.filter_sublist List.pairwise_lt_range,fun v => ?_⟩;unfold nI;rw[List.mem_filter,List.mem_range,decide_eq_true_eq,aAY HW.out.2.1 HE.out.1.ex.es v]
  ·rw[List.concat_eq_append]at hwt;subst hwt;have a6:(a1++[x]).length=a1.length+1:=by simp
   have a2:=hW.ow;rw[a6]at a2;obtain⟨gw,cap,rfl,_,_⟩:=a2.form (by omega);obtain⟨⟨_,_,_,k3⟩,_⟩:=dO hW.rK;have HGo:Hid (Calls Tryz.prog 79 #[.pointer (some ⟨w.heap.size+1,0,none⟩)] wr _):=VR t ss ts en s u w (w.heap.size+1) Gp X n w.heap.size _ l a1 x wr HE.out.1 HE.out.2.1 HE.out.2.2.1 HE.out.2.2.2 hB hW a7 b8;have HM:Hid (_/\_/\_/\_):=⟨d3,cY,b8,hB⟩;have hpI:(0:Int)<((a1.length+1:Nat):Int):=by omega
   clear d3 cY b8 hB hW a7 a2 d0;go_wp2_with fail
   refine HGo.out.mono ?_;rintro e w5 ⟨rfl,hB5,wv5,l5,wt5,hW5,hwk5,htd5⟩;have cG:aAS outs t ss u n w (w.heap.size+1) Gp X w.heap.size w5 (todo (sa l5) wt5 n ss.length):=⟨wv5,l5,wt5,hW5,hwk5,by have:=HM.out.2.2.1;omega,HM.out.2.2.2.trans hB5,rfl⟩;have HN:Hid (_/\_):=⟨cG,htd5⟩;clear cG hB5 hW5 hwk5 htd5;go_wp2;go_roundw;case rel=>exact⟨_,HN.out.1⟩
   case measure =>
    rw[HM.out.1,HM.out.2.1];exact aK8 (aBa HN.out.1) HN.out.2
end Go.Proofs.YtphjbbbnbmafnaaGreatDoor.G
namespace Go.Proofs.YtphjbbbnbmafnaaGreatDoor.G
open Go.RowKit Go.Shelf RxM
variable {outs:Nat->List E3}
theorem NN(x b:Int)(w:World):
 Calls Tryz.prog 43 #[.int .i64 x,.int .i64 b] w fun e w'=>e = .returned (.bool (decide (0<=x/\x<b)))/\w'=w:=by
 by_cases h1:0<=x
 ·by_cases h2:x<b
  ·have HD:Hid _:=decide_eq_true (show 0<=x/\x<b from⟨h1,h2⟩);rw[HD.out];go_enter Tryz.func43,Tryz.ntmps43
   go_wp2;go_ret;exact⟨rfl,rfl⟩
  ·have HD:Hid _:=decide_eq_false (show ¬(0<=x/\x<b)from fun h=>h2 h.2);rw[HD.out];go_enter Tryz.func43,Tryz.ntmps43
   go_wp2;go_ret;exact⟨rfl,rfl⟩
 ·have HD:Hid _:=decide_eq_false (show ¬(0<=x/\x<b)from fun h=>h1 h.1);rw[HD.out];go_enter Tryz.func43,Tryz.ntmps43
  go_wp2;go_ret;exact⟨rfl,rfl⟩
def yR(outs:Nat->List E3)(u:Int)(q:ByteArray)(n s:Nat)(w:World)(e:Ending)(w':World):Prop :=
 ∃ rv c res,e = .returned (.tuple #[rv,.int .i64 c])/\Below w.heap.size w w'/\w'.ownsRow w.heap.size 3 1 rv res.length (ints res) /\
 ((¬(0<=u/\u<(n:Int))/\c=1/\res=[])\/((0<=u/\u<(n:Int))/\(200<q.size\/RxM.read s (codes q)=none)/\c=6/\res=[]) \/
  ((0<=u/\u<(n:Int))/\q.size<=200/\∃ t,RxM.read s (codes q)=some t/\c=0/\res.Pairwise (· < ·)/\∀ v,v∈res↔v<n/\rel (Eof outs) t u.toNat v))
theorem tL(w:World)(b:Nat)(e:TypeId)(k:Nat):w.ownsRow b e k (.slice none 0 0) 0 []:=⟨by simp,.inl ⟨rfl,rfl⟩⟩
theorem LD(Gp n s:Nat)(u:Int)(q:ByteArray)(w:World)(hT:oL w)(HOut:aBf outs w Gp n)(hok:GX outs n s)(hn:n<=10000)(hs:s<=26)(h0:w.cell? ⟨Gp,0,none⟩=some (.int .i64 (n:Int)))(h1:w.cell? ⟨Gp,1,none⟩=some (.int .i64 (s:Int))):
 Calls Tryz.prog 24 #[.pointer (some ⟨Gp,0,none⟩),.int .i64 u,.string q] w (yR outs u q n s w):=by
 have HIb:Hid (Calls Tryz.prog 43 #[.int .i64 u,.int .i64 (n:Int)] w _):=NN u (n:Int) w;have HRd:Hid (Calls Tryz.prog 44 #[.string q,.int .i64 (s:Int)] w _):=VK q s hs w hT;have HH:Hid (_/\_/\_/\_):=⟨hT,HOut,hok,h0⟩;clear hT HOut hok;by_cases hu:0<=u/\u<(n:Int)
 ·obtain⟨un,aE⟩:∃ un:Nat,u=(un:Int):=⟨u.toNat,by omega⟩;have HU:Hid (_/\_):=⟨hu,aE⟩;clear hu aE;go_enter Tryz.func24,Tryz.ntmps24
  go_wp2_with fail
  refine HIb.out.mono ?_;rintro e w1 ⟨rfl,rfl⟩;rw[decide_eq_true HU.out.1];go_wp2_with fail
  refine HRd.out.mono ?_;rintro e w2 ⟨hB,⟨rfl,hno⟩ | ⟨X,t,ss,ts,en,rfl,hq,hrd,hE⟩⟩
  ·have HB:Hid (_/\_):=⟨hB,hno⟩;clear hB hno h0 h1;go_wp2;go_ret2;exact⟨_,_,[],rfl,HB.out.1,tL _ _ _ _,.inr (.inl ⟨HU.out.1,HB.out.2,rfl,rfl⟩)⟩
  ·have hsz:size t<=200:=aD9 (DX hrd) (by rw[cO];exact hq);have hr:=PX (outs:=outs) t ss ts en s un n Gp X w2 hE (oL.below HH.out.1 hB) (fun W hW=>HH.out.2.1 W (hB.trans (hW.mono hB.size))) HH.out.2.2.1 hn (by have:=HU.out;omega) hsz (cell_kept hB _ _ HH.out.2.2.2);rw[<-HU.out.2]at hr;have HR:Hid (Calls Tryz.prog 45 #[.pointer (some ⟨Gp,0,none⟩),.int .i64 u,.pointer (some ⟨X,0,none⟩)] w2 _):=hr;have HB:Hid (_/\_/\_):=⟨hB,hq,hrd⟩;clear hr hB hq hrd hE h0 h1;go_wp2_with fail
   refine HR.out.mono ?_;rintro e w3 ⟨rv,res,rfl,hB3,ho,hpw,hmem⟩;have HF:Hid (_/\_/\_/\_):=⟨hB3,ho,hpw,hmem⟩;clear hB3 ho hpw hmem;go_wp2;go_ret2;refine⟨rv,_,res,rfl,HB.out.1.trans (HF.out.1.mono HB.out.1.size),l8 HF.out.2.1 HB.out.1.size,.inr (.inr ⟨HU.out.1,HB.out.2.1,t,HB.out.2.2,rfl,HF.out.2.2.1,fun v => ?_⟩)⟩;rw[HF.out.2.2.2 v,HU.out.2,aG3]
 ·have HU:Hid (¬(0<=u/\u<(n:Int))):=hu;clear hu;go_enter Tryz.func24,Tryz.ntmps24
  go_wp2_with fail
  refine HIb.out.mono ?_;rintro e w1 ⟨rfl,rfl⟩;rw[decide_eq_false HU.out];go_wp2;go_ret2;exact⟨_,_,[],rfl,YQ _ _,tL _ _ _ _,.inl ⟨HU.out,rfl,rfl⟩⟩
end Go.Proofs.YtphjbbbnbmafnaaGreatDoor.G
namespace Go.Proofs.YtphjbbbnbmafnaaGreatDoor.G
open Go.RowKit Go.Shelf RxM
variable {s:ByteArray} {j:Nat}
theorem I5(h:j<s.size):(codes s)[j]?=some s[j].toNat:=by
 unfold codes;rw[aD0,aK5,aE2 h];rfl
theorem qJ(h:j<s.size):(codes s).drop j=s[j].toNat::(codes s).drop (j+1):=by
 have hl:j<(codes s).length:=by rw[cO];exact h
 rw[aG0 hl];congr 1;have:=I5 h;rw[A7 hl]at this;injection this
def clI(i:Nat):Option Nat->Int | none => -1 | some k=>((i+1+k:Nat):Int)
theorem EF(s:ByteArray)(i:Nat)(hs:s.size<=200)(hi:i<s.size)(h40:s[i].toNat=40)(w:World):Calls Tryz.prog 81 #[.string s,.int .i64 (i:Int)] w fun e w'=>e = .returned (.int .i64 (clI i (cl ((codes s).drop (i+1)) 1)))/\w'=w:=by
 obtain⟨b9,b6⟩:∃ b9,clI i (cl ((codes s).drop (i+1)) 1)=b9:=⟨_,rfl⟩;rw[b6];have HA:Hid _:=b6;clear b6;go_enter Tryz.func81,Tryz.ntmps81
 go_wp2;go_loopw [6,5] (fun sj sd wr=>∃ j d:Nat,j<=s.size/\d<=j/\sj = .int .i64 (j:Int)/\sd = .int .i64 (d:Int)/\wr=w/\Hid ((j=i/\d=0)\/(i<j/\1<=d/\cl ((codes s).drop (i+1)) 1=(cl ((codes s).drop j) d).map (· + (j-i-1))))) (fun sj _ _=>s.size-(intOf sj).toNat)
 case atStart=>exact⟨i,0,by omega,by omega,rfl,rfl,rfl,.inl ⟨rfl,rfl⟩⟩
 case round =>
  obtain⟨j,d,hj,hd,rfl,rfl,rfl,HI⟩:=hrel;have a8:Hid ((j=i/\d=0)\/(i<j/\1<=d/\cl ((codes s).drop (i+1)) 1=(cl ((codes s).drop j) d).map (· + (j-i-1)))):=HI.out;clear HI;by_cases cP:j<s.size
  ·have hjI:(j:Int)<(s.size:Int):=by omega
   have a9:=qJ cP;by_cases c0:s[j].toNat=40
   ·have b0:((s[j].toNat:Int) == 40)=true:=by rw[c0];rfl
    have b1:((s[j].toNat:Int) == 41)=false:=by rw[c0];rfl
    have HN:Hid (i<j+1/\1<=d+1/\cl ((codes s).drop (i+1)) 1=(cl ((codes s).drop (j+1)) (d+1)).map (· + (j+1-i-1))):=(by
     rcases a8.out with ⟨h1,h2⟩ | ⟨h1,h2,h3⟩
     ·subst h1 h2;refine⟨by omega,by omega,?_⟩;rw[show j+1-j-1=0 by omega];simp
     ·refine⟨by omega,by omega,?_⟩;rw[h3,a9,c0,cl,if_neg (by decide),if_pos rfl,Option.map_map];congr 1;funext k;show k+1+_=_;omega:_/\_/\_)
    clear a8 a9 c0;go_wp2;go_roundw;case rel=>exact⟨j+1,d+1,by omega,by omega,by go_num,by go_num,by trivial,.inr HN.out⟩
    case measure=>simp[intOf];omega
   ·have b0:((s[j].toNat:Int) == 40)=false:=by simp;omega
    obtain⟨h1,h2,h3⟩:i<j/\1<=d/\cl ((codes s).drop (i+1)) 1=(cl ((codes s).drop j) d).map (· + (j-i-1)):=by
     rcases a8.out with ⟨h1,_⟩ | h
     ·subst h1;exact absurd h40 c0
     ·exact h
    by_cases c1:s[j].toNat=41
    ·have b1:((s[j].toNat:Int) == 41)=true:=by rw[c1];rfl
     by_cases hd1:d=1
     ·subst hd1;have HF:Hid (b9=(j:Int)):=(by
       rw[<-HA.out,h3,a9,c1,cl,if_pos rfl,if_pos rfl];show((i+1+(0+(j-i-1)):Nat):Int)=_;omega:b9=(j:Int))
      clear a8 a9 c1 c0 h3;go_wp2;go_ret;exact⟨by rw[HF.out];rfl,rfl⟩
     ·have HN:Hid (i<j+1/\1<=d-1/\cl ((codes s).drop (i+1)) 1=(cl ((codes s).drop (j+1)) (d-1)).map (· + (j+1-i-1))):=(by
       refine⟨by omega,by omega,?_⟩;rw[h3,a9,c1,cl,if_pos rfl,if_neg hd1,Option.map_map];congr 1;funext k;show k+1+_=_;omega:_/\_/\_)
      have hdI:((d:Int)-1 == 0)=false:=by simp;omega
      have hwr:wrap64 ((d:Int)-1)=(d:Int)-1:=by unfold wrap64;omega
      clear a8 a9 c1 c0 h3;go_wp2;go_roundw;case rel=>exact⟨j+1,d-1,by omega,by omega,by go_num,by congr 1;omega,by trivial,.inr HN.out⟩
      case measure=>simp[intOf];omega
    ·have b1:((s[j].toNat:Int) == 41)=false:=by simp;omega
     have HN:Hid (i<j+1/\1<=d/\cl ((codes s).drop (i+1)) 1=(cl ((codes s).drop (j+1)) d).map (· + (j+1-i-1))):=(by
      refine⟨by omega,by omega,?_⟩;rw[h3,a9,cl,if_neg c1,if_neg c0,Option.map_map];congr 1;funext k;show k+1+_=_;omega:_/\_/\_)
     clear a8 a9 c1 c0 h3;go_wp2;go_roundw;case rel=>exact⟨j+1,d,by omega,by omega,by go_num,rfl,by trivial,.inr HN.out⟩
     case measure=>simp[intOf];omega
  ·obtain rfl:j=s.size:=by omega
   have HF:Hid (b9 = -1):=(by
    rcases a8.out with ⟨h1,_⟩ | ⟨_,_,h3⟩
    ·omega
    ·rw[<-HA.out,h3,List.drop_of_length_le (by rw[cO];omega)];rfl:b9 = -1)
   clear a8;go_wp2;go_ret;exact⟨by rw[HF.out];rfl,rfl⟩
end Go.Proofs.YtphjbbbnbmafnaaGreatDoor.G
