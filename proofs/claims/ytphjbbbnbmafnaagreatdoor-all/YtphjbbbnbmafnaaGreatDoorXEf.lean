/- Parts: XCo XEf. -/
import Derived.Test.YtphjbbbnbmafnaaGreatDoorRxN
import Derived.Test.YtphjbbbnbmafnaaGreatDoorXQs
set_option maxHeartbeats 16000000
set_option maxRecDepth 100000
namespace Go.Proofs.YtphjbbbnbmafnaaGreatDoor.G
open Go.RowKit Go.Shelf RxM
variable {W w w2:World} {Gp K X base g gs n v:Nat} {l:List Wst} {x:Wst} {wv:Value} {wait:List Nat}
attribute [local go_sem] Oper.semAt_some
variable {outs:Nat->List E3}
def VG(outs:Nat->List E3)(w:World)(base K Gp X n gs:Nat)(wv:Value)(l2:List Wst)(wait2:List Nat)(w':World):Prop :=
 Same w w' (fun k=>k=K\/k=gs\/wv.ownBlock=some k)/\Below base w w'/\∃ wv',(∀ g,wv'.ownBlock=some g->wv.ownBlock=some g\/w.heap.size<=g)/\lL outs w' base K Gp X n gs wv' l2 wait2
theorem oD(s:S4)(w:World):Calls Tryz.prog 137 #[.agg #[.int .u64 (s.1:Int),.int .u64 (s.2.1:Int),.int .u64 (s.2.2.1:Int),.int .u64 (s.2.2.2:Int)]] w fun e w'=>e = .returned (.bool (decide (s=z4)))/\Below w.heap.size w w':=by
 refine(rJ s.1 s.2.1 s.2.2.1 s.2.2.2 w).mono ?_;rintro e w' ⟨rfl,h⟩;refine⟨?_,h⟩;congr 2;refine decide_eq_decide.2 ?_;obtain⟨a,b,c,d⟩:=s;simp
theorem VN(h:mE W base g n l)(hx:l[v]?=some x)(s:S4):mE ((((W.setCell ⟨g,v*10,none⟩ (.int .u64 (s.1:Int))).setCell ⟨g,v*10+1,none⟩ (.int .u64 (s.2.1:Int))).setCell ⟨g,v*10+2,none⟩ (.int .u64 (s.2.2.1:Int))).setCell ⟨g,v*10+3,none⟩ (.int .u64 (s.2.2.2:Int))) base g n (l.set v (s,x.2)):=by
 unfold mE;rw[<-EM l v x hx s];exact((((h.stored (v*10) _).1.stored (v*10+1) _).1.stored (v*10+2) _).1.stored (v*10+3) _).1
theorem OO(h:mE W base g n l)(hx:l[v]?=some x)(s:S4):mE ((((W.setCell ⟨g,v*10+4,none⟩ (.int .u64 (s.1:Int))).setCell ⟨g,v*10+5,none⟩ (.int .u64 (s.2.1:Int))).setCell ⟨g,v*10+6,none⟩ (.int .u64 (s.2.2.1:Int))).setCell ⟨g,v*10+7,none⟩ (.int .u64 (s.2.2.2:Int))) base g n (l.set v (x.1,s,x.2.2)):=by
 unfold mE;rw[<-EB l v x hx s];exact((((h.stored (v*10+4) _).1.stored (v*10+5) _).1.stored (v*10+6) _).1.stored (v*10+7) _).1
theorem lL.seen(h:lL outs W base K Gp X n gs wv l wait)(hx:l[v]?=some x)(s:S4)(hs:ok4 s):lL outs ((((W.setCell ⟨gs,v*10,none⟩ (.int .u64 (s.1:Int))).setCell ⟨gs,v*10+1,none⟩ (.int .u64 (s.2.1:Int))).setCell ⟨gs,v*10+2,none⟩ (.int .u64 (s.2.2.1:Int))).setCell ⟨gs,v*10+3,none⟩ (.int .u64 (s.2.2.2:Int))) base K Gp X n gs wv (l.set v (s,x.2)) wait :=
 h.wrote (sP _ _ _ _ _ _ _ _ _ _) (VN h.os hx s) (by rw[List.length_set];exact h.len) (N7 h.ok v ⟨hs,(h.ok x (aC3 hx)).2⟩) (fun u x' h1 _=>V8 (s:=s) (f:=x.2.1) hx u x' h1)
theorem lL.fresh(h:lL outs W base K Gp X n gs wv l wait)(hx:l[v]?=some x)(s:S4)(hs:ok4 s):lL outs ((((W.setCell ⟨gs,v*10+4,none⟩ (.int .u64 (s.1:Int))).setCell ⟨gs,v*10+5,none⟩ (.int .u64 (s.2.1:Int))).setCell ⟨gs,v*10+6,none⟩ (.int .u64 (s.2.2.1:Int))).setCell ⟨gs,v*10+7,none⟩ (.int .u64 (s.2.2.2:Int))) base K Gp X n gs wv (l.set v (x.1,s,x.2.2)) wait :=
 h.wrote (sP _ _ _ _ _ _ _ _ _ _) (OO h.os hx s) (by rw[List.length_set];exact h.len) (N7 h.ok v ⟨(h.ok x (aC3 hx)).1,hs⟩) (fun u x' h1 _=>V8 (s:=x.1) (f:=s) hx u x' h1)
theorem dN(hg:(wv.ownBlock=some g/\w.grownBy w2 (some g))\/(g=w.heap.size/\w.grownBy w2 none)):Same w w2 (fun k=>wv.ownBlock=some k):=by
 rcases hg with ⟨h1,h2⟩ | ⟨_,h2⟩
 ·exact(Same.grown h2).mono fun k _ e=>by rw[h1];exact e
 ·exact(Same.grown h2).mono fun k _ e=>by cases e
theorem lW(l:List Nat)(v:Nat):ints (l++[v])=ints l++[.int .i64 (v:Int)]:=by unfold ints;simp
theorem lL.push(h:lL outs w base K Gp X n gs wv l wait)(v g cap:Nat)(hown:w2.ownsRow base 3 1 (.slice (some ⟨g,0,none⟩) (wait.length+1) cap) (wait.length+1) (ints wait++[.int .i64 (v:Int)]))(hg:(wv.ownBlock=some g/\w.grownBy w2 (some g))\/(g=w.heap.size/\w.grownBy w2 none)):
 lL outs (w2.setCell ⟨K,3,none⟩ (.slice (some ⟨g,0,none⟩) (wait.length+1) cap)) base K Gp X n gs (.slice (some ⟨g,0,none⟩) (wait.length+1) cap) l (wait++[v])/\Same w (w2.setCell ⟨K,3,none⟩ (.slice (some ⟨g,0,none⟩) (wait.length+1) cap)) (fun k=>k=K\/k=gs\/wv.ownBlock=some k)/\Below base w (w2.setCell ⟨K,3,none⟩ (.slice (some ⟨g,0,none⟩) (wait.length+1) cap))/\(wv.ownBlock=some g\/w.heap.size<=g):=by
 have cB:=h.lt;have cL:Same w w2 (fun k=>wv.ownBlock=some k):=by
  rcases hg with ⟨h1,h2⟩ | ⟨_,h2⟩
  ·exact(Same.grown h2).mono fun k _ e=>by rw[h1];exact e
  ·exact(Same.grown h2).mono fun k _ e=>by cases e
 have cM:=Same.set w2 ⟨K,3,none⟩ (.slice (some ⟨g,0,none⟩) (wait.length+1) cap);have cR:wv.ownBlock=some g\/w.heap.size<=g:=by
  rcases hg with ⟨e,_⟩ | ⟨e,_⟩
  ·exact .inl e
  ·exact .inr (by omega)
 have hgK:g≠K/\g≠gs:=by
  rcases cR with e | e
  ·exact h.ne.2 g e
  ·omega
 have hb1:Below base w w2:=by
  have:=h.bs;rcases hg with ⟨e,hg⟩ | ⟨_,hg⟩
  ·exact(YQ base w).grown hg (by omega) (fun k e2=>by injection e2 with e2;subst e2;exact(cB.2.2 g e).1)
  ·exact(YQ base w).grown hg (by omega) (fun k e2=>by cases e2)
 have hn1:∀ k,wv.ownBlock=some k->k≠K/\k≠gs:=h.ne.2;refine⟨⟨?_,?_,?_,h.len,h.ok,⟨h.ne.1,fun k e => ?_⟩,h.bs,fun u x hx ha => ?_⟩,(cL.trans cM).mono fun k _ e=>e.elim (fun e=>.inr (.inr e)) .inl,hb1.setCell (p:=⟨K,3,none⟩) h.bs.1 _,cR⟩
 ·exact aH w2 K 3 _ _ _ _ (cL.row h.rK fun e=>(hn1 K e).1 rfl)
 ·refine aF (aF h.os cL fun k e => ?_) cM fun k e => ?_
  ·simp only[Value.ownBlock,aC5]at e;subst e;exact fun e=>(hn1 _ e).2 rfl
  ·simp only[Value.ownBlock,aC5]at e;subst e;exact fun e=>h.ne.1 e.symm
 ·rw[WT,aF6,lW];exact aF hown cM fun k e=>by simp only[Value.ownBlock,aC5]at e;subst e;exact hgK.1
 ·simp only[Value.ownBlock,aC5]at e;subst e;exact hgK
 ·have he:=h.ed u x hx ha;refine⟨aF (aF he.1 cL fun k e=>(he.2 k e).2.2) cM fun k e=>(he.2 k e).1,fun k e=>⟨(he.2 k e).1,(he.2 k e).2.1,fun e2 => ?_⟩⟩;simp only[Value.ownBlock,aC5]at e2;subst e2;rcases cR with e3 | e3
  ·exact(he.2 g e).2.2 e3
  ·have:=(he.1.lt g e).2;omega
theorem Tryz.infoIn:(Tryz.prog.info? 3).map (fun i=>(i.zero,i.size,i.bytes))=some (some (.int .i64 0),1,8):=by kernel_rfl
theorem IY(base K Gp X n gs:Nat)(wv:Value)(l:List Wst)(wait:List Nat)(v:Nat)(x:Wst)(hx:l[v]?=some x)(at_:S4)(hat:ok4 at_)(w:World)(h:lL outs w base K Gp X n gs wv l wait)(hwl:wait.length<=10000000):
 Calls Tryz.prog 77 #[.pointer (some ⟨K,0,none⟩),.int .i64 (v:Int),.agg (v4 at_)] w fun e w'=>e = .returned (.tuple #[])/\VG outs w base K Gp X n gs wv (if wo4 at_ x.1=z4 then l else l.set v (or4 x.1 (wo4 at_ x.1),or4 x.2.1 (wo4 at_ x.1),x.2.2)) (if wo4 at_ x.1=z4 then wait else if x.2.1=z4 then wait++[v]else wait) w':=by
 have hv:v<n:=by rw[<-h.len];exact(aC4.1 hx).1
 have cB:=h.lt;have cF:=h.bs;have a4:=h.ok x (aC3 hx);obtain⟨a0,a1,a2,a3⟩:=at_;simp only[v4];obtain⟨⟨s0,s1,s2,s3⟩,⟨r0,r1,r2,r3⟩,ev,b3⟩:=x;obtain⟨W0,c8⟩:∃ W0,W0=w.alloc (.cells #[.int .u64 (a0:Int),.int .u64 (a1:Int),.int .u64 (a2:Int),.int .u64 (a3:Int)] 135):=⟨_,rfl⟩;have hJ:Below w.heap.size w W0:=by rw[c8];exact aA _ _
 have q0:W0.heap[w.heap.size]?=some (.cells #[.int .u64 (a0:Int),.int .u64 (a1:Int),.int .u64 (a2:Int),.int .u64 (a3:Int)] 135 (0,0)):=by rw[c8];exact heap_alloc_new w _
 have hs0:w.heap.size<W0.heap.size:=by rw[c8];simp
 have b8:=h.below hJ;obtain⟨f0,f1,f2,f3,f4,f5,f6,f7,f8,f9⟩:=dV l v _ hx;have e0:=(b8.os.cellAt (v*10) (by omega)).trans f0;have e1:=(b8.os.cellAt (v*10+1) (by omega)).trans f1;have e2:=(b8.os.cellAt (v*10+2) (by omega)).trans f2;have e3:=(b8.os.cellAt (v*10+3) (by omega)).trans f3;simp only at e0 e1 e2 e3;obtain⟨⟨_,_,c2,_⟩,_⟩:=dO b8.rK;obtain⟨⟨d0,d1,d2,d3⟩,_⟩:=dO q0;have cU:=fun W=>O4 a0 a1 a2 a3 s0 s1 s2 s3 hat.1 hat.2.1 hat.2.2.1 hat.2.2.2 a4.1.1 a4.1.2.1 a4.1.2.2.1 a4.1.2.2.2 W;obtain⟨z,hz⟩:∃ z,wo4 (a0,a1,a2,a3) (s0,s1,s2,s3)=z:=⟨_,rfl⟩;have a7:ok4 z:=by rw[<-hz];exact WE hat
 simp only[hz];obtain⟨l2,cH⟩:∃ l2,(if z=z4 then l else l.set v (or4 (s0,s1,s2,s3) z,or4 (r0,r1,r2,r3) z,ev,b3))=l2:=⟨_,rfl⟩;obtain⟨t2,cI⟩:∃ t2,(if z=z4 then wait else if (r0,r1,r2,r3)=z4 then wait++[v]else wait)=t2:=⟨_,rfl⟩;rw[cH,cI];have cN:Hid _:=cH;have cP:Hid _:=cI;clear cH cI;obtain⟨z0,z1,z2,z3⟩:=z;have g0:a0 &&& (18446744073709551615-s0)=z0:=congrArg (·.1) hz;have g1:a1 &&& (18446744073709551615-s1)=z1:=congrArg (·.2.1) hz;have g2:a2 &&& (18446744073709551615-s2)=z2:=congrArg (·.2.2.1) hz;have g3:a3 &&& (18446744073709551615-s3)=z3:=congrArg (·.2.2.2) hz;rw[g0,g1,g2,g3]at cU;have HWo:Hid (∀ W,Calls Tryz.prog 136 _ W _):=cU;clear g0 g1 g2 g3 cU;have HW1:Hid _:=b8;have HJ:Hid _:=hJ;have hvI:(v:Int)<(n:Int):=by omega
 have HX:Hid _:=hx;clear hz b8 hJ q0 f0 f1 f2 f3 f4 f5 f6 f7 f8 f9 h hx;go_enter Tryz.func77,Tryz.ntmps77
 go_upto_region 1 with fail
 rw[<-c8];have HW0:Hid _:=c8;clear c8;go_upto_region 2 with fail
 go_cut [7] (fun s7 wx=>∃ b7,s7 = .pointer (some ⟨b7,0,none⟩)/\Hid (W0.heap.size<=b7/\wx.heap[b7]?=some (.cells #[.int .u64 (z0:Int),.int .u64 (z1:Int),.int .u64 (z2:Int),.int .u64 (z3:Int)] 135 (0,0))/\Below W0.heap.size W0 wx))
 case first =>
  have y0:=fun o=>cell_kept (aA W0 o) _ _ e0;have y1:=fun o=>cell_kept (aA W0 o) _ _ e1;have y2:=fun o=>cell_kept (aA W0 o) _ _ e2;have y3:=fun o=>cell_kept (aA W0 o) _ _ e3;have x0:=fun o=>cell_kept (aA W0 o) _ _ d0;have x1:=fun o=>cell_kept (aA W0 o) _ _ d1;have x2:=fun o=>cell_kept (aA W0 o) _ _ d2;have x3:=fun o=>cell_kept (aA W0 o) _ _ d3;go_region_with (refine(HWo.out _).mono ?_;rintro r w1 ⟨rfl,a5⟩;try obtain⟨⟨p0,p1,p2,p3⟩,p4,p5,p6,p7⟩:=dO (aB a5 (heap_alloc_new W0 (.cells #[.int .u64 0,.int .u64 0,.int .u64 0,.int .u64 0] 135))))
  all_goals
   go_wp2_with fail
   go_meet;case rel =>
    first
     | exact⟨w1.heap.size,rfl,(((YQ W0.heap.size W0).drew).trans a5).size,heap_alloc_new w1 _,(((YQ W0.heap.size W0).drew).trans a5).alloc (((YQ W0.heap.size W0).drew).trans a5).size _⟩
     | exact⟨W0.heap.size,rfl,V7 _,aAH (aB a5 (heap_alloc_new W0 (.cells #[.int .u64 0,.int .u64 0,.int .u64 0,.int .u64 0] 135))) _ _ _ _,iO (((aA W0 (.cells #[.int .u64 0,.int .u64 0,.int .u64 0,.int .u64 0] 135)).drew).trans (a5.mono (by simp))) (V7 _) _ _ _ _⟩
 case rest =>
  obtain⟨b7,rfl,HC⟩:=hcut;have HD:Hid (_/\_/\_):=HC.out;clear HC e0 e1 e2 e3 c2 d0 d1 d2 d3;have hb7:=HD.out.1;obtain⟨⟨t0,t1,t2,t3⟩,_⟩:=dO HD.out.2.1;have HEm:Hid (∀ W,Calls Tryz.prog 137 #[.agg #[.int .u64 (z0:Int),.int .u64 (z1:Int),.int .u64 (z2:Int),.int .u64 (z3:Int)]] W _):=fun W=>oD (z0,z1,z2,z3) W;have HEr:Hid (∀ W,Calls Tryz.prog 137 #[.agg #[.int .u64 (r0:Int),.int .u64 (r1:Int),.int .u64 (r2:Int),.int .u64 (r3:Int)]] W _):=fun W=>oD (r0,r1,r2,r3) W;have aL:Hid (∀ W,Calls Tryz.prog 134 _ W _):=fun W=>fP s0 s1 s2 s3 z0 z1 z2 z3 a4.1.1 a4.1.2.1 a4.1.2.2.1 a4.1.2.2.2 a7.1 a7.2.1 a7.2.2.1 a7.2.2.2 W;have b0:Hid (∀ W,Calls Tryz.prog 134 _ W _):=fun W=>fP r0 r1 r2 r3 z0 z1 z2 z3 a4.2.1 a4.2.2.1 a4.2.2.2.1 a4.2.2.2.2 a7.1 a7.2.1 a7.2.2.1 a7.2.2.2 W;go_wp2_with fail
  refine(HEm.out wc).mono ?_;rintro e w3 ⟨rfl,hB3⟩;have cD:Below w.heap.size w w3:=(HJ.out.trans (HD.out.2.2.mono (aH2 hs0))).trans (hB3.mono (aD9 (aH2 hs0) HD.out.2.2.size));have cA:=(HW1.out.below HD.out.2.2).below hB3;have bS:=aB hB3 HD.out.2.1;have hz3:b7<w3.heap.size:=(aC2.1 bS).1;have HE:Hid (_/\_/\_):=⟨cD,cA,bS⟩;clear cD bS hB3 t0 t1 t2 t3;by_cases hzz:(z0,z1,z2,z3)=z4
  ·rw[decide_eq_true hzz];have cH:l2=l:=by rw[<-cN.out,if_pos hzz]
   have cI:t2=wait:=by rw[<-cP.out,if_pos hzz]
   go_wp2;exact bodyPost_ret (results_none rfl _ _ _) rfl ⟨rfl,(Same.below HE.out.1).mono (fun _ _ e=>e.elim),HE.out.1.mono (by omega),wv,fun g e=>.inl e,by rw[cH,cI];exact HE.out.2.1⟩
  ·rw[decide_eq_false hzz];obtain⟨_,_,_,_,f4,f5,f6,f7,_⟩:=dV l v _ HX.out;have hvl:v*10+7<n*10:=by omega
   have e4:=(cA.os.cellAt (v*10+4) (by omega)).trans f4;have e5:=(cA.os.cellAt (v*10+5) (by omega)).trans f5;have e6:=(cA.os.cellAt (v*10+6) (by omega)).trans f6;have e7:=(cA.os.cellAt (v*10+7) (by omega)).trans f7;simp only at e4 e5 e6 e7;clear f4 f5 f6 f7 cA;go_wp2_with fail
   refine(HEr.out w3).mono ?_;rintro e w4 ⟨rfl,hB4⟩;have cJ:=HE.out.2.1.below hB4;have a9:Hid (_/\_/\_/\_):=⟨cJ,(Same.below (chain HE.out.1 hB4)).mono (T:=fun k=>k=K\/k=gs\/wv.ownBlock=some k) (fun _ _ e=>e.elim),(chain HE.out.1 hB4).mono (show base<=w.heap.size by omega),aB hB4 HE.out.2.2⟩;have hz4:w3.heap.size<=w4.heap.size:=hB4.size;clear e4 e5 e6 e7 hB4;by_cases hrr:(r0,r1,r2,r3)=z4
   ·rw[decide_eq_true hrr];have HQ:Hid (l2=l.set v (or4 (s0,s1,s2,s3) (z0,z1,z2,z3),or4 (r0,r1,r2,r3) (z0,z1,z2,z3),ev,b3)/\t2=(wait++[v])):=(⟨by rw[<-cN.out,if_neg hzz],by rw[<-cP.out,if_neg hzz,if_pos hrr]⟩:_/\_);clear hrr hzz;obtain⟨⟨_,_,_,p3⟩,_,_,_,pf⟩:=dO cJ.rK;have p3a:=fun o=>cell_kept (aA w4 o) _ _ p3;obtain⟨i1,hi1,hy0,hy1,hy2⟩:=info_parts Tryz.infoIn;clear cJ;go_wp2_with (at_builtin;refine aO _ rfl _ _ 64 rfl base 3 i1 (.int .i64 0) 1 8 Tryz.underlying64 hi1 hy0 hy1 hy2 rfl (by decide) _ _ _ rfl (a9.out.1.ow.alloc _) ⟨w4.heap.size,0,none⟩ 1 1 [.int .i64 (v:Int)] rfl rfl (aG4 (cs:=#[.int .i64 (v:Int)]) (t:=3) (fr:=(0,0)) (heap_alloc_new w4 _)) (by simp[Value.oneCell']) (by omega) (by unfold maxLen;omega) (by omega) (by simp;omega) ?_;intro g5 cap5 w5 hown5 hg5;have hrK:=(dN hg5).row (aB (aA w4 _) a9.out.1.rK) (fun e=>(a9.out.1.ne.2 K e).1 rfl);obtain⟨⟨_,_,_,o3⟩,_,_,_,of⟩:=dO hrK;clear hrK)
    have bX:=(a9.out.1.below (aA w4 (.cells #[.int .i64 (v:Int)] 3))).push v g5 cap5 hown5 hg5;have cG:=aA w4 (.cells #[.int .i64 (v:Int)] 3);obtain⟨wA,c0⟩:∃ wA,wA=w5.setCell ⟨K,3,none⟩ (.slice (some ⟨g5,0,none⟩) (wait.length+1) cap5):=⟨_,rfl⟩;rw[<-c0]at bX;have hba:base<=w4.heap.size:=by have:=a9.out.2.1.1;omega
    have cS:w.heap.size<=w4.heap.size:=a9.out.2.1.1;have cE:∀ k,wv.ownBlock=some k->k≠b7:=fun k e=>by have:=(cB.2.2 k e).2;omega
    have HA:Hid (_/\_/\_/\_):=⟨bX.1,((a9.out.2.1.trans (Same.below cG)).trans bX.2.1).mono (T:=fun k=>k=K\/k=gs\/wv.ownBlock=some k) (fun k _ e=>by rcases e with (e | e) | e;exact e;exact e.elim;exact e),(a9.out.2.2.1.trans (cG.mono hba)).trans bX.2.2.1,bX.2.1.row (aB cG a9.out.2.2.2) (fun e=>by rcases e with e | e | e;omega;omega;exact cE _ e rfl)⟩;have HG:Hid (∀ g,(Value.slice (some ⟨g5,0,none⟩) (wait.length+1) cap5).ownBlock=some g->wv.ownBlock=some g\/w.heap.size<=g):=(fun g e=>by
     simp only[Value.ownBlock,aC5]at e;subst e;rcases bX.2.2.2 with e | e
     ·exact .inl e
     ·exact .inr (aD9 (aD9 cS cG.size) e):∀ g,(Value.slice (some ⟨g5,0,none⟩) (wait.length+1) cap5).ownBlock=some g->wv.ownBlock=some g\/w.heap.size<=g)
    clear bX cG hown5 hg5 cE;go_upto_region 6 with fail
    rw[<-c0];clear c0 o3 of p3 p3a pf;have a8:=HA.out.1;obtain⟨f0,f1,f2,f3,f4,f5,f6,f7,_⟩:=dV l v _ HX.out;have e0:=(a8.os.cellAt (v*10) (by omega)).trans f0;have e1:=(a8.os.cellAt (v*10+1) (by omega)).trans f1;have e2:=(a8.os.cellAt (v*10+2) (by omega)).trans f2;have e3:=(a8.os.cellAt (v*10+3) (by omega)).trans f3;simp only at e0 e1 e2 e3;obtain⟨⟨t0,t1,b6,t3⟩,_⟩:=dO HA.out.2.2.2;have x0:=fun u=>aC e0 u;have x1:=fun u=>aC e1 u;have x2:=fun u=>aC e2 u;have x3:=fun u=>aC e3 u;have y0:=fun u=>aC t0 u;have y1:=fun u=>aC t1 u;have y2:=fun u=>aC b6 u;have y3:=fun u=>aC t3 u;clear a8 e0 e1 e2 e3 t0 t1 b6 t3 f0 f1 f2 f3 f4 f5 f6 f7;refine bC (n:=9) rfl (by kernel_rfl) (by kernel_rfl) (by kernel_rfl) ?_;simp only[List.dropLast];repeat (gi_big_quiet_step (fail))
    refine wpQuietIn_step (by intros;intro;intros;trivial) (fun K hK => ?_);rw[if_pos (show Region.wanted _ _=true from rfl)];gi_big_quiet_op;apply Exists.intro;refine⟨fun u => ?_,?_⟩
    ·first
      | (refine⟨fun h=>by cases h,(callsIn_wide.2 (aL.out _)).mono ?_⟩;rintro r w1 ⟨rfl,hB⟩;exact⟨rfl,w1,aN (chain (aD _ _) hB)⟩)
      | (refine⟨trivial,(callsIn_wide.2 (aL.out _)).mono ?_⟩;rintro r w1 ⟨rfl,hB⟩;exact⟨rfl,w1,aN (chain (aD _ _) hB)⟩)
      | (refine(callsIn_wide.2 (aL.out _)).mono ?_;rintro r w1 ⟨rfl,hB⟩;exact⟨rfl,w1,aN (chain (aD _ _) hB)⟩)
    refine hK _ ?_;clear hK K;repeat (gi_big_quiet_step (fail))
    refine wpQuietIn_nil ?_;rintro wx ⟨u,rfl⟩;have a5:=aD wA u;have a6:=HA.out.1.below a5;have k0:=a6.os.frozenAt (v*10);have k1:=a6.os.frozenAt (v*10+1);have k2:=a6.os.frozenAt (v*10+2);have k3:=a6.os.frozenAt (v*10+3);have b2:=a6.seen HX.out (or4 (s0,s1,s2,s3) (z0,z1,z2,z3)) (jT a4.1 a7);have b1:=sP (ext wA u) gs (v*10) (v*10+1) (v*10+2) (v*10+3) (.int .u64 ((s0 ||| z0:Nat):Int)) (.int .u64 ((s1 ||| z1:Nat):Int)) (.int .u64 ((s2 ||| z2:Nat):Int)) (.int .u64 ((s3 ||| z3:Nat):Int));have b4:=kC (YQ base (ext wA u)) (g:=gs) cF.2 (v*10) (v*10+1) (v*10+2) (v*10+3) (.int .u64 ((s0 ||| z0:Nat):Int)) (.int .u64 ((s1 ||| z1:Nat):Int)) (.int .u64 ((s2 ||| z2:Nat):Int)) (.int .u64 ((s3 ||| z3:Nat):Int));have bW:base<=wA.heap.size:=by have:=HA.out.2.1.1;omega
    have HB:Hid (_/\_/\_/\_):=⟨b2,((HA.out.2.1.trans (Same.below a5)).trans b1).mono (T:=fun k=>k=K\/k=gs\/wv.ownBlock=some k) (fun k _ e=>by rcases e with (e | e) | e;exact e;exact e.elim;exact .inr (.inl e)),(HA.out.2.2.1.trans (a5.mono bW)).trans b4,b1.row (aB a5 HA.out.2.2.2) (by omega)⟩;clear a5 a6 b2 b1 b4;simp only[List.getLast];refine⟨by intros;trivial,?_⟩;go_simp;clear k0 k1 k2 k3 x0 x1 x2 x3 y0 y1 y2 y3;obtain⟨wB,aE⟩:∃ wB,wB=(((((ext wA u).setCell ⟨gs,v*10,none⟩ (.int .u64 ((s0 ||| z0:Nat):Int))).setCell ⟨gs,v*10+1,none⟩ (.int .u64 ((s1 ||| z1:Nat):Int))).setCell ⟨gs,v*10+2,none⟩ (.int .u64 ((s2 ||| z2:Nat):Int))).setCell ⟨gs,v*10+3,none⟩ (.int .u64 ((s3 ||| z3:Nat):Int))):=⟨_,rfl⟩;have aG:Hid (lL outs wB base K Gp X n gs (.slice (some ⟨g5,0,none⟩) (wait.length+1) cap5) (l.set v (or4 (s0,s1,s2,s3) (z0,z1,z2,z3),(r0,r1,r2,r3),ev,b3)) (wait++[v])/\Same w wB (fun k=>k=K\/k=gs\/wv.ownBlock=some k)/\Below base w wB/\wB.heap[b7]?=some (.cells #[.int .u64 (z0:Int),.int .u64 (z1:Int),.int .u64 (z2:Int),.int .u64 (z3:Int)] 135 (0,0))):=(by rw[aE];exact HB.out:_/\_/\_/\_);rw[<-aE];clear aE HB;have c7:(l.set v (or4 (s0,s1,s2,s3) (z0,z1,z2,z3),(r0,r1,r2,r3),ev,b3))[v]?=some (or4 (s0,s1,s2,s3) (z0,z1,z2,z3),(r0,r1,r2,r3),ev,b3):=aE5 (aC4.1 HX.out).1;have cQ:Hid _:=c7;have a8:=aG.out.1;obtain⟨_,_,_,_,f4,f5,f6,f7,_⟩:=dV _ v _ c7;have e0:=(a8.os.cellAt (v*10+4) (by omega)).trans f4;have e1:=(a8.os.cellAt (v*10+5) (by omega)).trans f5;have e2:=(a8.os.cellAt (v*10+6) (by omega)).trans f6;have e3:=(a8.os.cellAt (v*10+7) (by omega)).trans f7;simp only at e0 e1 e2 e3;obtain⟨⟨t0,t1,b6,t3⟩,_⟩:=dO aG.out.2.2.2;have x0:=fun u=>aC e0 u;have x1:=fun u=>aC e1 u;have x2:=fun u=>aC e2 u;have x3:=fun u=>aC e3 u;have y0:=fun u=>aC t0 u;have y1:=fun u=>aC t1 u;have y2:=fun u=>aC b6 u;have y3:=fun u=>aC t3 u;clear a8 e0 e1 e2 e3 t0 t1 b6 t3 f4 f5 f6 f7 c7;go_upto_region 7 with fail
    refine bC (n:=9) rfl (by kernel_rfl) (by kernel_rfl) (by kernel_rfl) ?_;simp only[List.dropLast];repeat (gi_big_quiet_step (fail))
    refine wpQuietIn_step (by intros;intro;intros;trivial) (fun K hK => ?_);rw[if_pos (show Region.wanted _ _=true from rfl)];gi_big_quiet_op;apply Exists.intro;refine⟨fun u => ?_,?_⟩
    ·first
      | (refine⟨fun h=>by cases h,(callsIn_wide.2 (b0.out _)).mono ?_⟩;rintro r w1 ⟨rfl,hB⟩;exact⟨rfl,w1,aN (chain (aD _ _) hB)⟩)
      | (refine⟨trivial,(callsIn_wide.2 (b0.out _)).mono ?_⟩;rintro r w1 ⟨rfl,hB⟩;exact⟨rfl,w1,aN (chain (aD _ _) hB)⟩)
      | (refine(callsIn_wide.2 (b0.out _)).mono ?_;rintro r w1 ⟨rfl,hB⟩;exact⟨rfl,w1,aN (chain (aD _ _) hB)⟩)
    refine hK _ ?_;clear hK K;repeat (gi_big_quiet_step (fail))
    refine wpQuietIn_nil ?_;rintro wx ⟨u2,rfl⟩;have a5:=aD wB u2;have a6:=aG.out.1.below a5;have k0:=a6.os.frozenAt (v*10+4);have k1:=a6.os.frozenAt (v*10+5);have k2:=a6.os.frozenAt (v*10+6);have k3:=a6.os.frozenAt (v*10+7);have b2:=a6.fresh cQ.out (or4 (r0,r1,r2,r3) (z0,z1,z2,z3)) (jT a4.2 a7);rw[List.set_set]at b2;have b1:=sP (ext wB u2) gs (v*10+4) (v*10+5) (v*10+6) (v*10+7) (.int .u64 ((r0 ||| z0:Nat):Int)) (.int .u64 ((r1 ||| z1:Nat):Int)) (.int .u64 ((r2 ||| z2:Nat):Int)) (.int .u64 ((r3 ||| z3:Nat):Int));have b4:=kC (YQ base (ext wB u2)) (g:=gs) cF.2 (v*10+4) (v*10+5) (v*10+6) (v*10+7) (.int .u64 ((r0 ||| z0:Nat):Int)) (.int .u64 ((r1 ||| z1:Nat):Int)) (.int .u64 ((r2 ||| z2:Nat):Int)) (.int .u64 ((r3 ||| z3:Nat):Int));have b5:base<=wB.heap.size:=by have:=aG.out.2.1.1;omega
    have b9:Hid (_/\_/\_):=⟨b2,((aG.out.2.1.trans (Same.below a5)).trans b1).mono (T:=fun k=>k=K\/k=gs\/wv.ownBlock=some k) (fun k _ e=>by rcases e with (e | e) | e;exact e;exact e.elim;exact .inr (.inl e)),(aG.out.2.2.1.trans (a5.mono b5)).trans b4⟩;clear a5 a6 b2 b1 b4;simp only[List.getLast];refine⟨by intros;trivial,?_⟩;go_simp;clear k0 k1 k2 k3 x0 x1 x2 x3 y0 y1 y2 y3;go_wp2;exact bodyPost_end (results_none rfl _ _ _) rfl ⟨rfl,b9.out.2.1,b9.out.2.2,(.slice (some ⟨g5,0,none⟩) (wait.length+1) cap5),HG.out,by rw[HQ.out.1,HQ.out.2];exact b9.out.1⟩
   ·rw[decide_eq_false hrr];have HQ:Hid (l2=l.set v (or4 (s0,s1,s2,s3) (z0,z1,z2,z3),or4 (r0,r1,r2,r3) (z0,z1,z2,z3),ev,b3)/\t2=wait):=(⟨by rw[<-cN.out,if_neg hzz],by rw[<-cP.out,if_neg hzz,if_neg hrr]⟩:_/\_);clear hrr hzz;clear cJ;have HG:Hid (∀ g,wv.ownBlock=some g->wv.ownBlock=some g\/w.heap.size<=g):=(fun g e=>.inl e:∀ g,wv.ownBlock=some g->wv.ownBlock=some g\/w.heap.size<=g);have a8:=a9.out.1;obtain⟨f0,f1,f2,f3,f4,f5,f6,f7,_⟩:=dV l v _ HX.out;have e0:=(a8.os.cellAt (v*10) (by omega)).trans f0;have e1:=(a8.os.cellAt (v*10+1) (by omega)).trans f1;have e2:=(a8.os.cellAt (v*10+2) (by omega)).trans f2;have e3:=(a8.os.cellAt (v*10+3) (by omega)).trans f3;simp only at e0 e1 e2 e3;obtain⟨⟨t0,t1,b6,t3⟩,_⟩:=dO a9.out.2.2.2;have x0:=fun u=>aC e0 u;have x1:=fun u=>aC e1 u;have x2:=fun u=>aC e2 u;have x3:=fun u=>aC e3 u;have y0:=fun u=>aC t0 u;have y1:=fun u=>aC t1 u;have y2:=fun u=>aC b6 u;have y3:=fun u=>aC t3 u;clear a8 e0 e1 e2 e3 t0 t1 b6 t3 f0 f1 f2 f3 f4 f5 f6 f7;go_upto_region 6 with fail
    refine bC (n:=9) rfl (by kernel_rfl) (by kernel_rfl) (by kernel_rfl) ?_;simp only[List.dropLast];repeat (gi_big_quiet_step (fail))
    refine wpQuietIn_step (by intros;intro;intros;trivial) (fun K hK => ?_);rw[if_pos (show Region.wanted _ _=true from rfl)];gi_big_quiet_op;apply Exists.intro;refine⟨fun u => ?_,?_⟩
    ·first
      | (refine⟨fun h=>by cases h,(callsIn_wide.2 (aL.out _)).mono ?_⟩;rintro r w1 ⟨rfl,hB⟩;exact⟨rfl,w1,aN (chain (aD _ _) hB)⟩)
      | (refine⟨trivial,(callsIn_wide.2 (aL.out _)).mono ?_⟩;rintro r w1 ⟨rfl,hB⟩;exact⟨rfl,w1,aN (chain (aD _ _) hB)⟩)
      | (refine(callsIn_wide.2 (aL.out _)).mono ?_;rintro r w1 ⟨rfl,hB⟩;exact⟨rfl,w1,aN (chain (aD _ _) hB)⟩)
    refine hK _ ?_;clear hK K;repeat (gi_big_quiet_step (fail))
    refine wpQuietIn_nil ?_;rintro wx ⟨u,rfl⟩;have a5:=aD w4 u;have a6:=a9.out.1.below a5;have k0:=a6.os.frozenAt (v*10);have k1:=a6.os.frozenAt (v*10+1);have k2:=a6.os.frozenAt (v*10+2);have k3:=a6.os.frozenAt (v*10+3);have b2:=a6.seen HX.out (or4 (s0,s1,s2,s3) (z0,z1,z2,z3)) (jT a4.1 a7);have b1:=sP (ext w4 u) gs (v*10) (v*10+1) (v*10+2) (v*10+3) (.int .u64 ((s0 ||| z0:Nat):Int)) (.int .u64 ((s1 ||| z1:Nat):Int)) (.int .u64 ((s2 ||| z2:Nat):Int)) (.int .u64 ((s3 ||| z3:Nat):Int));have b4:=kC (YQ base (ext w4 u)) (g:=gs) cF.2 (v*10) (v*10+1) (v*10+2) (v*10+3) (.int .u64 ((s0 ||| z0:Nat):Int)) (.int .u64 ((s1 ||| z1:Nat):Int)) (.int .u64 ((s2 ||| z2:Nat):Int)) (.int .u64 ((s3 ||| z3:Nat):Int));have bW:base<=w4.heap.size:=by have:=a9.out.2.1.1;omega
    have HB:Hid (_/\_/\_/\_):=⟨b2,((a9.out.2.1.trans (Same.below a5)).trans b1).mono (T:=fun k=>k=K\/k=gs\/wv.ownBlock=some k) (fun k _ e=>by rcases e with (e | e) | e;exact e;exact e.elim;exact .inr (.inl e)),(a9.out.2.2.1.trans (a5.mono bW)).trans b4,b1.row (aB a5 a9.out.2.2.2) (by omega)⟩;clear a5 a6 b2 b1 b4;simp only[List.getLast];refine⟨by intros;trivial,?_⟩;go_simp;clear k0 k1 k2 k3 x0 x1 x2 x3 y0 y1 y2 y3;obtain⟨wB,aE⟩:∃ wB,wB=(((((ext w4 u).setCell ⟨gs,v*10,none⟩ (.int .u64 ((s0 ||| z0:Nat):Int))).setCell ⟨gs,v*10+1,none⟩ (.int .u64 ((s1 ||| z1:Nat):Int))).setCell ⟨gs,v*10+2,none⟩ (.int .u64 ((s2 ||| z2:Nat):Int))).setCell ⟨gs,v*10+3,none⟩ (.int .u64 ((s3 ||| z3:Nat):Int))):=⟨_,rfl⟩;have aG:Hid (lL outs wB base K Gp X n gs wv (l.set v (or4 (s0,s1,s2,s3) (z0,z1,z2,z3),(r0,r1,r2,r3),ev,b3)) wait/\Same w wB (fun k=>k=K\/k=gs\/wv.ownBlock=some k)/\Below base w wB/\wB.heap[b7]?=some (.cells #[.int .u64 (z0:Int),.int .u64 (z1:Int),.int .u64 (z2:Int),.int .u64 (z3:Int)] 135 (0,0))):=(by rw[aE];exact HB.out:_/\_/\_/\_);rw[<-aE];clear aE HB;have c7:(l.set v (or4 (s0,s1,s2,s3) (z0,z1,z2,z3),(r0,r1,r2,r3),ev,b3))[v]?=some (or4 (s0,s1,s2,s3) (z0,z1,z2,z3),(r0,r1,r2,r3),ev,b3):=aE5 (aC4.1 HX.out).1;have cQ:Hid _:=c7;have a8:=aG.out.1;obtain⟨_,_,_,_,f4,f5,f6,f7,_⟩:=dV _ v _ c7;have e0:=(a8.os.cellAt (v*10+4) (by omega)).trans f4;have e1:=(a8.os.cellAt (v*10+5) (by omega)).trans f5;have e2:=(a8.os.cellAt (v*10+6) (by omega)).trans f6;have e3:=(a8.os.cellAt (v*10+7) (by omega)).trans f7;simp only at e0 e1 e2 e3;obtain⟨⟨t0,t1,b6,t3⟩,_⟩:=dO aG.out.2.2.2;have x0:=fun u=>aC e0 u;have x1:=fun u=>aC e1 u;have x2:=fun u=>aC e2 u;have x3:=fun u=>aC e3 u;have y0:=fun u=>aC t0 u;have y1:=fun u=>aC t1 u;have y2:=fun u=>aC b6 u;have y3:=fun u=>aC t3 u;clear a8 e0 e1 e2 e3 t0 t1 b6 t3 f4 f5 f6 f7 c7;go_upto_region 7 with fail
    refine bC (n:=9) rfl (by kernel_rfl) (by kernel_rfl) (by kernel_rfl) ?_;simp only[List.dropLast];repeat (gi_big_quiet_step (fail))
    refine wpQuietIn_step (by intros;intro;intros;trivial) (fun K hK => ?_);rw[if_pos (show Region.wanted _ _=true from rfl)];gi_big_quiet_op;apply Exists.intro;refine⟨fun u => ?_,?_⟩
    ·first
      | (refine⟨fun h=>by cases h,(callsIn_wide.2 (b0.out _)).mono ?_⟩;rintro r w1 ⟨rfl,hB⟩;exact⟨rfl,w1,aN (chain (aD _ _) hB)⟩)
      | (refine⟨trivial,(callsIn_wide.2 (b0.out _)).mono ?_⟩;rintro r w1 ⟨rfl,hB⟩;exact⟨rfl,w1,aN (chain (aD _ _) hB)⟩)
      | (refine(callsIn_wide.2 (b0.out _)).mono ?_;rintro r w1 ⟨rfl,hB⟩;exact⟨rfl,w1,aN (chain (aD _ _) hB)⟩)
    refine hK _ ?_;clear hK K;repeat (gi_big_quiet_step (fail))
    refine wpQuietIn_nil ?_;rintro wx ⟨u2,rfl⟩;have a5:=aD wB u2;have a6:=aG.out.1.below a5;have k0:=a6.os.frozenAt (v*10+4);have k1:=a6.os.frozenAt (v*10+5);have k2:=a6.os.frozenAt (v*10+6);have k3:=a6.os.frozenAt (v*10+7);have b2:=a6.fresh cQ.out (or4 (r0,r1,r2,r3) (z0,z1,z2,z3)) (jT a4.2 a7);rw[List.set_set]at b2;have b1:=sP (ext wB u2) gs (v*10+4) (v*10+5) (v*10+6) (v*10+7) (.int .u64 ((r0 ||| z0:Nat):Int)) (.int .u64 ((r1 ||| z1:Nat):Int)) (.int .u64 ((r2 ||| z2:Nat):Int)) (.int .u64 ((r3 ||| z3:Nat):Int));have b4:=kC (YQ base (ext wB u2)) (g:=gs) cF.2 (v*10+4) (v*10+5) (v*10+6) (v*10+7) (.int .u64 ((r0 ||| z0:Nat):Int)) (.int .u64 ((r1 ||| z1:Nat):Int)) (.int .u64 ((r2 ||| z2:Nat):Int)) (.int .u64 ((r3 ||| z3:Nat):Int));have b5:base<=wB.heap.size:=by have:=aG.out.2.1.1;omega
    have b9:Hid (_/\_/\_):=⟨b2,((aG.out.2.1.trans (Same.below a5)).trans b1).mono (T:=fun k=>k=K\/k=gs\/wv.ownBlock=some k) (fun k _ e=>by rcases e with (e | e) | e;exact e;exact e.elim;exact .inr (.inl e)),(aG.out.2.2.1.trans (a5.mono b5)).trans b4⟩;clear a5 a6 b2 b1 b4;simp only[List.getLast];refine⟨by intros;trivial,?_⟩;go_simp;clear k0 k1 k2 k3 x0 x1 x2 x3 y0 y1 y2 y3;go_wp2;exact bodyPost_end (results_none rfl _ _ _) rfl ⟨rfl,b9.out.2.1,b9.out.2.2,wv,HG.out,by rw[HQ.out.1,HQ.out.2];exact b9.out.1⟩
end Go.Proofs.YtphjbbbnbmafnaaGreatDoor.G
namespace Go.Proofs.YtphjbbbnbmafnaaGreatDoor.G
open Go.RowKit Go.Shelf RxM
variable {W:World} {base n:Nat} {l:List Wst} {x:Wst}
variable {outs:Nat->List E3}
def aBf(outs:Nat->List E3)(w0:World)(Gp n:Nat):Prop:=∀ W,Below w0.heap.size w0 W->∀ u:Nat,u<n->Calls Tryz.prog 15 #[.pointer (some ⟨Gp,0,none⟩),.int .i64 (u:Int)] W fun e w'=>∃ v,e = .returned (.tuple #[v,.int .i64 0])/\eO W w' v (outs u)
def aAn(outs:Nat->List E3)(w:World)(base K Gp X n gs:Nat)(wv:Value)(l:List Wst)(wait:List Nat)(u:Nat)(x:Wst)(e:Ending)(w':World):Prop :=
 ∃ v l',e = .returned v/\lL outs w' base K Gp X n gs wv l' wait/\(l'=l\/l'=l.set u (x.1,x.2.1,v,true))/\Same w w' (fun k=>k=gs)/\Below base w w'/\w'.ownsRow base 38 3 v (outs u).length (flat (outs u))/\∀ g,v.ownBlock=some g->g≠K/\g≠gs/\wv.ownBlock≠some g
theorem KD{g:Nat}(h:mE W base g n l){v:Nat}(hx:l[v]?=some x)(a:Value)(b:Bool):mE ((W.setCell ⟨g,v*10+8,none⟩ a).setCell ⟨g,v*10+9,none⟩ (.bool b)) base g n (l.set v (x.1,x.2.1,a,b)):=by
 unfold mE;rw[<-CZ l v x hx a b];exact((h.stored (v*10+8) _).1.stored (v*10+9) _).1
theorem lL.edges{w:World}{K Gp X gs:Nat}{wv:Value}{wait:List Nat}(h:lL outs w base K Gp X n gs wv l wait){u:Nat}(hx:l[u]?=some x)(v:Value)(hO:eO w W v (outs u))(hbase:base<=w.heap.size):
 lL outs ((W.setCell ⟨gs,u*10+8,none⟩ v).setCell ⟨gs,u*10+9,none⟩ (.bool true)) base K Gp X n gs wv (l.set u (x.1,x.2.1,v,true)) wait/\Same w ((W.setCell ⟨gs,u*10+8,none⟩ v).setCell ⟨gs,u*10+9,none⟩ (.bool true)) (fun k=>k=gs)/\Below base w ((W.setCell ⟨gs,u*10+8,none⟩ v).setCell ⟨gs,u*10+9,none⟩ (.bool true))/\((W.setCell ⟨gs,u*10+8,none⟩ v).setCell ⟨gs,u*10+9,none⟩ (.bool true)).ownsRow base 38 3 v (outs u).length (flat (outs u))/\∀ g,v.ownBlock=some g->g≠K/\g≠gs/\wv.ownBlock≠some g:=by
 have cB:=h.lt;have hw:=h.below hO.2;have hs:Same W ((W.setCell ⟨gs,u*10+8,none⟩ v).setCell ⟨gs,u*10+9,none⟩ (.bool true)) (fun k=>k=gs):=((Same.set W ⟨gs,u*10+8,none⟩ v).trans (Same.set _ ⟨gs,u*10+9,none⟩ (.bool true))).mono fun k _ e=>e.elim id id;have hn:∀ g,v.ownBlock=some g->g≠K/\g≠gs/\wv.ownBlock≠some g:=fun g e=>by
  have:=hO.1.lt g e;refine⟨by omega,by omega,fun e2 => ?_⟩;have:=(cB.2.2 g e2).2;omega
 have ho:W.ownsRow base 38 3 v (outs u).length (flat (outs u)):=by
  refine⟨hO.1.1,?_⟩;rcases hO.1.2 with h0 | ⟨g,cap,cur,h1,h2,h3⟩
  ·exact .inl h0
  ·exact .inr ⟨g,cap,cur,h1,aD9 hbase h2,h3⟩
 have ho2:=aF ho hs fun g e=>(hn g e).2.1;refine⟨⟨hs.row hw.rK hw.ne.1,KD hw.os hx v true,aF hw.ow hs (fun g e=>(hw.ne.2 g e).2),by rw[List.length_set];exact h.len,N7 h.ok u (h.ok x (aC3 hx)),hw.ne,h.bs,fun u2 y hy ha => ?_⟩,((Same.below hO.2).trans hs).mono (fun k _ e=>e.elim False.elim id),(((hO.2.mono hbase).setCell (p:=⟨gs,u*10+8,none⟩) h.bs.2 v).setCell (p:=⟨gs,u*10+9,none⟩) h.bs.2 (.bool true)),ho2,hn⟩;by_cases e:u=u2
 ·subst e;rw[aE5 (aC4.1 hx).1]at hy;injection hy with hy;subst hy;exact⟨ho2,hn⟩
 ·rw[aF4 e]at hy;have:=hw.ed u2 y hy ha;exact⟨aF this.1 hs (fun g e=>(this.2 g e).2.1),this.2⟩
theorem QS(w0:World)(base K Gp X n gs:Nat)(wv:Value)(l:List Wst)(wait:List Nat)(u:Nat)(x:Wst)(hx:l[u]?=some x)(w:World)(h:lL outs w base K Gp X n gs wv l wait)(HOut:aBf outs w0 Gp n)(b8:Below w0.heap.size w0 w):
 Calls Tryz.prog 139 #[.pointer (some ⟨K,0,none⟩),.int .i64 (u:Int)] w (aAn outs w base K Gp X n gs wv l wait u x):=by
 have hu:u<n:=by rw[<-h.len];exact(aC4.1 hx).1
 have cB:=h.lt;have cF:=h.bs;have huI:(u:Int)<(n:Int):=by omega
 obtain⟨⟨k0,k1,k2,k3⟩,_⟩:=dO h.rK;obtain⟨_,_,_,_,_,_,_,_,f8,f9⟩:=dV l u _ hx;have e8:=(h.os.cellAt (u*10+8) (by omega)).trans f8;have e9:=(h.os.cellAt (u*10+9) (by omega)).trans f9;obtain⟨xs,xf,ev,b3⟩:=x;simp only at e8 e9;have HO:Hid (Calls Tryz.prog 15 #[.pointer (some ⟨Gp,0,none⟩),.int .i64 (u:Int)] w _):=HOut w b8 u hu;have HH:Hid _:=h;have HX:Hid _:=hx;clear f8 f9 h hx HOut;cases b3;case true =>
  go_enter Tryz.func139,Tryz.ntmps139
  go_wp2;go_ret;have:=HH.out.ed u _ HX.out rfl;exact⟨ev,l,rfl,HH.out,.inl rfl,(Same.below (YQ _ _)).mono (fun _ _ e=>e.elim),YQ _ _,this.1,this.2⟩
 case false =>
  go_enter Tryz.func139,Tryz.ntmps139
  go_wp2_with fail
  refine HO.out.mono ?_;rintro e w1 ⟨v,rfl,hO⟩;have hed:=HH.out.edges HX.out v hO (by omega);have cT:=HH.out.below hO.2;have z8:=cT.os.frozenAt (u*10+8);have z9':=cT.os.frozenAt (u*10+9);have d8:=cell_kept hO.2 _ _ e8;have d9:=cell_kept hO.2 _ _ e9;obtain⟨a0,len,cap,hv⟩:∃ a0 len cap,v = .slice a0 len cap:=by
   rcases hO.1.2 with ⟨h0,_⟩ | ⟨g,cap,cur,h1,_⟩
   ·exact⟨_,_,_,h0⟩
   ·exact⟨_,_,_,h1⟩
  subst hv;have cC:Hid (_/\_/\_/\_/\_):=hed;clear hed cT hO e8 e9;go_wp2;go_ret;exact⟨_,_,rfl,cC.out.1,.inr rfl,cC.out.2.1,cC.out.2.2.1,cC.out.2.2.2.1,cC.out.2.2.2.2⟩
end Go.Proofs.YtphjbbbnbmafnaaGreatDoor.G
