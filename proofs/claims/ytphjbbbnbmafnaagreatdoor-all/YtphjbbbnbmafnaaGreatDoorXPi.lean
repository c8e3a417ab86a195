/- Parts: XNp XPc XPi. -/
import Derived.Test.YtphjbbbnbmafnaaGreatDoorXJn
import Derived.Deep.CutRange
import Derived.Deep.DeepCutAuto
set_option maxHeartbeats 16000000
set_option maxRecDepth 100000
namespace Go.Proofs.YtphjbbbnbmafnaaGreatDoor.G
open Go.RowKit Go.Shelf RxM
variable {cb g gb n:Nat} {w w2:World}
attribute [local go_sem] Oper.semAt_some
theorem qM{id:Nat}{P:Program}{l:List Oper}{st:Oper}{Q:Exit->Act->World->Prop}{a:Act}(hst:l.getLast?=some st)(hm:P.follows .mixedOrders=true)(hB:Region.lexB .any l.dropLast.toArray=true)(hok:DD .any l.dropLast st=true)
 (h:wpQuietIn Fence.wide n P l.dropLast.toArray (fun w'=>∃ u,w'=ext w u) (fun a'=>∀ w',(∃ u,w'=ext w u)->st.wpIn Fence.wide n P a' w' (fun a w=>Q .normal a w) Q) l.dropLast a):(Code.region id l.toArray true).wp P Q a w:=by
 have hl:l.toArray=l.dropLast.toArray.push st:=by
  have:l=l.dropLast++[st]:=by
   obtain⟨ys,rfl⟩:=List.getLast?_eq_some_iff.1 hst;simp
  conv=>lhs;rw[this]
  simp
 rw[hl];exact wpIn_wide.1 (wpIn_region_any hm (uN (C:=fun w'=>∃ u,w'=ext w u) rfl hB hok ⟨w.drew,aN ((YQ _ _).drew)⟩ h))
theorem Tryz.infoSt:(Tryz.prog.info? 135).map (fun i=>(i.zero,i.size,i.bytes))=some (some (.agg #[.int .u64 0,.int .u64 0,.int .u64 0,.int .u64 0]),4,32):=by kernel_rfl
theorem L8(ss:List S4)(s:S4):lM (ss++[s])=lM ss++(v4 s).toList:=by unfold lM;simp
theorem qL(hg:(g=gb/\w.grownBy w2 (some g))\/(g=w.heap.size/\w.grownBy w2 none)):Same w w2 (fun k=>k=gb):=by
 rcases hg with ⟨rfl,hg⟩ | ⟨_,hg⟩
 ·exact(Same.grown hg).mono fun k _ e=>by injection e with e;exact e.symm
 ·exact(Same.grown hg).mono fun k _ e=>by cases e
theorem MJ{l:Nat}(h:((Value.slice (some ⟨gb,0,none⟩) l cb).ownBlock=some g/\w.grownBy w2 (some g))\/(g=w.heap.size/\w.grownBy w2 none)):(g=gb/\w.grownBy w2 (some g))\/(g=w.heap.size/\w.grownBy w2 none) :=
 h.imp (fun⟨h1,h2⟩=>⟨by simp only[Value.ownBlock,aC5]at h1;exact h1.symm,h2⟩) id
theorem Rdr.push{base R X:Nat}{s:ByteArray}{uc:Bool}{gt ct:Nat}{ss ts:List S4}(h:Rdr w base R X s n uc gb cb gt ct ss ts)(aE:ss.length+1+s.size<=201)(g cap:Nat)
 (b6:w2.ownsRow base 135 4 (.slice (some ⟨g,0,none⟩) (ss.length+1) cap) (ss.length+1) (lM ss++[.int .u64 0,.int .u64 0,.int .u64 0,.int .u64 0])) (hg:(g=gb/\w.grownBy w2 (some g))\/(g=w.heap.size/\w.grownBy w2 none)) :
 Rdr (w2.setCell ⟨X,0,none⟩ (.slice (some ⟨g,0,none⟩) (ss.length+1) cap)) base R X s n uc g cap gt ct (ss++[z4]) ts/\Same w (w2.setCell ⟨X,0,none⟩ (.slice (some ⟨g,0,none⟩) (ss.length+1) cap)) (fun k=>k=X\/k=gb)/\Below base w (w2.setCell ⟨X,0,none⟩ (.slice (some ⟨g,0,none⟩) (ss.length+1) cap)):=by
 have hl:=h.lt;have b3:=h.bs;have hne:=h.ne;have cF:=qL hg;have cW:=Same.set w2 ⟨X,0,none⟩ (.slice (some ⟨g,0,none⟩) (ss.length+1) cap);have hgn:g=gb\/w.heap.size<=g:=by rcases hg with ⟨e,_⟩ | ⟨e,_⟩ <;> omega
 have hb1:Below base w w2:=by
  rcases hg with ⟨e,hg⟩ | ⟨_,hg⟩
  ·exact(YQ base w).grown hg (by omega) (fun k e2=>by injection e2 with e2;omega)
  ·exact(YQ base w).grown hg (by omega) (fun k e2=>by cases e2)
 have hb2:Below base w (w2.setCell ⟨X,0,none⟩ (.slice (some ⟨g,0,none⟩) (ss.length+1) cap)):=hb1.setCell (p:=⟨X,0,none⟩) b3.2.2.1 _;have e8:=cF.1;refine⟨⟨?_,?_,?_,?_,?_,h.okt,h.tz.base hb2 b3.1,h.tl,by omega,by omega,by simp;omega,h.n26⟩,(cF.trans cW).mono fun k _ e=>e.elim .inr .inl,hb2⟩
 ·exact aK w2 X 0 R _ (cF.row h.rR (by omega)) hne.1
 ·have:=aH w2 X 0 _ _ _ (.slice (some ⟨g,0,none⟩) (ss.length+1) cap) (cF.row h.rX (by omega));rw[WT,aF6];exact this
 ·unfold eG;rw[WT,aF6,L8];exact aF b6 cW (fun k e=>by simp only[Value.ownBlock,aC5]at e;simp only;omega)
 ·refine aF (aF h.ot cF fun k e => ?_) cW fun k e => ?_
  ·simp only[Value.ownBlock,aC5]at e;omega
  ·simp only[Value.ownBlock,aC5]at e;simp only;omega
 ·intro x hx;rcases aC9.1 hx with hx | hx
  ·exact h.okb x hx
  ·rw[aF8]at hx;subst hx;exact eX
def aAQ(w w':World)(base R X:Nat)(s:ByteArray)(n:Nat)(uc:Bool)(gb gt ct:Nat)(ss ts:List S4):Prop:=∃ g cap,(g=gb\/w.heap.size<=g)/\Rdr w' base R X s n uc g cap gt ct ss ts
theorem rF(base R X:Nat)(s:ByteArray)(n:Nat)(uc:Bool)(gb cb gt ct:Nat)(ss ts:List S4)(fr to_:Nat)(hft:fr<=to_)(htn:to_<=n)(w:World)(h:Rdr w base R X s n uc gb cb gt ct ss ts)(aE:ss.length+1+s.size<=201):
 Calls Tryz.prog 196 #[.pointer (some ⟨R,0,none⟩),.agg #[.int .i64 (fr:Int),.int .i64 (to_:Int)]] w fun e w'=>e = .returned (vp (gY ss.length,gY ss.length,false))/\aAQ w w' base R X s n uc gb gt ct (ss++[z4]) (aS (gY ss.length) ts (List.range' fr (to_-fr)))/\Same w w' (fun k=>k=X\/k=gb\/k=gt)/\Below base w w':=by
 have hl:=h.lt;have b3:=h.bs;have hk:ss.length<256:=by omega
 have hto:to_<=26:=by have:=h.n26;omega
 obtain⟨W0,a6⟩:∃ W0,W0=(w.alloc (.cells #[.int .i64 (fr:Int),.int .i64 (to_:Int)] 40)).alloc (.cells z9 139):=⟨_,rfl⟩;have hJ:Below w.heap.size w W0:=by rw[a6];exact xal (aA _ _)
 have hs0:W0.heap.size=w.heap.size+1+1:=by rw[a6];simp
 have r0:W0.heap[w.heap.size]?=some (.cells #[.int .i64 (fr:Int),.int .i64 (to_:Int)] 40 (0,0)):=by rw[a6];exact aB (aA _ _) (heap_alloc_new w _)
 have r1:W0.heap[w.heap.size+1]?=some (.cells z9 139 (0,0)):=by
  rw[a6];have:=heap_alloc_new (w.alloc (.cells #[.int .i64 (fr:Int),.int .i64 (to_:Int)] 40)) (.cells z9 139);rwa [aD1]at this
 have b9:=h.below hJ;have cV:=oC ss.length hk W0;obtain⟨z,hz⟩:∃ z,gY ss.length=z:=⟨_,rfl⟩;have aG:ok4 z:=hz ▸ oI _;rw[hz]at cV ⊢;have HZ:Hid (gY ss.length=z):=hz;clear hz;obtain⟨o0,o1,o2,o3⟩:=z;simp only[v4,vp]at cV ⊢;have dT:Hid (Calls Tryz.prog 75 #[.int .i64 (ss.length:Int)] W0 _):=cV;clear cV;obtain⟨⟨c0,c1,c2,c3⟩,⟨x0,x1⟩,⟨y0,y3⟩,xf⟩:=b9.cells;have b2:Hid _:=b9;have HJ:Hid _:=hJ;have HR:Hid (_/\_):=⟨r0,r1⟩;obtain⟨i1,hi1,hz0,hz1,cX⟩:=info_parts Tryz.infoSt;clear b9 hJ h r0 r1;go_enter Tryz.func196,Tryz.ntmps196
 go_upto_region 1 with fail
 rw[<-a6];have HW0:Hid _:=a6;clear a6;go_wp2_with fail
 refine dT.out.mono ?_;rintro e1 w1 ⟨rfl,a4⟩;have cF:=a4.size;have cM:=b2.out.below a4;obtain⟨W2,cB⟩:∃ W2,W2=w1.alloc (.cells #[.int .u64 (o0:Int),.int .u64 (o1:Int),.int .u64 (o2:Int),.int .u64 (o3:Int)] 135):=⟨_,rfl⟩;have cJ:Below w1.heap.size w1 W2:=by rw[cB];exact aA _ _
 have cW:w1.heap.size<W2.heap.size:=by rw[cB];simp
 have a5:=cM.below cJ;have k0:=aB cJ (aB a4 HR.out.1);have k1:=aB cJ (aB a4 HR.out.2);have k2:W2.heap[w1.heap.size]?=some (.cells #[.int .u64 (o0:Int),.int .u64 (o1:Int),.int .u64 (o2:Int),.int .u64 (o3:Int)] 135 (0,0)):=by rw[cB];exact heap_alloc_new w1 _
 have hBw:Below w.heap.size w W2:=chain (chain HJ.out a4) cJ;have HK:Hid (_/\_/\_/\_/\_):=⟨a5,hBw,k0,k1,k2⟩;clear c0 c1 c2 c3 x0 x1 y0 y3 xf;obtain⟨⟨c0,c1,c2,c3⟩,⟨x0,x1⟩,⟨y0,y3⟩,xf⟩:=a5.cells;have a2:=fun o=>cell_kept (aA W2 o) _ _ c2;have a0:=fun o=>cell_kept (aA W2 o) _ _ x0;clear a4 cM cJ a5 k0 k1 k2 hBw;go_upto_region 2 with fail
 rw[<-cB];have HW2:Hid _:=cB;clear cB;go_cut [] (fun wx=>∃ g cap,Hid ((g=gb\/w1.heap.size<g)/\Rdr wx base R X s n uc g cap gt ct (ss++[z4]) ts/\Same w wx (fun k=>k=X\/k=gb)/\Below base w wx/\wx.heap[w.heap.size]?=some (.cells #[.int .i64 (fr:Int),.int .i64 (to_:Int)] 40 (0,0))/\wx.heap[w.heap.size+1]?=some (.cells z9 139 (0,0))/\wx.heap[w1.heap.size]?=some (.cells #[.int .u64 (o0:Int),.int .u64 (o1:Int),.int .u64 (o2:Int),.int .u64 (o3:Int)] 135 (0,0))))
 case first =>
  go_region_law (refine bI _ (by rfl) _ _ _ (by rfl) base 135 i1 _ 4 32 Tryz.underlying132 hi1 hz0 hz1 cX rfl (by omega) (.slice (some ⟨gb,0,none⟩) ss.length cb) ss.length (lM ss) (by rfl) (World.ownsRow.drew (World.ownsRow.alloc HK.out.1.ob _)) ⟨W2.heap.size,0,none⟩ 1 1 [.int .u64 0,.int .u64 0,.int .u64 0,.int .u64 0] (by rfl) (by rfl) (aG4 (cs:=#[.int .u64 0,.int .u64 0,.int .u64 0,.int .u64 0]) (t:=135) (fr:=(0,0)) (heap_alloc_new W2 _)) (by simp[Value.oneCell']) (by omega) (by unfold maxLen;omega) (by omega) (by simp;omega) ?_;intro g5 cap5 w5 hown5 hg5;have cQ:=MJ hg5;have cA:=HK.out.1.below ((aA W2 (.cells #[.int .u64 0,.int .u64 0,.int .u64 0,.int .u64 0] 135)).drew);have p1:=(qL cQ).row cA.rR cA.ne.2.1;have p2:=(qL cQ).row cA.rX cA.ne.2.2.1;have m2:w5.cell? ⟨R,2,none⟩=some (.pointer (some ⟨X,0,none⟩)):=(by rw[cell_of_row _ _ 2 _ _ _ p1];rfl);have m0:w5.cell? ⟨X,0,none⟩=some (.slice (some ⟨gb,0,none⟩) ss.length cb):=(by rw[cell_of_row _ _ 0 _ _ _ p2];rfl);have mf:=frozen_of_row w5 X 0 _ _ p2;clear p1 p2 hg5)
  all_goals
   have hp:=cA.push aE g5 cap5 hown5 cQ;have bX:=(aA W2 (.cells #[.int .u64 0,.int .u64 0,.int .u64 0,.int .u64 0] 135)).drew;have cR:g5=gb\/w1.heap.size<g5:=by
    rcases cQ with ⟨e,_⟩ | ⟨e,_⟩
    ·exact .inl e
    ·refine .inr ?_;have:=bX.size;omega
   have HF:Hid (_/\_/\_/\_/\_/\_/\_):=⟨cR,hp.1,(((Same.below HK.out.2.1).trans (Same.below bX)).trans hp.2.1).mono (T:=fun k=>k=X\/k=gb) (fun k _ e=>by rcases e with (e | e) | e;exact e.elim;exact e.elim;exact e),((HK.out.2.1.mono (by omega)).trans (bX.mono (by omega))).trans hp.2.2,hp.2.1.row (aB bX HK.out.2.2.1) (by omega),hp.2.1.row (aB bX HK.out.2.2.2.1) (by omega),hp.2.1.row (aB bX HK.out.2.2.2.2) (by omega)⟩;clear hp bX cR cQ hown5 cA m0 m2 mf a0 a2;go_wp2_with fail
   go_meet;case rel=>exact⟨_,_,HF.out⟩
 case rest =>
  obtain⟨g,cap,HC⟩:=hcut;have aL:Hid (_/\_/\_/\_/\_/\_/\_):=HC.out;clear HC c0 c1 c2 c3 x0 x1 y0 y3 xf a0 a2;have b0:wc.cell? ⟨w.heap.size,0,none⟩=some (.int .i64 (fr:Int)):=by rw[cell_of_row _ _ 0 _ _ _ aL.out.2.2.2.2.1];rfl
  go_wp2;go_loopw [6] (fun si wr=>∃ i:Nat,fr+i<=to_/\si = .int .i64 ((fr+i:Nat):Int)/\Hid (Rdr wr base R X s n uc g cap gt ct (ss++[z4]) (aS (o0,o1,o2,o3) ts (List.range' fr i))/\Same w wr (fun k=>k=X\/k=gb\/k=gt)/\Below base w wr/\wr.heap[w.heap.size]?=some (.cells #[.int .i64 (fr:Int),.int .i64 (to_:Int)] 40 (0,0))/\wr.heap[w.heap.size+1]?=some (.cells z9 139 (0,0))/\wr.heap[w1.heap.size]?=some (.cells #[.int .u64 (o0:Int),.int .u64 (o1:Int),.int .u64 (o2:Int),.int .u64 (o3:Int)] 135 (0,0)))) (fun si _=>to_-(intOf si).toNat)
  case atStart=>exact⟨0,by omega,by simp,aL.out.2.1,aL.out.2.2.1.mono (fun k _ e=>e.elim .inl (fun e=>.inr (.inl e))),aL.out.2.2.2.1,aL.out.2.2.2.2⟩
  case round =>
   obtain⟨i,hi,rfl,HI⟩:=hrel;have b1:wr.cell? ⟨w.heap.size,1,none⟩=some (.int .i64 (to_:Int)):=by rw[cell_of_row _ _ 1 _ _ _ HI.out.2.2.2.1];rfl
   have hgg:=aL.out.1;have HG:Hid _:=hgg;clear hgg;by_cases hlt:fr+i<to_
   ·have hI:((fr+i:Nat):Int)<(to_:Int):=by omega
    have a7:=HI.out.1;have e6:=aV (o0,o1,o2,o3) ts (List.range' fr i);have hsn:aS (o0,o1,o2,o3) ts (List.range' fr (i+1))=(aS (o0,o1,o2,o3) ts (List.range' fr i)).set (fr+i) (or4 ((aS (o0,o1,o2,o3) ts (List.range' fr i)).getD (fr+i) (0,0,0,0)) (o0,o1,o2,o3)):=by rw[<-rG,List.range'_concat,Nat.one_mul]
    have hnn:=a7.tl;have HSn:Hid _:=hsn;clear hsn;generalize aS (o0,o1,o2,o3) ts (List.range' fr i)=cu at a7 HSn e6 hnn;obtain⟨q,hq⟩:∃ q,cu[fr+i]?=some q:=⟨_,A7 (by omega)⟩;have hqd:cu.getD (fr+i) (0,0,0,0)=q:=by rw[aC1,hq];rfl
    have a9:=a7.okt q (aC3 hq);obtain⟨q0,q1,q2,q3⟩:=q;have hx4:(fr+i)*4+3<cu.length*4:=by omega
    obtain⟨f0,f1,f2,f3⟩:=zS cu (fr+i) _ hq;have e0:=(a7.ot.cellAt ((fr+i)*4) (by omega)).trans f0;have e1:=(a7.ot.cellAt ((fr+i)*4+1) (by omega)).trans f1;have e2:=(a7.ot.cellAt ((fr+i)*4+2) (by omega)).trans f2;have e3:=(a7.ot.cellAt ((fr+i)*4+3) (by omega)).trans f3;simp only at e0 e1 e2 e3;have e5:Hid (∀ W,Calls Tryz.prog 134 _ W _):=fun W=>fP q0 q1 q2 q3 o0 o1 o2 o3 a9.1 a9.2.1 a9.2.2.1 a9.2.2.2 aG.1 aG.2.1 aG.2.2.1 aG.2.2.2 W;obtain⟨⟨c0,c1,c2,c3⟩,_⟩:=dO HI.out.2.2.2.2.2;obtain⟨⟨_,_,p2,_⟩,⟨_,p1⟩,_⟩:=a7.cells;have hcI:((fr+i:Nat):Int)<(cu.length:Int):=by omega
    have u2:=fun u=>aC p2 u;have u1:=fun u=>aC p1 u;have y0:=fun u=>aC e0 u;have y1:=fun u=>aC e1 u;have y2:=fun u=>aC e2 u;have y3:=fun u=>aC e3 u;have d0:=fun u=>aC c0 u;have d1:=fun u=>aC c1 u;have d2:=fun u=>aC c2 u;have d3:=fun u=>aC c3 u;have HRd:Hid _:=a7;have HQ:Hid _:=aC3 hq;clear a7 p2 p1 e0 e1 e2 e3 c0 c1 c2 c3 f0 f1 f2 f3 a9 hq;go_upto_region 6 with fail
    refine qM (n:=9) rfl (by kernel_rfl) (by kernel_rfl) (by kernel_rfl) ?_;simp only[List.dropLast];repeat (gi_big_quiet_step (fail))
    refine wpQuietIn_step (by intros;intro;intros;trivial) (fun K hK => ?_);rw[if_pos (show Region.wanted _ _=true from rfl)];gi_big_quiet_op;apply Exists.intro;refine⟨fun u => ?_,?_⟩
    ·first
      | (refine⟨fun h=>by cases h,(callsIn_wide.2 (e5.out _)).mono ?_⟩;rintro r w1 ⟨rfl,hB⟩;exact⟨rfl,w1,aN (chain (aD _ _) hB)⟩)
      | (refine⟨trivial,(callsIn_wide.2 (e5.out _)).mono ?_⟩;rintro r w1 ⟨rfl,hB⟩;exact⟨rfl,w1,aN (chain (aD _ _) hB)⟩)
      | (refine(callsIn_wide.2 (e5.out _)).mono ?_;rintro r w1 ⟨rfl,hB⟩;exact⟨rfl,w1,aN (chain (aD _ _) hB)⟩)
    refine hK _ ?_;clear hK K;repeat (gi_big_quiet_step (fail))
    refine wpQuietIn_nil ?_;rintro wx ⟨u,rfl⟩;have a4:=aD wr u;have bW:=HRd.out.below a4;have z0:=bW.ot.frozenAt ((fr+i)*4);have z1:=bW.ot.frozenAt ((fr+i)*4+1);have z2:=bW.ot.frozenAt ((fr+i)*4+2);have z3:=bW.ot.frozenAt ((fr+i)*4+3);have cP:fr+i<cu.length:=by omega
    have b6:=own4 bW.ot cP (or4 (q0,q1,q2,q3) (o0,o1,o2,o3));have a3:=sP (ext wr u) gt ((fr+i)*4) ((fr+i)*4+1) ((fr+i)*4+2) ((fr+i)*4+3) (.int .u64 ((q0 ||| o0:Nat):Int)) (.int .u64 ((q1 ||| o1:Nat):Int)) (.int .u64 ((q2 ||| o2:Nat):Int)) (.int .u64 ((q3 ||| o3:Nat):Int));have cD:=kC (YQ base (ext wr u)) (g:=gt) b3.2.2.2.2 ((fr+i)*4) ((fr+i)*4+1) ((fr+i)*4+2) ((fr+i)*4+3) (.int .u64 ((q0 ||| o0:Nat):Int)) (.int .u64 ((q1 ||| o1:Nat):Int)) (.int .u64 ((q2 ||| o2:Nat):Int)) (.int .u64 ((q3 ||| o3:Nat):Int));have c7:=bW.taken a3 cD b6 (vC bW.okt (fr+i) (jT (HRd.out.okt _ HQ.out) aG)) (by simp);rw[show cu.set (fr+i) (or4 (q0,q1,q2,q3) (o0,o1,o2,o3))=aS (o0,o1,o2,o3) ts (List.range' fr (i+1)) by rw[HSn.out,hqd]]at c7;have c8:=HI.out;have hwb:w.heap.size<=wr.heap.size:=c8.2.1.1;have HN:Hid (_/\_/\_/\_/\_/\_):=⟨c7,((c8.2.1.trans (Same.below a4)).trans a3).mono (T:=fun k=>k=X\/k=gb\/k=gt) (fun k _ e=>by rcases e with (e | e) | e;exact e;exact e.elim;exact .inr (.inr e)),(c8.2.2.1.trans (a4.mono (by omega))).trans cD,a3.row (aB a4 c8.2.2.2.1) (by omega),a3.row (aB a4 c8.2.2.2.2.1) (by omega),a3.row (aB a4 c8.2.2.2.2.2) (by omega)⟩;clear a4 bW b6 a3 cD c7 c8;simp only[List.getLast];refine⟨by intros;trivial,?_⟩;go_simp;clear z0 z1 z2 z3 u2 u1 y0 y1 y2 y3 d0 d1 d2 d3;go_wp2;go_roundw;case rel=>exact⟨i+1,by omega,by go_num,HN.out⟩
    case measure=>simp[intOf];omega
   ·obtain⟨⟨c0,c1,c2,c3⟩,_⟩:=dO HI.out.2.2.2.2.2;obtain⟨_,t0,t1,t2,t3,t4,t5,t6,t7,t8⟩:=gI HI.out.2.2.2.2.1;have hI:¬((fr+i:Nat):Int)<(to_:Int):=by omega
    go_wp2;have a1:=fH (YQ w.heap.size wr) (B:=w.heap.size+1) (by omega) (.int .u64 (o0:Int)) (.int .u64 (o1:Int)) (.int .u64 (o2:Int)) (.int .u64 (o3:Int)) (.int .u64 (o0:Int)) (.int .u64 (o1:Int)) (.int .u64 (o2:Int)) (.int .u64 (o3:Int)) (.bool false);have b7:=rQ wr (w.heap.size+1) (.int .u64 (o0:Int)) (.int .u64 (o1:Int)) (.int .u64 (o2:Int)) (.int .u64 (o3:Int)) (.int .u64 (o0:Int)) (.int .u64 (o1:Int)) (.int .u64 (o2:Int)) (.int .u64 (o3:Int)) (.bool false);have hi2:i=to_-fr:=by omega
    have a7:=HI.out.1;rw[hi2]at a7;refine bodyPost_ret (results_cell_row rfl _ _ (w.heap.size+1) _ _ (0,0) _ rfl (CV HI.out.2.2.2.2.1 _ _ _ _ _ _ _ _ _) rfl rfl rfl) rfl ⟨rfl,⟨g,cap,by have:=HG.out;omega,a7.same b7 (a1.mono (by omega)) (fun k hk e=>by have:=HG.out;rcases hk with hk | hk | hk | hk <;> omega)⟩,HI.out.2.1.kept a1,HI.out.2.2.1.trans (a1.mono (by omega))⟩
end Go.Proofs.YtphjbbbnbmafnaaGreatDoor.G
namespace Go.Proofs.YtphjbbbnbmafnaaGreatDoor.G
open Go.RowKit Go.Shelf RxM
variable {w w1:World} {R X c gb gt n:Nat} {q s:List Nat} {f:Fr} {ss ts:List S4}
def After(w w':World)(base R X n gb gt ct:Nat)(ss ts:List S4)(s2:ByteArray)(uc2:Bool)(t:Rx)(P:P4):Prop :=
 ∃ ss2 ts2,aAQ w w' base R X s2 n uc2 gb gt ct ss2 ts2/\Laid t ss ts ss2 ts2/\dJ P t ss.length/\Same w w' (Four R X gb gt)/\Below base w w'
def sV(n:Nat)(q:List Nat)(t:Rx):Prop:=∀ q0 r p,eZ n q0 r p->eZ n (q0++q) (ab r p) (some t)
def o7(n:Nat)(s:List Nat):Prop:=∀ q0 r p,eZ n q0 r p->iX n (q0++s)
def PO(n:Nat)(s:List Nat):Prop:=∀ c l,s=c::l->c≠40/\c≠46/\¬(97<=c/\c<97+n)
def O7(base R X n:Nat)(s:ByteArray)(uc:Bool)(gb gt ct:Nat)(ss ts:List S4)(w:World)(e:Ending)(w':World):Prop :=
 (e = .returned (.tuple #[vp (z4,z4,false),.bool false])/\Below w.heap.size w w'/\PO n (codes s)) \/
 (∃ P t s2 uc2,e = .returned (.tuple #[vp P,.bool true])/\After w w' base R X n gb gt ct ss ts s2 uc2 t P/\s2.size<s.size/\((uc2=uc/\∃ q,codes s=q++codes s2/\sV n q t)\/(uc2=true/\o7 n (codes s))))
def X9(base R X n:Nat)(s:ByteArray)(uc:Bool)(gb gt ct:Nat)(ss ts:List S4)(w:World)(e:Ending)(w':World):Prop :=
 ∃ P t s2 uc2,e = .returned (vp P)/\After w w' base R X n gb gt ct ss ts s2 uc2 t P/\s2.size<=s.size/\((uc2=uc/\∃ q r p,codes s=q++codes s2/\eZ n q r p/\t=ab r p/\RZ n (codes s2) p)\/(uc2=true/\iX n (codes s)))
def NZ(base R X n:Nat)(s:ByteArray)(uc:Bool)(gb gt ct:Nat)(ss ts:List S4)(w:World)(e:Ending)(w':World):Prop :=
 ∃ P t s2 uc2,e = .returned (vp P)/\After w w' base R X n gb gt ct ss ts s2 uc2 t P/\s2.size<=s.size/\((uc2=uc/\∃ q f,codes s=q++codes s2/\oW n q f/\t=fin f/\Stop n (codes s2) f.2.2)\/(uc2=true/\nY n (codes s)))
def ChoC(N:Nat):Prop:=∀ base R X s n uc gb cb gt ct ss ts w,s.size<N->Rdr w base R X s n uc gb cb gt ct ss ts->Calls Tryz.prog 74 #[.pointer (some ⟨R,0,none⟩)] w (NZ base R X n s uc gb gt ct ss ts w)
def PieC(N:Nat):Prop:=∀ base R X s n uc gb cb gt ct ss ts w,s.size<N->Rdr w base R X s n uc gb cb gt ct ss ts->Calls Tryz.prog 178 #[.pointer (some ⟨R,0,none⟩)] w (O7 base R X n s uc gb gt ct ss ts w)
def RowC(N:Nat):Prop:=∀ base R X s n uc gb cb gt ct ss ts w,s.size<N->Rdr w base R X s n uc gb cb gt ct ss ts->Calls Tryz.prog 132 #[.pointer (some ⟨R,0,none⟩)] w (X9 base R X n s uc gb gt ct ss ts w)
theorem aP{w2:World}{g:Nat}(h:Same w w1 (Four R X gb gt))(h2:Same w1 w2 (Four R X g gt))(hg:g=gb\/w.heap.size<=g):Same w w2 (Four R X gb gt) :=
 (h.trans h2).mono fun k hk e=>by
  rcases e with e | e | e | e | e
  ·exact e
  ·exact .inl e
  ·exact .inr (.inl e)
  ·rcases hg with hg | hg
   ·exact .inr (.inr (.inl (e.trans hg)))
   ·omega
  ·exact .inr (.inr (.inr e))
theorem kT(w:World){i:Nat}(v:Value):Same w (w.setCell ⟨R,i,none⟩ v) (Four R X gb gt):=(Same.set w ⟨R,i,none⟩ v).mono fun _ _ e=>.inl e
theorem bT(h:Below w.heap.size w w1):Same w w1 (Four R X gb gt):=(Same.below h).mono fun _ _ e=>e.elim
theorem FR(n:Nat):sV n [46] (.sym none):=fun _ _ _ h=>h.point
theorem BF(hc:c<n)(hn:n<=26):sV n [97+c] (.sym (some c)):=fun _ _ _ h=>h.letter hc hn
theorem yA(h:oW n q f):sV n (40::(q++[41])) (fin f):=fun _ _ _ h0=>h0.bracket h
theorem JE(h:nY n s):o7 n (40::s):=fun _ _ _ h0=>M9 h0 h
theorem K5(h:oW n q f)(hs:Stop n s f.2.2)(hn:∀ s2,s≠41::s2):o7 n (40::(q++s)):=fun _ _ _ h0=>BD h0 h hs hn
theorem BA{a b:Nat}(hab:a<=b):c∈List.range' a (b-a)↔a<=c/\c<b:=by rw[List.mem_range'_1];omega
theorem K6(hk:ss.length<256)(ht:ts.length=n):Laid (.sym none) ss ts (ss++[z4]) (aS (gY ss.length) ts (List.range' 0 (n-0))) :=
 JJ none ss ts _ (aV _ _ _) fun c q hc=>by
  rw[iY _ _ _ _ _ hc,jM hk,decide_eq_true ((BA (aC6 n)).2 ⟨aC6 c,by omega⟩)];simp[takes]
theorem EG{l:Nat}(hk:ss.length<256):Laid (.sym (some l)) ss ts (ss++[z4]) (aS (gY ss.length) ts (List.range' l (l+1-l))) :=
 JJ (some l) ss ts _ (aV _ _ _) fun c q hc=>by
  rw[iY _ _ _ _ _ hc,jM hk];congr 1;have:decide (c∈List.range' l (l+1-l))=(l == c):=by
   rw[aI5,decide_eq_true_eq,BA (by omega),beq_iff_eq];omega
  rw[this,Bool.and_comm];rfl
theorem PK(u:Nat)(hu:u<=26)(w:World):Calls Tryz.prog 35 #[.int .i64 (u:Int)] w fun e w'=>e = .returned (.agg #[.int .i64 (u:Int),.int .i64 ((u+1:Nat):Int)])/\Below w.heap.size w w':=by
 have h1:wrap64 ((u:Int)+1)=((u+1:Nat):Int):=by unfold wrap64;omega
 go_enter Tryz.func35,Tryz.ntmps35
 go_wp2;refine bodyPost_ret (v:=.agg #[.int .i64 (u:Int),.int .i64 ((u+1:Nat):Int)]) (by simp[results,Tryz.results35,go_sem]) rfl ?_;exact⟨rfl,aA _ _⟩
theorem dA{P:Program}{fn:Func}{p u:Tmp}{ty:TypeId}(h:fn.results=#[.cell p ty,.tmp u])(tmps:Array Value)(w:World)(g:Nat)(t:TypeId)(cs:Array Value)(fr:Nat×Nat)(d:TypeDesc)(v:Value)
 (hp:tmps.getD p undef = .pointer (some ⟨g,0,none⟩)) (hv:tmps.getD u undef=v) (hg:w.heap[g]?=some (.cells cs t fr))
 (hu:P.underlying ty=some d) (hd:(match d with | .struct _ | .array _ _=>true | _=>false)=true) (hi:(P.info? ty).map (·.size)=some cs.size) :
 (results fn tmps).run P w = .ok (.tuple #[.agg cs,v]) w:=by
 have hp':tmps[p]?.getD undef = .pointer (some ⟨g,0,none⟩):=by simpa using hp
 have hv':tmps[u]?.getD undef=v:=by simpa using hv
 simp[results,h,hp',hv',asAddr,run_loadVar_row w g t ty cs fr d hg hu hd hi]
theorem TQ{N:Nat}(IH:ChoC N):PieC (N+1):=by
 intro base R X s n uc gb cb gt ct ss ts w hN h;have hl:=h.lt;have b3:=h.bs;have aE:=h.room;have e7:=h.n26;have htl:=h.tl;obtain⟨W0,a6⟩:∃ W0,W0=w.alloc (.cells z9 139):=⟨_,rfl⟩;have hJ:Below w.heap.size w W0:=by rw[a6];exact aA _ _
 have r0:W0.heap[w.heap.size]?=some (.cells z9 139 (0,0)):=by rw[a6];exact heap_alloc_new w _
 have hs0:w.heap.size<W0.heap.size:=by rw[a6];simp
 have b9:=h.below hJ;have HT:Hid (Calls Tryz.prog 133 #[.pointer (some ⟨R,0,none⟩),.int .u8 40] W0 _):=mO R 40 s W0 b9.cells.1.1 b9.cells.2.2.1.1;have b2:Hid _:=b9;have HJ:Hid _:=hJ;have HH:Hid _:=h;have HI:Hid _:=IH;have cH:Hid _:=r0;clear b9 hJ h IH r0;go_enter Tryz.func178,Tryz.ntmps178
 go_wp2_with fail
 rw[<-a6];have HW0:Hid _:=a6;clear a6;refine HT.out.mono ?_;rintro e w1 (⟨s2,hc,e8,rfl,hw1⟩ | ⟨hc,rfl,hw1⟩)
 ·have cM:Rdr w1 base R X s2 n uc gb cb gt ct ss ts:=by rw[hw1];exact b2.out.rest s2 (by omega)
  have cT:Same W0 w1 (Four R X gb gt):=by rw[hw1];exact kT W0 _
  have a4:Below base W0 w1:=by rw[hw1];exact(YQ base W0).setCell (p:=⟨R,0,none⟩) b3.2.1 _
  have q0:=cT.row cH.out (fun e=>by rcases e with e | e | e | e <;> omega);have hz1:=cT.1;have HA:Hid (_/\_/\_/\_):=⟨cM,aP (bT HJ.out) cT (.inl rfl),(HJ.out.mono (by omega)).trans a4,q0⟩;have cG:Hid _:=hc;clear hw1 cM cT a4 q0 hc;go_wp2_with fail
  refine(HI.out base R X s2 n uc gb cb gt ct ss ts w1 (by omega) HA.out.1).mono ?_;rintro e w2 ⟨P,t,s3,uc3,rfl,⟨ss2,ts2,⟨g,cap,hg,a5⟩,hlaid,hpart,a3,cD⟩,hsz3,hpost⟩;have cX:=a3.1;have q0:=a3.row HA.out.2.2.2 (fun e=>by rcases e with e | e | e | e <;> omega);obtain⟨W3,cC⟩:∃ W3,W3=w2.alloc (.cells (c9 P) 139):=⟨_,rfl⟩;have cL:Below w2.heap.size w2 W3:=by rw[cC];exact aA _ _
  have q1:W3.heap[w2.heap.size]?=some (.cells (c9 P) 139 (0,0)):=by rw[cC];exact heap_alloc_new w2 _
  have a8:=a5.below cL;have cE:g=gb\/w.heap.size<=g:=by omega
  have bS:Same w W3 (Four R X gb gt):=aP (aP HA.out.2.1 a3 (.inl rfl)) (bT (gb:=g) cL) cE;have b8:Below base w W3:=(HA.out.2.2.1.trans cD).trans (cL.mono (by omega));have cS:Hid (Calls Tryz.prog 133 #[.pointer (some ⟨R,0,none⟩),.int .u8 41] W3 _):=mO R 41 s3 W3 a8.cells.1.1 a8.cells.2.2.1.1;have q2:=aB cL q0;have HK:Hid (_/\_/\_/\_/\_/\_/\_/\_):=⟨a8,bS,b8,q1,q2,cE,hlaid,hpart⟩;have HP:Hid _:=hpost;have hz3:w2.heap.size<W3.heap.size:=by rw[cC];simp
  have cR:=a5.lt;clear a5 hlaid hpart a3 cD hpost q0 q1 q2 cL a8 bS b8;obtain⟨⟨f0,f1,f2,f3⟩,⟨l0,l1,l2,l3⟩,e⟩:=P;simp only[vp];go_wp2_with fail
  rw[<-cC];have HW3:Hid _:=cC;clear cC;refine cS.out.mono ?_;rintro e4 w4 (⟨s4,hc4,hsz4,rfl,hw4⟩ | ⟨hc4,rfl,hw4⟩)
  ·have cU:Same W3 w4 (Four R X g gt):=by rw[hw4];exact kT W3 _
   have cN:Rdr w4 base R X s4 n uc3 g cap gt ct ss2 ts2:=by rw[hw4];exact HK.out.1.rest s4 (by omega)
   have b4:Below base W3 w4:=by rw[hw4];exact(YQ base W3).setCell (p:=⟨R,0,none⟩) b3.2.1 _
   have q1:=cU.row HK.out.2.2.2.1 (fun e=>by rcases e with e | e | e | e <;> omega);have q2:=cU.row HK.out.2.2.2.2.1 (fun e=>by rcases e with e | e | e | e <;> omega);have HL:Hid (_/\_/\_/\_):=⟨cN,aP HK.out.2.1 cU HK.out.2.2.2.2.2.1,HK.out.2.2.1.trans b4,q2⟩;obtain⟨⟨d0,d1,d2,d3,d4,d5,d6,d7,d8⟩,_⟩:=gI q1;obtain⟨_,t0,t1,t2,t3,t4,t5,t6,t7,t8⟩:=gI q2;have d9:Hid _:=hc4;clear hw4 cU cN b4 q1 q2 hc4;go_wp2;have a1:=fH (YQ w.heap.size w4) (B:=w.heap.size) (by omega) (.int .u64 (f0:Int)) (.int .u64 (f1:Int)) (.int .u64 (f2:Int)) (.int .u64 (f3:Int)) (.int .u64 (l0:Int)) (.int .u64 (l1:Int)) (.int .u64 (l2:Int)) (.int .u64 (l3:Int)) (.bool e);have b7:=rQ w4 w.heap.size (.int .u64 (f0:Int)) (.int .u64 (f1:Int)) (.int .u64 (f2:Int)) (.int .u64 (f3:Int)) (.int .u64 (l0:Int)) (.int .u64 (l1:Int)) (.int .u64 (l2:Int)) (.int .u64 (l3:Int)) (.bool e);refine bodyPost_ret (dA rfl _ _ w.heap.size _ _ (0,0) _ _ rfl rfl (CV HL.out.2.2.2 _ _ _ _ _ _ _ _ _) rfl rfl rfl) rfl (.inr ⟨((f0,f1,f2,f3),(l0,l1,l2,l3),e),t,s4,uc3,rfl,⟨ss2,ts2,⟨g,cap,HK.out.2.2.2.2.2.1,HL.out.1.same b7 (a1.mono (by omega)) (fun k hk e=>by rcases hk with hk | hk | hk | hk <;> omega)⟩,HK.out.2.2.2.2.2.2.1,HK.out.2.2.2.2.2.2.2,HL.out.2.1.kept a1,HL.out.2.2.1.trans (a1.mono (by omega))⟩,by omega,?_⟩);rcases HP.out with ⟨h1,q,f,h2,h3,h4,_⟩ | ⟨h1,h2⟩
   ·refine .inl ⟨h1,40::(q++[41]),?_,by rw[h4];exact yA h3⟩;rw[cG.out,h2,d9.out];simp
   ·exact .inr ⟨h1,by rw[cG.out];exact JE h2⟩
  ·subst hw4;obtain⟨⟨d0,d1,d2,d3,d4,d5,d6,d7,d8⟩,_⟩:=gI HK.out.2.2.2.1;obtain⟨⟨v0,v1,v2,v3,v4,v5,v6,v7,v8⟩,t0,t1,t2,t3,t4,t5,t6,t7,t8⟩:=gI HK.out.2.2.2.2.1;obtain⟨⟨_,_,_,p3⟩,_,⟨_,pf⟩,_⟩:=HK.out.1.cells;have n1:w2.heap.size≠R:=by omega
   have n2:w.heap.size≠R:=by omega
   have n3:=n1.symm;have n4:=n2.symm;have cN:=HK.out.1.open_;have q2:=aK w4 R 3 w.heap.size (.bool true) HK.out.2.2.2.2.1 n2;have HL:Hid (_/\_/\_/\_):=⟨cN,aP HK.out.2.1 (kT (R:=R) (X:=X) (gb:=g) (gt:=gt) (i:=3) w4 (.bool true)) HK.out.2.2.2.2.2.1,HK.out.2.2.1.trans ((YQ base w4).setCell (p:=⟨R,3,none⟩) b3.2.1 (.bool true)),q2⟩;have d9:Hid _:=hc4;clear cN q2 hc4;go_wp2;have a1:=fH (YQ w.heap.size (w4.setCell ⟨R,3,none⟩ (.bool true))) (B:=w.heap.size) (by omega) (.int .u64 (f0:Int)) (.int .u64 (f1:Int)) (.int .u64 (f2:Int)) (.int .u64 (f3:Int)) (.int .u64 (l0:Int)) (.int .u64 (l1:Int)) (.int .u64 (l2:Int)) (.int .u64 (l3:Int)) (.bool e);have b7:=rQ (w4.setCell ⟨R,3,none⟩ (.bool true)) w.heap.size (.int .u64 (f0:Int)) (.int .u64 (f1:Int)) (.int .u64 (f2:Int)) (.int .u64 (f3:Int)) (.int .u64 (l0:Int)) (.int .u64 (l1:Int)) (.int .u64 (l2:Int)) (.int .u64 (l3:Int)) (.bool e);refine bodyPost_ret (dA rfl _ _ w.heap.size _ _ (0,0) _ _ rfl rfl (CV HL.out.2.2.2 _ _ _ _ _ _ _ _ _) rfl rfl rfl) rfl (.inr ⟨((f0,f1,f2,f3),(l0,l1,l2,l3),e),t,s3,true,rfl,⟨ss2,ts2,⟨g,cap,HK.out.2.2.2.2.2.1,HL.out.1.same b7 (a1.mono (by omega)) (fun k hk e=>by rcases hk with hk | hk | hk | hk <;> omega)⟩,HK.out.2.2.2.2.2.2.1,HK.out.2.2.2.2.2.2.2,HL.out.2.1.kept a1,HL.out.2.2.1.trans (a1.mono (by omega))⟩,by omega,.inr ⟨rfl,?_⟩⟩);rw[cG.out];rcases HP.out with ⟨h1,q,f,h2,h3,h4,h5⟩ | ⟨h1,h2⟩
   ·rw[h2];exact K5 h3 h5 d9.out
   ·exact JE h2
 ·subst hw1;have cS:Hid (Calls Tryz.prog 133 #[.pointer (some ⟨R,0,none⟩),.int .u8 46] w1 _):=mO R 46 s w1 b2.out.cells.1.1 b2.out.cells.2.2.1.1;have cG:Hid _:=hc;clear hc HT;go_wp2_with fail
  refine cS.out.mono ?_;rintro e w2 (⟨s2,hc2,e8,rfl,hw2⟩ | ⟨hc2,rfl,hw2⟩)
  ·have a5:Rdr w2 base R X s2 n uc gb cb gt ct ss ts:=by rw[hw2];exact b2.out.rest s2 (by omega)
   have b5:Same w1 w2 (Four R X gb gt):=by rw[hw2];exact kT w1 _
   have cI:Below base w1 w2:=by rw[hw2];exact(YQ base w1).setCell (p:=⟨R,0,none⟩) b3.2.1 _
   have q0:=b5.row cH.out (fun e=>by rcases e with e | e | e | e <;> omega);have cX:=b5.1;have HA:Hid (_/\_/\_/\_):=⟨a5,aP (bT HJ.out) b5 (.inl rfl),(HJ.out.mono (by omega)).trans cI,q0⟩;have dM:Hid (Calls Tryz.prog 196 #[.pointer (some ⟨R,0,none⟩),.agg #[.int .i64 0,.int .i64 (n:Int)]] w2 _):=rF base R X s2 n uc gb cb gt ct ss ts 0 n (aC6 _) (V7 _) w2 a5 (by omega);have aL:Hid _:=hc2;obtain⟨⟨_,p1,_,_⟩,_⟩:=a5.cells;clear hw2 a5 b5 cI q0 hc2;go_wp2_with fail
   refine dM.out.mono ?_;rintro e w3 ⟨rfl,⟨g,cap,hg,a8⟩,bS,b8⟩;have cE:g=gb\/w.heap.size<=g:=by omega
   have a3:Same w2 w3 (Four R X gb gt):=bS.mono fun k _ e=>.inr e;have q0:=a3.row HA.out.2.2.2 (fun e=>by rcases e with e | e | e | e <;> omega);obtain⟨_,t0,t1,t2,t3,t4,t5,t6,t7,t8⟩:=gI q0;have cR:=a8.lt;have HL:Hid (_/\_/\_/\_):=⟨a8,aP HA.out.2.1 a3 (.inl rfl),HA.out.2.2.1.trans b8,q0⟩;have hgw:g≠w.heap.size:=by omega
   clear a8 bS b8 a3 q0;obtain⟨z,hz⟩:∃ z,gY ss.length=z:=⟨_,rfl⟩;have HZ:Hid (gY ss.length=z):=hz;rw[hz];clear hz;obtain⟨o0,o1,o2,o3⟩:=z;simp only[vp];go_wp2;have a1:=fH (YQ w.heap.size w3) (B:=w.heap.size) (by omega) (.int .u64 (o0:Int)) (.int .u64 (o1:Int)) (.int .u64 (o2:Int)) (.int .u64 (o3:Int)) (.int .u64 (o0:Int)) (.int .u64 (o1:Int)) (.int .u64 (o2:Int)) (.int .u64 (o3:Int)) (.bool false);have b7:=rQ w3 w.heap.size (.int .u64 (o0:Int)) (.int .u64 (o1:Int)) (.int .u64 (o2:Int)) (.int .u64 (o3:Int)) (.int .u64 (o0:Int)) (.int .u64 (o1:Int)) (.int .u64 (o2:Int)) (.int .u64 (o3:Int)) (.bool false);refine bodyPost_ret (dA rfl _ _ w.heap.size _ _ (0,0) _ _ rfl rfl (CV HL.out.2.2.2 _ _ _ _ _ _ _ _ _) rfl rfl rfl) rfl (.inr ⟨(gY ss.length,gY ss.length,false),.sym none,s2,uc,by rw[HZ.out];rfl,⟨_,_,⟨g,cap,cE,HL.out.1.same b7 (a1.mono (by omega)) (fun k hk e=>by rcases hk with hk | hk | hk | hk <;> omega)⟩,K6 (by omega) htl,wE (by omega) none,HL.out.2.1.kept a1,HL.out.2.2.1.trans (a1.mono (by omega))⟩,by omega,.inl ⟨rfl,[46],aL.out,FR n⟩⟩)
  ·subst hw2;have aL:Hid _:=hc2;clear hc2 cS;obtain⟨⟨_,p1,_,_⟩,_⟩:=b2.out.cells;go_wp2;go_loopw [30,5] (fun si s5 wr=>∃ i:Nat,i<=n/\si = .int .i64 (i:Int)/\wr=w2/\Hid (∀ c,c<i->∀ l,codes s≠(97+c)::l)) (fun si _ _=>n-(intOf si).toNat)
   case atStart=>exact⟨0,by omega,rfl,rfl,fun c hc=>by omega⟩
   case round =>
    obtain⟨i,hi,rfl,rfl,HNo⟩:=hrel;by_cases hlt:i<n
    ·have hiI:(i:Int)<(n:Int):=by omega
     have e1:IntKind.u8.wrap (i:Int)=(i:Int):=by rw[IntKind.wrap_u8];omega
     have e2:IntKind.u8.wrap (97+(i:Int))=97+(i:Int):=by rw[IntKind.wrap_u8];omega
     have HT3:Hid (Calls Tryz.prog 133 #[.pointer (some ⟨R,0,none⟩),.int .u8 (97+(i:Int))] wr _):=mO R (97+i) s wr b2.out.cells.1.1 b2.out.cells.2.2.1.1;go_wp2_with fail
     refine HT3.out.mono ?_;rintro e w3 (⟨s2,hc3,e8,rfl,hw3⟩ | ⟨hc3,rfl,hw3⟩)
     ·have a5:Rdr w3 base R X s2 n uc gb cb gt ct ss ts:=by rw[hw3];exact b2.out.rest s2 (by omega)
      have b5:Same wr w3 (Four R X gb gt):=by rw[hw3];exact kT wr _
      have cI:Below base wr w3:=by rw[hw3];exact(YQ base wr).setCell (p:=⟨R,0,none⟩) b3.2.1 _
      have q0:=b5.row cH.out (fun e=>by rcases e with e | e | e | e <;> omega);have cX:=b5.1;have HA:Hid (_/\_/\_/\_):=⟨a5,aP (bT HJ.out) b5 (.inl rfl),(HJ.out.mono (by omega)).trans cI,q0⟩;have HC3:Hid _:=hc3;have dT:Hid (Calls Tryz.prog 35 #[.int .i64 (i:Int)] w3 _):=PK i (by omega) w3;clear hw3 a5 b5 cI q0 hc3;go_wp2_with fail
      refine dT.out.mono ?_;rintro e w4 ⟨rfl,b4⟩;have hz4:=b4.size;have dM:Hid (Calls Tryz.prog 196 #[.pointer (some ⟨R,0,none⟩),.agg #[.int .i64 (i:Int),.int .i64 ((i+1:Nat):Int)]] w4 _):=rF base R X s2 n uc gb cb gt ct ss ts i (i+1) (by omega) (by omega) w4 (HA.out.1.below b4) (by omega);have cY:Hid (_/\_/\_):=⟨aP (gb:=gb) HA.out.2.1 (bT (gb:=gb) b4) (.inl rfl),HA.out.2.2.1.trans (b4.mono (by omega)),aB b4 HA.out.2.2.2⟩;clear b4;go_wp2_with fail
      refine dM.out.mono ?_;rintro e w5 ⟨rfl,⟨g,cap,hg,a8⟩,bS,b8⟩;have cE:g=gb\/w.heap.size<=g:=by omega
      have a3:Same w4 w5 (Four R X gb gt):=bS.mono fun k _ e=>.inr e;have q0:=a3.row cY.out.2.2 (fun e=>by rcases e with e | e | e | e <;> omega);obtain⟨_,t0,t1,t2,t3,t4,t5,t6,t7,t8⟩:=gI q0;have cR:=a8.lt;have HL:Hid (_/\_/\_/\_):=⟨a8,aP cY.out.1 a3 (.inl rfl),cY.out.2.1.trans b8,q0⟩;have hgw:g≠w.heap.size:=by omega
      clear a8 bS b8 a3 q0;obtain⟨z,hz⟩:∃ z,gY ss.length=z:=⟨_,rfl⟩;have HZ:Hid (gY ss.length=z):=hz;rw[hz];clear hz;obtain⟨o0,o1,o2,o3⟩:=z;simp only[vp];go_wp2;have a1:=fH (YQ w.heap.size w5) (B:=w.heap.size) (by omega) (.int .u64 (o0:Int)) (.int .u64 (o1:Int)) (.int .u64 (o2:Int)) (.int .u64 (o3:Int)) (.int .u64 (o0:Int)) (.int .u64 (o1:Int)) (.int .u64 (o2:Int)) (.int .u64 (o3:Int)) (.bool false);have b7:=rQ w5 w.heap.size (.int .u64 (o0:Int)) (.int .u64 (o1:Int)) (.int .u64 (o2:Int)) (.int .u64 (o3:Int)) (.int .u64 (o0:Int)) (.int .u64 (o1:Int)) (.int .u64 (o2:Int)) (.int .u64 (o3:Int)) (.bool false);refine bodyPost_ret (dA rfl _ _ w.heap.size _ _ (0,0) _ _ rfl rfl (CV HL.out.2.2.2 _ _ _ _ _ _ _ _ _) rfl rfl rfl) rfl (.inr ⟨(gY ss.length,gY ss.length,false),.sym (some i),s2,uc,by rw[HZ.out];rfl,⟨_,_,⟨g,cap,cE,HL.out.1.same b7 (a1.mono (by omega)) (fun k hk e=>by rcases hk with hk | hk | hk | hk <;> omega)⟩,EG (by omega),wE (by omega) (some i),HL.out.2.1.kept a1,HL.out.2.2.1.trans (a1.mono (by omega))⟩,by omega,.inl ⟨rfl,[97+i],HC3.out,BF hlt e7⟩⟩)
     ·subst hw3;have HN:Hid (∀ c,c<i+1->∀ l,codes s≠(97+c)::l):=(fun c hc=>(by
       rcases aG5 c i with h | h
       ·exact HNo.out c h
       ·obtain rfl:c=i:=by omega
        exact hc3):∀ c,c<i+1->∀ l,codes s≠(97+c)::l)
      clear hc3;go_wp2;go_roundw;case rel=>exact⟨i+1,by omega,by go_num,by trivial,HN.out⟩
      case measure=>simp[intOf];omega
    ·obtain rfl:i=n:=by omega
     obtain⟨⟨v0,v1,v2,v3,v4,v5,v6,v7,v8⟩,t0,t1,t2,t3,t4,t5,t6,t7,t8⟩:=gI cH.out;go_wp2;have a1:=fH (YQ w.heap.size wr) (B:=w.heap.size) (by omega) (.int .u64 0) (.int .u64 0) (.int .u64 0) (.int .u64 0) (.int .u64 0) (.int .u64 0) (.int .u64 0) (.int .u64 0) (.bool false);refine bodyPost_ret (dA rfl _ _ w.heap.size _ _ (0,0) _ _ rfl rfl (CV cH.out _ _ _ _ _ _ _ _ _) rfl rfl rfl) rfl (.inl ⟨rfl,HJ.out.trans a1,fun c l cP=>⟨fun e=>cG.out l (by rw[cP,e]),fun e=>aL.out l (by rw[cP,e]),fun he=>HNo.out (c-97) (by omega) l (by rw[cP,show 97+(c-97)=c by omega])⟩⟩)
end Go.Proofs.YtphjbbbnbmafnaaGreatDoor.G
