/- Parts: XRw XCh. -/
import Derived.Test.YtphjbbbnbmafnaaGreatDoorXPi
import Derived.Test.YtphjbbbnbmafnaaGreatDoorXQs
set_option maxHeartbeats 16000000
set_option maxRecDepth 100000
namespace Go.Proofs.YtphjbbbnbmafnaaGreatDoor.G
open Go.RowKit Go.Shelf RxM
variable {s s':ByteArray} {n:Nat} {uc a1:Bool} {ss ts:List S4} {r t:Rx}
abbrev e9:Array Value:=#[.int .u64 0,.int .u64 0,.int .u64 0,.int .u64 0,.int .u64 0,.int .u64 0,.int .u64 0,.int .u64 0,.bool true]
def vN(R:Nat)(w:World):Nat:=match w.cell? ⟨R,0,none⟩with | some (.string s)=>s.size | _=>0
theorem Rdr.left{w:World}{base R X:Nat}{gb cb gt ct:Nat}(h:Rdr w base R X s n uc gb cb gt ct ss ts):vN R w=s.size:=by
 unfold vN;rw[h.cells.1.1]
def yV(n:Nat)(s:ByteArray)(uc:Bool)(s':ByteArray)(a1:Bool)(t:Rx):Prop :=
 (a1=uc/\∃ q r p,codes s=q++codes s'/\eZ n q r p/\t=ab r p/\(∀ l,codes s'=42::l->p=none))\/(a1=true/\iX n (codes s))
def E9(n:Nat)(s:ByteArray)(uc:Bool)(s':ByteArray)(a1:Bool)(r t:Rx):Prop :=
 (a1=uc/\∃ q,codes s=q++codes s'/\eZ n q r (some t))\/(a1=true/\iX n (codes s))
theorem F6(n:Nat)(s:ByteArray)(uc:Bool):yV n s uc s uc .eps:=.inl ⟨rfl,[],.eps,none,rfl,RV n,rfl,fun _ _=>rfl⟩
theorem yV.piece{s2:ByteArray}{uc2:Bool}{t2:Rx}(h:yV n s uc s' a1 t)(h2:(uc2=a1/\∃ q,codes s'=q++codes s2/\sV n q t2)\/(uc2=true/\o7 n (codes s'))):E9 n s uc s2 uc2 t t2:=by
 rcases h with ⟨h1,q,r,p,h3,h4,h5,_⟩ | ⟨h1,h3⟩
 ·rcases h2 with ⟨e1,q2,e2,e3⟩ | ⟨e1,e2⟩
  ·exact .inl ⟨e1.trans h1,q++q2,by rw[h3,e2,aD3],by rw[h5];exact e3 q r p h4⟩
  ·exact .inr ⟨e1,by rw[h3];exact e2 q r p h4⟩
 ·refine .inr ⟨?_,h3⟩;rcases h2 with ⟨e1,_⟩ | ⟨e1,_⟩
  ·exact e1.trans h1
  ·exact e1
theorem E9.star{s2:ByteArray}(h:E9 n s uc s' a1 r t)(hs:codes s'=42::codes s2):E9 n s uc s2 a1 r (.star t):=by
 rcases h with ⟨h1,q,h3,h4⟩ | h1
 ·exact .inl ⟨h1,q++[42],by rw[h3,hs];simp,h4.star⟩
 ·exact .inr h1
theorem E9.join(h:E9 n s uc s' a1 r t)(hs:∀ l,codes s'≠42::l):yV n s uc s' a1 (.cat r t):=by
 rcases h with ⟨h1,q,h3,h4⟩ | h1
 ·exact .inl ⟨h1,q,r,some t,h3,h4,rfl,fun l hl=>absurd hl (hs l)⟩
 ·exact .inr h1
theorem yV.stop(h:yV n s uc s' a1 t)(hn:PO n (codes s')):(a1=uc/\∃ q r p,codes s=q++codes s'/\eZ n q r p/\t=ab r p/\RZ n (codes s') p)\/(a1=true/\iX n (codes s)):=by
 rcases h with ⟨h1,q,r,p,h3,h4,h5,h6⟩ | h1
 ·refine .inl ⟨h1,q,r,p,h3,h4,h5,?_⟩;cases e:codes s' with
  | nil=>exact .inl (.inl rfl)
  | cons c l =>
   obtain⟨n1,n2,n3⟩:=hn c l e;by_cases c1:c=124
   ·subst c1;exact .inr ⟨l,rfl⟩
   ·by_cases c2:c=41
    ·subst c2;exact .inl (.inr (.inl ⟨l,rfl⟩))
    ·refine .inl (.inr (.inr ⟨c,l,rfl,c1,fun a r st => ?_⟩));by_cases c3:c=42
     ·subst c3;rw[h6 l e];exact vM n a r st
     ·exact G9 n c a r p st c1 c3 n1 c2 n2 n3
 ·exact .inr h1
theorem WV{P:P4}{a4 a5:List S4}(hl:Laid t ss ts a4 a5)(hp:dJ P t ss.length){p:Nat}(h:dP P.2.1 p=true):p<a4.length:=by
 rw[hp.ls]at h;have:=iC _ _ _ h;rw[hl.len];omega
theorem row_of{N:Nat}(HP:PieC N):RowC N:=by
 intro base R X s n uc gb cb gt ct ss ts w hN h;have hl:=h.lt;have cI:=h.bs;obtain⟨W0,a8⟩:∃ W0,W0=(w.alloc (.cells z9 139)).alloc (.cells e9 139):=⟨_,rfl⟩;have hJ:Below w.heap.size w W0:=by rw[a8];exact xal (aA _ _)
 have r0:W0.heap[w.heap.size]?=some (.cells z9 139 (0,0)):=by rw[a8];exact aB (aA _ _) (heap_alloc_new w _)
 have r1:W0.heap[w.heap.size+1]?=some (.cells e9 139 (0,0)):=by
  rw[a8];have:=heap_alloc_new (w.alloc (.cells z9 139)) (.cells e9 139);rwa [aD1]at this
 have hs0:w.heap.size+1<W0.heap.size:=by rw[a8];simp
 have cH:Hid _:=h.below hJ;have HJ:Hid _:=hJ;have HI:Hid (PieC N):=HP;have cE:Hid (_/\_):=⟨r0,r1⟩;clear hJ h HP r0 r1;go_enter Tryz.func132,Tryz.ntmps132
 go_wp2;rw[<-a8];have HW0:Hid _:=a8;clear a8;go_loopw [5] (fun _ wr=>∃ P t s' a1 g cap a4 a5,Hid (Rdr wr base R X s' n a1 g cap gt ct a4 a5/\(g=gb\/w.heap.size+1<g)/\Laid t ss ts a4 a5/\dJ P t ss.length/\Same w wr (Four R X gb gt)/\Below base w wr/\wr.heap[w.heap.size]?=some (.cells z9 139 (0,0))/\wr.heap[w.heap.size+1]?=some (.cells (c9 P) 139 (0,0))/\s'.size<=s.size/\yV n s uc s' a1 t/\w.heap.size+1<wr.heap.size)) (fun _ wr=>vN R wr)
 case atStart=>exact⟨(z4,z4,true),.eps,s,uc,gb,cb,ss,ts,cH.out,.inl rfl,UG ss ts,LH _,bT HJ.out,HJ.out.mono (by omega),cE.out.1,cE.out.2,V7 _,F6 n s uc,hs0⟩
 case round =>
  obtain⟨P,t,s',a1,g,cap,a4,a5,HS⟩:=hrel;have a0:Hid (_/\_/\_/\_/\_/\_/\_/\_/\_/\_/\_):=HS.out;clear HS;have cM:=a0.out.2.2.2.2.2.2.2.2.1;have hg:=a0.out.2.1;have hwr:=a0.out.2.2.2.2.2.2.2.2.2.2;have hlr:=a0.out.1.lt;go_wp2_with fail
  refine(HI.out base R X s' n a1 g cap gt ct a4 a5 wr (by omega) a0.out.1).mono ?_;rintro e w2 (⟨rfl,hB,hno⟩ | ⟨P2,t2,s2,uc2,rfl,⟨b2,ts2,⟨g2,cap2,hg2,hR2⟩,hlaid,hpart,hsm,hbw⟩,hsz2,hpost⟩)
  ·have q0:=aB hB a0.out.2.2.2.2.2.2.1;have q1:=aB hB a0.out.2.2.2.2.2.2.2.1;have cN:=hB.size;obtain⟨W3,b1⟩:∃ W3,W3=w2.alloc (.cells z9 139):=⟨_,rfl⟩;have b0:Below w2.heap.size w2 W3:=by rw[b1];exact aA _ _
   have k0:=aB b0 q0;have k1:=aB b0 q1;have hBW:Below wr.heap.size wr W3:=chain hB b0;have HK:Hid (_/\_/\_):=⟨hBW,k0,hno⟩;have y:=fun o=>gI (aB (aA w2 o) q1);have y0:=fun o=>(y o).1.1;have y1:=fun o=>(y o).1.2.1;have y2:=fun o=>(y o).1.2.2.1;have y3:=fun o=>(y o).1.2.2.2.1;have y4:=fun o=>(y o).1.2.2.2.2.1;have y5:=fun o=>(y o).1.2.2.2.2.2.1;have y6:=fun o=>(y o).1.2.2.2.2.2.2.1;have y7:=fun o=>(y o).1.2.2.2.2.2.2.2.1;have y8:=fun o=>(y o).1.2.2.2.2.2.2.2.2;have x:=fun o=>gI (aB (aA w2 o) q0);have x0:=fun o=>(x o).2.1;have x1:=fun o=>(x o).2.2.1;have x2:=fun o=>(x o).2.2.2.1;have x3:=fun o=>(x o).2.2.2.2.1;have x4:=fun o=>(x o).2.2.2.2.2.1;have x5:=fun o=>(x o).2.2.2.2.2.2.1;have x6:=fun o=>(x o).2.2.2.2.2.2.2.1;have x7:=fun o=>(x o).2.2.2.2.2.2.2.2.1;have x8:=fun o=>(x o).2.2.2.2.2.2.2.2.2;have v0:=fun o=>(x o).1.1;have v1:=fun o=>(x o).1.2.1;have v2:=fun o=>(x o).1.2.2.1;have v3:=fun o=>(x o).1.2.2.2.1;have v4:=fun o=>(x o).1.2.2.2.2.1;have v5:=fun o=>(x o).1.2.2.2.2.2.1;have v6:=fun o=>(x o).1.2.2.2.2.2.2.1;have v7:=fun o=>(x o).1.2.2.2.2.2.2.2.1;have v8:=fun o=>(x o).1.2.2.2.2.2.2.2.2;clear x y q0 q1 hB hno b0 k0 k1 hBW;simp only[vp];go_wp2;subst b1;have a2:=fH (HK.out.1.mono (show w.heap.size<=wr.heap.size by omega)) (B:=w.heap.size) (by omega) (.int .u64 (P.1.1:Int)) (.int .u64 (P.1.2.1:Int)) (.int .u64 (P.1.2.2.1:Int)) (.int .u64 (P.1.2.2.2:Int)) (.int .u64 (P.2.1.1:Int)) (.int .u64 (P.2.1.2.1:Int)) (.int .u64 (P.2.1.2.2.1:Int)) (.int .u64 (P.2.1.2.2.2:Int)) (.bool P.2.2);refine bodyPost_ret (results_cell_row rfl _ _ w.heap.size _ _ (0,0) _ rfl (CV HK.out.2.1 _ _ _ _ _ _ _ _ _) rfl rfl rfl) rfl ⟨P,t,s',a1,rfl,⟨a4,a5,⟨g,cap,by omega,(a0.out.1.below HK.out.1).same (rQ _ w.heap.size _ _ _ _ _ _ _ _ _) (fH (YQ base _) (by omega) _ _ _ _ _ _ _ _ _) (fun k hk e=>by rcases hk with hk | hk | hk | hk <;> omega)⟩,a0.out.2.2.1,a0.out.2.2.2.1,a0.out.2.2.2.2.1.kept a2,a0.out.2.2.2.2.2.1.trans (a2.mono (by omega))⟩,cM,yV.stop a0.out.2.2.2.2.2.2.2.2.2.1 HK.out.2.2⟩
  ·have hgn:g2=g\/wr.heap.size<=g2:=hg2;have hg3:g2=gb\/w.heap.size+1<g2:=by omega
   have hg4:g=gb\/w.heap.size<=g:=by omega
   have q0:=hsm.row a0.out.2.2.2.2.2.2.1 (fun e=>by rcases e with e | e | e | e <;> omega);have q1:=hsm.row a0.out.2.2.2.2.2.2.2.1 (fun e=>by rcases e with e | e | e | e <;> omega);have cN:=hsm.1;have hl2:=hR2.lt;obtain⟨W3,b1⟩:∃ W3,W3=w2.alloc (.cells (c9 P2) 139):=⟨_,rfl⟩;have b0:Below w2.heap.size w2 W3:=by rw[b1];exact aA _ _
   have q4:W3.heap[w2.heap.size]?=some (.cells (c9 P2) 139 (0,0)):=by rw[b1];exact heap_alloc_new w2 _
   have hz3:w2.heap.size<W3.heap.size:=by rw[b1];simp
   have hal:=yV.piece a0.out.2.2.2.2.2.2.2.2.2.1 hpost;have HK:Hid (_/\_/\_/\_/\_/\_/\_/\_/\_/\_):=⟨hR2.below b0,hlaid,hpart,aP (aP a0.out.2.2.2.2.1 hsm hg4) (bT (gb:=g2) b0) (by omega),(a0.out.2.2.2.2.2.1.trans hbw).trans (b0.mono (by omega)),aB b0 q0,aB b0 q1,q4,hsz2,hal⟩;clear hR2 hlaid hpart hsm hbw hpost q0 q1 q4 hal b0;simp only[vp];go_wp2;rw[<-b1];have HW3:Hid _:=b1;clear b1;go_loopw [16] (fun _ wi=>∃ P2 t2 s2 b2,Hid (Rdr wi base R X s2 n uc2 g2 cap2 gt ct b2 ts2/\Laid t2 a4 a5 b2 ts2/\dJ P2 t2 a4.length/\Same w wi (Four R X gb gt)/\Below base w wi/\wi.heap[w.heap.size]?=some (.cells z9 139 (0,0))/\wi.heap[w.heap.size+1]?=some (.cells (c9 P) 139 (0,0))/\wi.heap[w2.heap.size]?=some (.cells (c9 P2) 139 (0,0))/\s2.size<s'.size/\E9 n s uc s2 uc2 t t2/\w2.heap.size<wi.heap.size)) (fun _ wi=>vN R wi)
   case atStart=>exact⟨P2,t2,s2,b2,HK.out.1,HK.out.2.1,HK.out.2.2.1,HK.out.2.2.2.1,HK.out.2.2.2.2.1,HK.out.2.2.2.2.2.1,HK.out.2.2.2.2.2.2.1,HK.out.2.2.2.2.2.2.2.1,HK.out.2.2.2.2.2.2.2.2.1,HK.out.2.2.2.2.2.2.2.2.2,hz3⟩
   case round =>
    obtain⟨P2,t2,s2,b2,HU⟩:=hrel;have HV:Hid (_/\_/\_/\_/\_/\_/\_/\_/\_/\_/\_):=HU.out;clear HU;have hv2:=HV.out.2.2.2.2.2.2.2.2.1;have hvs:=HV.out.2.2.2.2.2.2.2.2.2.2;have HT:Hid (Calls Tryz.prog 133 #[.pointer (some ⟨R,0,none⟩),.int .u8 42] wr _):=mO R 42 s2 wr HV.out.1.cells.1.1 HV.out.1.cells.2.2.1.1;go_wp2_with fail
    refine HT.out.mono ?_;rintro e w4 (⟨s3,hc3,hsz3,rfl,hw4⟩ | ⟨hc3,rfl,hw4⟩)
    ·have bX:Rdr w4 base R X s3 n uc2 g2 cap2 gt ct b2 ts2:=by rw[hw4];exact HV.out.1.rest s3 (by omega)
     have aG:Same wr w4 (Four R X g2 gt):=by rw[hw4];exact kT wr _
     have bS:Below base wr w4:=by rw[hw4];exact(YQ base wr).setCell (p:=⟨R,0,none⟩) cI.2.1 _
     have k0:=aG.row HV.out.2.2.2.2.2.1 (fun e=>by rcases e with e | e | e | e <;> omega);have k1:=aG.row HV.out.2.2.2.2.2.2.1 (fun e=>by rcases e with e | e | e | e <;> omega);have k4:=aG.row HV.out.2.2.2.2.2.2.2.1 (fun e=>by rcases e with e | e | e | e <;> omega);have hz4:=aG.1;have b4:=aP HV.out.2.2.2.1 aG (by omega);have b3:=HV.out.2.2.2.2.1.trans bS;have HSt:Hid (Calls Tryz.prog 179 #[.pointer (some ⟨R,0,none⟩),.agg (c9 P2)] w4 _):=F4 base R X s3 n uc2 g2 cap2 gt ct b2 ts2 P2 HV.out.2.2.1.ok1 HV.out.2.2.1.ok2 w4 bX (fun p hp=>WV HV.out.2.1 HV.out.2.2.1 hp);have HA:Hid (_/\_/\_/\_/\_):=⟨k0,k1,k4,b4,b3⟩;have cG:Hid _:=hc3;obtain⟨⟨d0,d1,d2,d3,d4,d5,d6,d7,d8⟩,_⟩:=gI k4;clear hw4 bX aG bS k0 k1 k4 b4 b3 hc3;go_wp2_with fail
     refine HSt.out.mono ?_;rintro e w5 ⟨rfl,hR5,b4,b3⟩;have aL:Same w4 w5 (Four R X g2 gt):=b4.mono fun k _ e=>.inr (.inr (.inl e));have k0:=aL.row HA.out.1 (fun e=>by rcases e with e | e | e | e <;> omega);have k1:=aL.row HA.out.2.1 (fun e=>by rcases e with e | e | e | e <;> omega);have k4:=aL.row HA.out.2.2.1 (fun e=>by rcases e with e | e | e | e <;> omega);have hz5:=aL.1;have a3:=rQ w5 w2.heap.size (.int .u64 (P2.1.1:Int)) (.int .u64 (P2.1.2.1:Int)) (.int .u64 (P2.1.2.2.1:Int)) (.int .u64 (P2.1.2.2.2:Int)) (.int .u64 (P2.2.1.1:Int)) (.int .u64 (P2.2.1.2.1:Int)) (.int .u64 (P2.2.1.2.2.1:Int)) (.int .u64 (P2.2.1.2.2.2:Int)) (.bool true);have a2:=fH (YQ w.heap.size w5) (B:=w2.heap.size) (by omega) (.int .u64 (P2.1.1:Int)) (.int .u64 (P2.1.2.1:Int)) (.int .u64 (P2.1.2.2.1:Int)) (.int .u64 (P2.1.2.2.2:Int)) (.int .u64 (P2.2.1.1:Int)) (.int .u64 (P2.2.1.2.1:Int)) (.int .u64 (P2.2.1.2.2.1:Int)) (.int .u64 (P2.2.1.2.2.2:Int)) (.bool true);have n4:=CV k4 (.int .u64 (P2.1.1:Int)) (.int .u64 (P2.1.2.1:Int)) (.int .u64 (P2.1.2.2.1:Int)) (.int .u64 (P2.1.2.2.2:Int)) (.int .u64 (P2.2.1.1:Int)) (.int .u64 (P2.2.1.2.1:Int)) (.int .u64 (P2.2.1.2.2.1:Int)) (.int .u64 (P2.2.1.2.2.2:Int)) (.bool true);have a7:=hR5.same a3 (a2.mono (by omega)) (fun k hk e=>by rcases hk with hk | hk | hk | hk <;> omega);have HN:Hid (_/\_/\_/\_/\_/\_/\_/\_/\_/\_/\_):=⟨a7,HV.out.2.1.star HV.out.2.2.1,HV.out.2.2.1.star,(aP HA.out.2.2.2.1 aL (by omega)).kept a2,(HA.out.2.2.2.2.trans b3).trans (a2.mono (by omega)),a3.row k0 (by omega),a3.row k1 (by omega),n4,(by omega:s3.size<s'.size),HV.out.2.2.2.2.2.2.2.2.2.1.star cG.out,aF0 (by omega:w2.heap.size<w5.heap.size) a3.1⟩;obtain⟨_,t0,t1,t2,t3,t4,t5,t6,t7,t8⟩:=gI k4;have HM:Hid (_/\_):=⟨a7.left,HV.out.1.left⟩;clear hR5 b4 b3 aL k0 k1 k4 a3 a2 n4 a7 d0 d1 d2 d3 d4 d5 d6 d7 d8;simp only[vp,VB];go_wp2;go_roundw;case rel=>exact⟨_,_,_,_,HN.out⟩
     case measure =>
      rw[HM.out.2];exact aK8 (Nat.le_of_eq HM.out.1) (by omega)
    ·subst hw4;have HJn:Hid (Calls Tryz.prog 76 #[.pointer (some ⟨R,0,none⟩),.agg (c9 P),.agg (c9 P2)] w4 _):=wI base R X s2 n uc2 g2 cap2 gt ct b2 ts2 P P2 a0.out.2.2.2.1.ok1 a0.out.2.2.2.1.ok2 HV.out.2.2.1.ok1 HV.out.2.2.1.ok2 w4 HV.out.1 (fun p hp=>by have:=WV a0.out.2.2.1 a0.out.2.2.2.1 hp;have:=HV.out.2.1.len;omega);have cG:Hid _:=hc3;obtain⟨⟨c0,c1,c2,c3,c4,c5,c6,c7,c8⟩,_⟩:=gI HV.out.2.2.2.2.2.2.1;obtain⟨⟨d0,d1,d2,d3,d4,d5,d6,d7,d8⟩,_⟩:=gI HV.out.2.2.2.2.2.2.2.1;clear hc3;go_wp2_with fail
     refine HJn.out.mono ?_;rintro e w5 ⟨rfl,hR5,b4,b3⟩;have aL:Same w4 w5 (Four R X g2 gt):=b4.mono fun k _ e=>.inr (.inr (.inl e));have k0:=aL.row HV.out.2.2.2.2.2.1 (fun e=>by rcases e with e | e | e | e <;> omega);have k1:=aL.row HV.out.2.2.2.2.2.2.1 (fun e=>by rcases e with e | e | e | e <;> omega);have hz5:=aL.1;have hlc:=a0.out.2.2.1.cat HV.out.2.1 a0.out.2.2.2.1 HV.out.2.2.1;have cL:=a0.out.2.2.2.1.cat (by rw[<-a0.out.2.2.1.len];exact HV.out.2.2.1);obtain⟨J,hJe⟩:∃ J,yG P P2=J:=⟨_,rfl⟩;rw[hJe]at cL ⊢;have a3:=rQ w5 (w.heap.size+1) (.int .u64 (J.1.1:Int)) (.int .u64 (J.1.2.1:Int)) (.int .u64 (J.1.2.2.1:Int)) (.int .u64 (J.1.2.2.2:Int)) (.int .u64 (J.2.1.1:Int)) (.int .u64 (J.2.1.2.1:Int)) (.int .u64 (J.2.1.2.2.1:Int)) (.int .u64 (J.2.1.2.2.2:Int)) (.bool J.2.2);have a2:=fH (YQ w.heap.size w5) (B:=w.heap.size+1) (by omega) (.int .u64 (J.1.1:Int)) (.int .u64 (J.1.2.1:Int)) (.int .u64 (J.1.2.2.1:Int)) (.int .u64 (J.1.2.2.2:Int)) (.int .u64 (J.2.1.1:Int)) (.int .u64 (J.2.1.2.1:Int)) (.int .u64 (J.2.1.2.2.1:Int)) (.int .u64 (J.2.1.2.2.2:Int)) (.bool J.2.2);have n1:=CV k1 (.int .u64 (J.1.1:Int)) (.int .u64 (J.1.2.1:Int)) (.int .u64 (J.1.2.2.1:Int)) (.int .u64 (J.1.2.2.2:Int)) (.int .u64 (J.2.1.1:Int)) (.int .u64 (J.2.1.2.1:Int)) (.int .u64 (J.2.1.2.2.1:Int)) (.int .u64 (J.2.1.2.2.2:Int)) (.bool J.2.2);have a7:=hR5.same a3 (a2.mono (by omega)) (fun k hk e=>by rcases hk with hk | hk | hk | hk <;> omega);have HN:Hid (_/\_/\_/\_/\_/\_/\_/\_/\_/\_/\_):=⟨a7,hg3,hlc,cL,(aP HV.out.2.2.2.1 aL (by omega)).kept a2,(HV.out.2.2.2.2.1.trans b3).trans (a2.mono (by omega)),a3.row k0 (by omega),n1,(by omega:s2.size<=s.size),HV.out.2.2.2.2.2.2.2.2.2.1.join cG.out,aF0 (by omega:w.heap.size+1<w5.heap.size) a3.1⟩;obtain⟨_,t0,t1,t2,t3,t4,t5,t6,t7,t8⟩:=gI k1;have HM:Hid (_/\_):=⟨a7.left,a0.out.1.left⟩;clear hR5 b4 b3 aL k0 k1 a3 a2 n1 a7 hlc cL c0 c1 c2 c3 c4 c5 c6 c7 c8 d0 d1 d2 d3 d4 d5 d6 d7 d8;simp only[vp];go_wp2;go_roundw;case rel=>exact⟨_,_,_,_,_,_,_,_,HN.out⟩
     case measure =>
      rw[HM.out.2];exact aK8 (Nat.le_of_eq HM.out.1) (by omega)
end Go.Proofs.YtphjbbbnbmafnaaGreatDoor.G
namespace Go.Proofs.YtphjbbbnbmafnaaGreatDoor.G
open Go.RowKit Go.Shelf RxM
variable {n:Nat} {s s':ByteArray} {uc a1:Bool} {t:Rx}
attribute [local go_sem] Oper.semAt_some
def FW(n:Nat)(s:ByteArray)(uc:Bool)(s':ByteArray)(a1:Bool)(t:Rx):Prop :=
 (a1=uc/\∃ q f,codes s=q++codes s'/\oW n q f/\t=fin f/\RZ n (codes s') f.2.2)\/(a1=true/\nY n (codes s))
theorem FV(h:(a1=uc/\∃ q r p,codes s=q++codes s'/\eZ n q r p/\t=ab r p/\RZ n (codes s') p)\/(a1=true/\iX n (codes s))):FW n s uc s' a1 (.alt .void t):=by
 rcases h with ⟨h1,q,r,p,h3,h4,h5,h6⟩ | ⟨h1,h2⟩
 ·exact .inl ⟨h1,q,(.void,r,p),h3,PT h4,by rw[h5];rfl,h6⟩
 ·exact .inr ⟨h1,FL h2⟩
theorem FW.bar{s1 s2 s3:ByteArray}{uc1 uc3:Bool}{t2:Rx}(h:FW n s uc s1 uc1 t)(hb:codes s1=124::codes s2)(h2:(uc3=uc1/\∃ q r p,codes s2=q++codes s3/\eZ n q r p/\t2=ab r p/\RZ n (codes s3) p)\/(uc3=true/\iX n (codes s2))):FW n s uc s3 uc3 (.alt t t2):=by
 rcases h with ⟨h1,q,f,h3,h4,h5,h6⟩ | ⟨h1,h3⟩
 ·rcases h2 with ⟨e1,q2,r,p,e2,e3,e4,e5⟩ | ⟨e1,e2⟩
  ·exact .inl ⟨e1.trans h1,q++124::q2,(fin f,r,p),by rw[h3,hb,e2];simp,h4.row e3,by rw[h5,e4];rfl,e5⟩
  ·exact .inr ⟨e1,by rw[h3,hb];exact h4.dead e2⟩
 ·refine .inr ⟨?_,h3⟩;rcases h2 with ⟨e1,_⟩ | ⟨e1,_⟩
  ·exact e1.trans h1
  ·exact e1
theorem FW.stop(h:FW n s uc s' a1 t)(hb:∀ l,codes s'≠124::l):(a1=uc/\∃ q f,codes s=q++codes s'/\oW n q f/\t=fin f/\Stop n (codes s') f.2.2)\/(a1=true/\nY n (codes s)):=by
 rcases h with ⟨h1,q,f,h3,h4,h5,h6⟩ | h1
 ·refine .inl ⟨h1,q,f,h3,h4,h5,?_⟩;rcases h6 with h6 | ⟨l,h6⟩
  ·exact h6
  ·exact absurd h6 (hb l)
 ·exact .inr h1
theorem RL{N:Nat}(HP:RowC N):ChoC N:=by
 intro base R X s n uc gb cb gt ct ss ts w hN h;have hl:=h.lt;have cI:=h.bs;obtain⟨W0,a8⟩:∃ W0,W0=w.alloc (.cells z9 139):=⟨_,rfl⟩;have hJ:Below w.heap.size w W0:=by rw[a8];exact aA _ _
 have r0:W0.heap[w.heap.size]?=some (.cells z9 139 (0,0)):=by rw[a8];exact heap_alloc_new w _
 have hs0:w.heap.size<W0.heap.size:=by rw[a8];simp
 have cH:Hid _:=h.below hJ;have HJ:Hid _:=hJ;have HI:Hid (RowC N):=HP;have cE:Hid _:=r0;clear hJ h HP r0;go_enter Tryz.func74,Tryz.ntmps74
 go_wp2_with fail
 rw[<-a8];have HW0:Hid _:=a8;clear a8;refine(HI.out base R X s n uc gb cb gt ct ss ts W0 (by omega) cH.out).mono ?_;rintro e w1 ⟨P,t,s1,uc1,rfl,⟨a4,a5,⟨g,cap,hg,hR1⟩,hlaid,hpart,hsm,hbw⟩,hsz1,hpost⟩;have hz1:=hsm.1;have hl1:=hR1.lt;have q0:=hsm.row cE.out (fun e=>by rcases e with e | e | e | e <;> omega);obtain⟨W2,b8⟩:∃ W2,W2=w1.alloc (.cells (c9 P) 139):=⟨_,rfl⟩;have bW:Below w1.heap.size w1 W2:=by rw[b8];exact aA _ _
 have q1:W2.heap[w1.heap.size]?=some (.cells (c9 P) 139 (0,0)):=by rw[b8];exact heap_alloc_new w1 _
 have cN:w1.heap.size<W2.heap.size:=by rw[b8];simp
 have HK:Hid (_/\_/\_/\_/\_/\_/\_/\_):=⟨hR1.below bW,hlaid.void,hpart.void,aP (aP (bT (gb:=gb) HJ.out) hsm (.inl rfl)) (bT (gb:=g) bW) (by omega),((HJ.out.mono (by omega)).trans hbw).trans (bW.mono (by omega)),aB bW q0,q1,FV hpost⟩;clear hR1 hlaid hpart hsm hbw hpost q0 q1 bW;simp only[vp];go_wp2;rw[<-b8];have HW2:Hid _:=b8;clear b8;go_loopw [8] (fun _ wr=>∃ P t s' a1 g cap a4 a5,Hid (Rdr wr base R X s' n a1 g cap gt ct a4 a5/\(g=gb\/w.heap.size<=g)/\g≠w.heap.size/\g≠w1.heap.size/\Laid t ss ts a4 a5/\dJ P t ss.length/\Same w wr (Four R X gb gt)/\Below base w wr/\wr.heap[w.heap.size]?=some (.cells z9 139 (0,0))/\wr.heap[w1.heap.size]?=some (.cells (c9 P) 139 (0,0))/\s'.size<=s.size/\FW n s uc s' a1 t/\w1.heap.size<wr.heap.size)) (fun _ wr=>vN R wr)
 case atStart=>exact⟨P,_,s1,uc1,g,cap,a4,a5,HK.out.1,by omega,by omega,by omega,HK.out.2.1,HK.out.2.2.1,HK.out.2.2.2.1,HK.out.2.2.2.2.1,HK.out.2.2.2.2.2.1,HK.out.2.2.2.2.2.2.1,hsz1,HK.out.2.2.2.2.2.2.2,cN⟩
 case round =>
  obtain⟨P,t,s',a1,g,cap,a4,a5,HS⟩:=hrel;have a0:Hid (_/\_/\_/\_/\_/\_/\_/\_/\_/\_/\_/\_/\_):=HS.out;clear HS;have cJ:=a0.out.2.1;have hg2:=a0.out.2.2.1;have hg3:=a0.out.2.2.2.1;have cM:=a0.out.2.2.2.2.2.2.2.2.2.2.1;have hwr:=a0.out.2.2.2.2.2.2.2.2.2.2.2.2;have hlr:=a0.out.1.lt;have HT:Hid (Calls Tryz.prog 133 #[.pointer (some ⟨R,0,none⟩),.int .u8 124] wr _):=mO R 124 s' wr a0.out.1.cells.1.1 a0.out.1.cells.2.2.1.1;go_wp2_with fail
  refine HT.out.mono ?_;rintro e w4 (⟨s2,hc2,hsz2,rfl,hw4⟩ | ⟨hc2,rfl,hw4⟩)
  ·have bX:Rdr w4 base R X s2 n a1 g cap gt ct a4 a5:=by rw[hw4];exact a0.out.1.rest s2 (by omega)
   have aG:Same wr w4 (Four R X g gt):=by rw[hw4];exact kT wr _
   have bS:Below base wr w4:=by rw[hw4];exact(YQ base wr).setCell (p:=⟨R,0,none⟩) cI.2.1 _
   have k0:=aG.row a0.out.2.2.2.2.2.2.2.2.1 (fun e=>by rcases e with e | e | e | e <;> omega);have k1:=aG.row a0.out.2.2.2.2.2.2.2.2.2.1 (fun e=>by rcases e with e | e | e | e <;> omega);have hz4:=aG.1;have HA:Hid (_/\_/\_/\_/\_/\_):=⟨bX,k0,k1,aP a0.out.2.2.2.2.2.2.1 aG cJ,a0.out.2.2.2.2.2.2.2.1.trans bS,hc2⟩;clear hw4 bX aG bS k0 k1 hc2;go_wp2_with fail
   refine(HI.out base R X s2 n a1 g cap gt ct a4 a5 w4 (by omega) HA.out.1).mono ?_;rintro e w5 ⟨P2,t2,s3,uc3,rfl,⟨b2,ts2,⟨g2,cap2,hgg,hR5⟩,hlaid,hpart,hsm,hbw⟩,hsz3,hpost⟩;have hz5:=hsm.1;have hl5:=hR5.lt;have q0:=hsm.row HA.out.2.1 (fun e=>by rcases e with e | e | e | e <;> omega);have q1:=hsm.row HA.out.2.2.1 (fun e=>by rcases e with e | e | e | e <;> omega);obtain⟨W6,b9⟩:∃ W6,W6=w5.alloc (.cells (c9 P2) 139):=⟨_,rfl⟩;have b7:Below w5.heap.size w5 W6:=by rw[b9];exact aA _ _
   have q4:W6.heap[w5.heap.size]?=some (.cells (c9 P2) 139 (0,0)):=by rw[b9];exact heap_alloc_new w5 _
   have hz6:w5.heap.size<W6.heap.size:=by rw[b9];simp
   have k0:=aB b7 q0;have k1:=aB b7 q1;have cF:=a0.out.2.2.2.2.2.1;have HL:Hid (_/\_/\_/\_/\_/\_/\_/\_):=⟨hR5.below b7,a0.out.2.2.2.2.1.alt hlaid,cF.alt (by rw[<-a0.out.2.2.2.2.1.len];exact hpart),aP (aP HA.out.2.2.2.1 hsm cJ) (bT (gb:=g2) b7) (by omega),(HA.out.2.2.2.2.1.trans hbw).trans (b7.mono (by omega)),k0,k1,a0.out.2.2.2.2.2.2.2.2.2.2.2.1.bar HA.out.2.2.2.2.2 hpost⟩;have cA:=cF.ok1;have cB:=cF.ok2;have cC:=hpart.ok1;have cD:=hpart.ok2;obtain⟨⟨f0,f1,f2,f3⟩,⟨l0,l1,l2,l3⟩,e⟩:=P;obtain⟨⟨g0,g1,b5,b6⟩,⟨m0,m1,m2,m3⟩,f⟩:=P2;obtain⟨⟨c0,c1,c2,c3,c4,c5,c6,c7,c8⟩,z⟩:=gI k1;obtain⟨⟨d0,d1,d2,d3,d4,d5,d6,d7,d8⟩,_⟩:=gI q4;have a9:Hid (∀ W,Calls Tryz.prog 134 _ W _):=fun W=>fP f0 f1 f2 f3 g0 g1 b5 b6 cA.1 cA.2.1 cA.2.2.1 cA.2.2.2 cC.1 cC.2.1 cC.2.2.1 cC.2.2.2 W;have aE:Hid (∀ W,Calls Tryz.prog 134 _ W _):=fun W=>fP l0 l1 l2 l3 m0 m1 m2 m3 cB.1 cB.2.1 cB.2.2.1 cB.2.2.2 cD.1 cD.2.1 cD.2.2.1 cD.2.2.2 W;clear hR5 hlaid hpart hsm hbw hpost q0 q1 q4 k0 k1 b7 cF cA cB cC cD z;simp only[vp];have y0:=fun u=>aC c0 u;have y1:=fun u=>aC c1 u;have y2:=fun u=>aC c2 u;have y3:=fun u=>aC c3 u;have y4:=fun u=>aC c4 u;have y5:=fun u=>aC c5 u;have y6:=fun u=>aC c6 u;have y7:=fun u=>aC c7 u;have y8:=fun u=>aC c8 u;have x0:=fun u=>aC d0 u;have x1:=fun u=>aC d1 u;have x2:=fun u=>aC d2 u;have x3:=fun u=>aC d3 u;have x4:=fun u=>aC d4 u;have x5:=fun u=>aC d5 u;have x6:=fun u=>aC d6 u;have x7:=fun u=>aC d7 u;have x8:=fun u=>aC d8 u;clear c0 c1 c2 c3 c4 c5 c6 c7 c8 d0 d1 d2 d3 d4 d5 d6 d7 d8;go_upto_region 4 with fail
   rw[<-b9];have HW6:Hid _:=b9;clear b9;cases e
   ·refine jN (n:=9) rfl (by kernel_rfl) (by kernel_rfl) (by kernel_rfl) ?_;simp only[List.dropLast];repeat (gi_big_quiet_step (fail))
    refine wpQuietIn_step (by intros;intro;intros;trivial) (fun K hK => ?_);rw[if_pos (show Region.wanted _ _=true from rfl)];gi_big_quiet_op;apply Exists.intro;refine⟨fun u => ?_,?_⟩
    ·first
      | (refine⟨fun h=>by cases h,(callsIn_wide.2 (a9.out _)).mono ?_⟩;rintro r w1 ⟨rfl,hB⟩;exact⟨rfl,w1,aN (chain (aD _ _) hB)⟩)
      | (refine⟨trivial,(callsIn_wide.2 (a9.out _)).mono ?_⟩;rintro r w1 ⟨rfl,hB⟩;exact⟨rfl,w1,aN (chain (aD _ _) hB)⟩)
      | (refine(callsIn_wide.2 (a9.out _)).mono ?_;rintro r w1 ⟨rfl,hB⟩;exact⟨rfl,w1,aN (chain (aD _ _) hB)⟩)
    refine hK _ ?_;clear hK K;repeat (gi_big_quiet_step (fail))
    refine wpQuietIn_step (by intros;intro;intros;trivial) (fun K hK => ?_);rw[if_pos (show Region.wanted _ _=true from rfl)];gi_big_quiet_op;apply Exists.intro;refine⟨fun u => ?_,?_⟩
    ·first
      | (refine⟨fun h=>by cases h,(callsIn_wide.2 (aE.out _)).mono ?_⟩;rintro r w1 ⟨rfl,hB⟩;exact⟨rfl,w1,aN (chain (aD _ _) hB)⟩)
      | (refine⟨trivial,(callsIn_wide.2 (aE.out _)).mono ?_⟩;rintro r w1 ⟨rfl,hB⟩;exact⟨rfl,w1,aN (chain (aD _ _) hB)⟩)
      | (refine(callsIn_wide.2 (aE.out _)).mono ?_;rintro r w1 ⟨rfl,hB⟩;exact⟨rfl,w1,aN (chain (aD _ _) hB)⟩)
    refine hK _ ?_;clear hK K;repeat (gi_big_quiet_step (fail))
    refine wpQuietIn_nil ?_;rintro wx ⟨u,rfl⟩;have a6:=aD W6 u;have k0:=aB a6 HL.out.2.2.2.2.2.1;have k1:=aB a6 HL.out.2.2.2.2.2.2.1;have a3:=rQ (ext W6 u) w1.heap.size (.int .u64 ((f0 ||| g0:Nat):Int)) (.int .u64 ((f1 ||| g1:Nat):Int)) (.int .u64 ((f2 ||| b5:Nat):Int)) (.int .u64 ((f3 ||| b6:Nat):Int)) (.int .u64 ((l0 ||| m0:Nat):Int)) (.int .u64 ((l1 ||| m1:Nat):Int)) (.int .u64 ((l2 ||| m2:Nat):Int)) (.int .u64 ((l3 ||| m3:Nat):Int)) (.bool f);have a2:=fH (YQ w.heap.size (ext W6 u)) (B:=w1.heap.size) (by omega) (.int .u64 ((f0 ||| g0:Nat):Int)) (.int .u64 ((f1 ||| g1:Nat):Int)) (.int .u64 ((f2 ||| b5:Nat):Int)) (.int .u64 ((f3 ||| b6:Nat):Int)) (.int .u64 ((l0 ||| m0:Nat):Int)) (.int .u64 ((l1 ||| m1:Nat):Int)) (.int .u64 ((l2 ||| m2:Nat):Int)) (.int .u64 ((l3 ||| m3:Nat):Int)) (.bool f);have n1:=CV k1 (.int .u64 ((f0 ||| g0:Nat):Int)) (.int .u64 ((f1 ||| g1:Nat):Int)) (.int .u64 ((f2 ||| b5:Nat):Int)) (.int .u64 ((f3 ||| b6:Nat):Int)) (.int .u64 ((l0 ||| m0:Nat):Int)) (.int .u64 ((l1 ||| m1:Nat):Int)) (.int .u64 ((l2 ||| m2:Nat):Int)) (.int .u64 ((l3 ||| m3:Nat):Int)) (.bool f);have a7:=(HL.out.1.below a6).same a3 (a2.mono (by omega)) (fun k hk e=>by rcases hk with hk | hk | hk | hk <;> omega);have hw6:=a6.size;have HN:Hid (_/\_/\_/\_/\_/\_/\_/\_/\_/\_/\_/\_/\_):=⟨a7,(by omega:g2=gb\/w.heap.size<=g2),(by omega:g2≠w.heap.size),(by omega:g2≠w1.heap.size),HL.out.2.1,HL.out.2.2.1,(aP HL.out.2.2.2.1 (bT (gb:=g2) a6) (by omega)).kept a2,(HL.out.2.2.2.2.1.trans (a6.mono (by omega))).trans (a2.mono (by omega)),a3.row k0 (by omega),n1,(by omega:s3.size<=s.size),HL.out.2.2.2.2.2.2.2,aF0 (by omega:w1.heap.size<(ext W6 u).heap.size) a3.1⟩;obtain⟨_,t0,t1,t2,t3,t4,t5,t6,t7,t8⟩:=gI k1;have HM:Hid (_/\_):=⟨a7.left,a0.out.1.left⟩;clear a6 k0 k1 a3 a2 n1 a7;simp only[List.getLast];refine⟨by intros;trivial,?_⟩;go_simp;clear y0 y1 y2 y3 y4 y5 y6 y7 y8 x0 x1 x2 x3 x4 x5 x6 x7 x8 t0 t1 t2 t3 t4 t5 t6 t7 t8;go_wp2;go_roundw;case rel=>exact⟨_,_,_,_,_,_,_,_,HN.out⟩
    case measure =>
     rw[HM.out.2];exact aK8 (Nat.le_of_eq HM.out.1) (by omega)
   ·refine jN (n:=9) rfl (by kernel_rfl) (by kernel_rfl) (by kernel_rfl) ?_;simp only[List.dropLast];repeat (gi_big_quiet_step (fail))
    refine wpQuietIn_step (by intros;intro;intros;trivial) (fun K hK => ?_);rw[if_pos (show Region.wanted _ _=true from rfl)];gi_big_quiet_op;apply Exists.intro;refine⟨fun u => ?_,?_⟩
    ·first
      | (refine⟨fun h=>by cases h,(callsIn_wide.2 (a9.out _)).mono ?_⟩;rintro r w1 ⟨rfl,hB⟩;exact⟨rfl,w1,aN (chain (aD _ _) hB)⟩)
      | (refine⟨trivial,(callsIn_wide.2 (a9.out _)).mono ?_⟩;rintro r w1 ⟨rfl,hB⟩;exact⟨rfl,w1,aN (chain (aD _ _) hB)⟩)
      | (refine(callsIn_wide.2 (a9.out _)).mono ?_;rintro r w1 ⟨rfl,hB⟩;exact⟨rfl,w1,aN (chain (aD _ _) hB)⟩)
    refine hK _ ?_;clear hK K;repeat (gi_big_quiet_step (fail))
    refine wpQuietIn_step (by intros;intro;intros;trivial) (fun K hK => ?_);rw[if_pos (show Region.wanted _ _=true from rfl)];gi_big_quiet_op;apply Exists.intro;refine⟨fun u => ?_,?_⟩
    ·first
      | (refine⟨fun h=>by cases h,(callsIn_wide.2 (aE.out _)).mono ?_⟩;rintro r w1 ⟨rfl,hB⟩;exact⟨rfl,w1,aN (chain (aD _ _) hB)⟩)
      | (refine⟨trivial,(callsIn_wide.2 (aE.out _)).mono ?_⟩;rintro r w1 ⟨rfl,hB⟩;exact⟨rfl,w1,aN (chain (aD _ _) hB)⟩)
      | (refine(callsIn_wide.2 (aE.out _)).mono ?_;rintro r w1 ⟨rfl,hB⟩;exact⟨rfl,w1,aN (chain (aD _ _) hB)⟩)
    refine hK _ ?_;clear hK K;repeat (gi_big_quiet_step (fail))
    refine wpQuietIn_nil ?_;rintro wx ⟨u,rfl⟩;have a6:=aD W6 u;have k0:=aB a6 HL.out.2.2.2.2.2.1;have k1:=aB a6 HL.out.2.2.2.2.2.2.1;have a3:=rQ (ext W6 u) w1.heap.size (.int .u64 ((f0 ||| g0:Nat):Int)) (.int .u64 ((f1 ||| g1:Nat):Int)) (.int .u64 ((f2 ||| b5:Nat):Int)) (.int .u64 ((f3 ||| b6:Nat):Int)) (.int .u64 ((l0 ||| m0:Nat):Int)) (.int .u64 ((l1 ||| m1:Nat):Int)) (.int .u64 ((l2 ||| m2:Nat):Int)) (.int .u64 ((l3 ||| m3:Nat):Int)) (.bool true);have a2:=fH (YQ w.heap.size (ext W6 u)) (B:=w1.heap.size) (by omega) (.int .u64 ((f0 ||| g0:Nat):Int)) (.int .u64 ((f1 ||| g1:Nat):Int)) (.int .u64 ((f2 ||| b5:Nat):Int)) (.int .u64 ((f3 ||| b6:Nat):Int)) (.int .u64 ((l0 ||| m0:Nat):Int)) (.int .u64 ((l1 ||| m1:Nat):Int)) (.int .u64 ((l2 ||| m2:Nat):Int)) (.int .u64 ((l3 ||| m3:Nat):Int)) (.bool true);have n1:=CV k1 (.int .u64 ((f0 ||| g0:Nat):Int)) (.int .u64 ((f1 ||| g1:Nat):Int)) (.int .u64 ((f2 ||| b5:Nat):Int)) (.int .u64 ((f3 ||| b6:Nat):Int)) (.int .u64 ((l0 ||| m0:Nat):Int)) (.int .u64 ((l1 ||| m1:Nat):Int)) (.int .u64 ((l2 ||| m2:Nat):Int)) (.int .u64 ((l3 ||| m3:Nat):Int)) (.bool true);have a7:=(HL.out.1.below a6).same a3 (a2.mono (by omega)) (fun k hk e=>by rcases hk with hk | hk | hk | hk <;> omega);have hw6:=a6.size;have HN:Hid (_/\_/\_/\_/\_/\_/\_/\_/\_/\_/\_/\_/\_):=⟨a7,(by omega:g2=gb\/w.heap.size<=g2),(by omega:g2≠w.heap.size),(by omega:g2≠w1.heap.size),HL.out.2.1,HL.out.2.2.1,(aP HL.out.2.2.2.1 (bT (gb:=g2) a6) (by omega)).kept a2,(HL.out.2.2.2.2.1.trans (a6.mono (by omega))).trans (a2.mono (by omega)),a3.row k0 (by omega),n1,(by omega:s3.size<=s.size),HL.out.2.2.2.2.2.2.2,aF0 (by omega:w1.heap.size<(ext W6 u).heap.size) a3.1⟩;obtain⟨_,t0,t1,t2,t3,t4,t5,t6,t7,t8⟩:=gI k1;have HM:Hid (_/\_):=⟨a7.left,a0.out.1.left⟩;clear a6 k0 k1 a3 a2 n1 a7;simp only[List.getLast];refine⟨by intros;trivial,?_⟩;go_simp;clear y0 y1 y2 y3 y4 y5 y6 y7 y8 x0 x1 x2 x3 x4 x5 x6 x7 x8 t0 t1 t2 t3 t4 t5 t6 t7 t8;go_wp2;go_roundw;case rel=>exact⟨_,_,_,_,_,_,_,_,HN.out⟩
    case measure =>
     rw[HM.out.2];exact aK8 (Nat.le_of_eq HM.out.1) (by omega)
  ·subst hw4;have HC2:Hid _:=hc2;obtain⟨⟨c0,c1,c2,c3,c4,c5,c6,c7,c8⟩,_⟩:=gI a0.out.2.2.2.2.2.2.2.2.2.1;obtain⟨⟨v0,v1,v2,v3,v4,v5,v6,v7,v8⟩,t0,t1,t2,t3,t4,t5,t6,t7,t8⟩:=gI a0.out.2.2.2.2.2.2.2.2.1;clear hc2;go_wp2;have a2:=fH (YQ w.heap.size w4) (B:=w.heap.size) (by omega) (.int .u64 (P.1.1:Int)) (.int .u64 (P.1.2.1:Int)) (.int .u64 (P.1.2.2.1:Int)) (.int .u64 (P.1.2.2.2:Int)) (.int .u64 (P.2.1.1:Int)) (.int .u64 (P.2.1.2.1:Int)) (.int .u64 (P.2.1.2.2.1:Int)) (.int .u64 (P.2.1.2.2.2:Int)) (.bool P.2.2);exact bodyPost_ret (results_cell_row rfl _ _ w.heap.size _ _ (0,0) _ rfl (CV a0.out.2.2.2.2.2.2.2.2.1 _ _ _ _ _ _ _ _ _) rfl rfl rfl) rfl ⟨P,t,s',a1,rfl,⟨a4,a5,⟨g,cap,cJ,a0.out.1.same (rQ _ w.heap.size _ _ _ _ _ _ _ _ _) (fH (YQ base _) (by omega) _ _ _ _ _ _ _ _ _) (fun k hk e=>by rcases hk with hk | hk | hk | hk <;> omega)⟩,a0.out.2.2.2.2.1,a0.out.2.2.2.2.2.1,a0.out.2.2.2.2.2.2.1.kept a2,a0.out.2.2.2.2.2.2.2.1.trans (a2.mono (by omega))⟩,cM,a0.out.2.2.2.2.2.2.2.2.2.2.2.1.stop HC2.out⟩
theorem wU:∀ N,ChoC N
 | 0=>fun _ _ _ _ _ _ _ _ _ _ _ _ _ h=>absurd h (Nat.not_lt_zero _)
 | N+1=>RL (row_of (TQ (wU N)))
theorem LA(base R X:Nat)(s:ByteArray)(n:Nat)(uc:Bool)(gb cb gt ct:Nat)(ss ts:List S4)(w:World)(h:Rdr w base R X s n uc gb cb gt ct ss ts):Calls Tryz.prog 74 #[.pointer (some ⟨R,0,none⟩)] w (NZ base R X n s uc gb gt ct ss ts w) :=
 wU (s.size+1) base R X s n uc gb cb gt ct ss ts w (by omega) h
end Go.Proofs.YtphjbbbnbmafnaaGreatDoor.G
