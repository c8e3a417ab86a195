/- Parts: XRe XWk RxN. -/
import Derived.Test.YtphjbbbnbmafnaaGreatDoorXCh
set_option maxHeartbeats 16000000
set_option maxRecDepth 100000
namespace Go.Proofs.YtphjbbbnbmafnaaGreatDoor.G
open Go.RowKit Go.Shelf RxM
variable {w:World} {R X base cb ct g gb gt n:Nat} {cs:Array Value} {ss ts:List S4} {s:ByteArray} {uc:Bool}
attribute [local go_sem] Oper.semAt_some
theorem LU(n:Nat):lM (List.replicate n z4)=List.replicate (n*4) (.int .u64 0):=by
 induction n with
 | zero=>rfl
 | succ n ih =>
  rw[List.replicate_succ,mW,ih,show(n+1)*4=n*4+1+1+1+1 by omega];simp only[List.replicate_succ];rfl
theorem made4(n:Nat):(madeCells #[.int .u64 0,.int .u64 0,.int .u64 0,.int .u64 0] (n*4)).toList=lM (List.replicate n z4):=by
 rw[LU];apply aG6;intro j;rw[aE9];by_cases h:j<n*4
 ·rw[if_pos h];rcases(show j % 4=0\/j % 4=1\/j % 4=2\/j % 4=3 by omega)with e | e | e | e <;> simp[madeCells,h,e]
 ·rw[if_neg h,aC7 (by simp[size_madeCells];omega)]
theorem JU(hcs:cs=madeCells #[.int .u64 0,.int .u64 0,.int .u64 0,.int .u64 0] (n*4))(hn:n<=26)(hb:base<=g)(h:w.heap[g]?=some (.cells cs 135 (0,0))):eG w base g n (List.replicate n z4):=by
 unfold eG;rw[aH3];refine⟨by rw[DT,aH3],.inr ⟨g,n,cs,rfl,hb,h,V7 _,by unfold maxLen;omega,by rw[hcs,size_madeCells],?_⟩⟩;rw[hcs,made4,aD2 (by rw[DT,aH3];omega)]
theorem DL{W:World}{q:ByteArray}{c1 cn:Array Value}(h1:c1=madeCells #[.int .u64 0,.int .u64 0,.int .u64 0,.int .u64 0] (1*4))(h2:cn=madeCells #[.int .u64 0,.int .u64 0,.int .u64 0,.int .u64 0] (n*4))(hn:n<=26)(hq:q.size<=200)(hT:oL W)(h0:0<base)
 (rR:W.heap[R]?=some (.cells #[.string q,.int .i64 (n:Int),.pointer (some ⟨X,0,none⟩),.bool false] 131 (0,0)))
 (rX:W.heap[X]?=some (.cells #[.slice (some ⟨gb,0,none⟩) 1 1,.slice (some ⟨gt,0,none⟩) n n,.int .u64 0,.int .u64 0,.int .u64 0,.int .u64 0] 137 (0,0)))
 (rb:W.heap[gb]?=some (.cells c1 135 (0,0))) (rt:W.heap[gt]?=some (.cells cn 135 (0,0))) (aG:R≠X/\R≠gb/\X≠gb/\R≠gt/\X≠gt/\gb≠gt) (hb:base<=R/\base<=X/\base<=gb/\base<=gt) :
 Rdr W base R X q n false gb 1 gt n [z4] (List.replicate n z4):=by
 refine⟨rR,by rw[aH3];exact rX,JU (n:=1) h1 (by omega) hb.2.2.1 rb,JU h2 hn hb.2.2.2 rt,?_,?_,hT,by simp,aG,⟨h0,hb⟩,by simp;omega,hn⟩
 ·intro s hs;rw[aF8]at hs;subst hs;exact eX
 ·intro s hs;rw[aK3 hs];exact eX
theorem lay3{W0:World}{ty:TypeId}(hR:W0.heap[R]?=some (.cells cs ty (0,0)))(A B E:Obj)(i:Nat)(v:Value):
 ((((W0.alloc A).alloc B).alloc E).setCell ⟨R,i,none⟩ v).drew.heap[R]?=some (.cells (cs.setIfInBounds i v) ty (0,0))/\((((W0.alloc A).alloc B).alloc E).setCell ⟨R,i,none⟩ v).drew.heap[W0.heap.size]?=some A/\((((W0.alloc A).alloc B).alloc E).setCell ⟨R,i,none⟩ v).drew.heap[W0.heap.size+1]?=some B/\((((W0.alloc A).alloc B).alloc E).setCell ⟨R,i,none⟩ v).drew.heap[W0.heap.size+1+1]?=some E:=by
 have hlt:=(aC2.1 hR).1;have hB:=heap_alloc_new (W0.alloc A) B;have hE:=heap_alloc_new ((W0.alloc A).alloc B) E;rw[aD1]at hB;rw[aD1,aD1]at hE;exact⟨aH _ R i _ _ _ v (aB (xal (xal (aA W0 A))) hR),aK _ R i _ v (aB (xal (aA _ _)) (heap_alloc_new W0 A)) (by omega),aK _ R i _ v (aB (aA _ _) hB) (by omega),aK _ R i _ v hE (by omega)⟩
structure aBe (w:World) (X n:Nat) (t:Rx) (ss ts:List S4) (en:S4):Prop where
 ex:Ex t n ss ts en
 bh:oO w X 0 ss
 tk:oO w X 1 ts
 e2:w.cell? ⟨X,2,none⟩=some (.int .u64 (en.1:Int))
 e3:w.cell? ⟨X,3,none⟩=some (.int .u64 (en.2.1:Int))
 e4:w.cell? ⟨X,4,none⟩=some (.int .u64 (en.2.2.1:Int))
 e5:w.cell? ⟨X,5,none⟩=some (.int .u64 (en.2.2.2:Int))
def UY(q:ByteArray)(n:Nat)(w:World)(e:Ending)(w':World):Prop :=
 Below w.heap.size w w'/\((e = .returned (.tuple #[.pointer none,.bool false])/\(200<q.size\/RxM.read n (codes q)=none)) \/
 ∃ X t ss ts en,e = .returned (.tuple #[.pointer (some ⟨X,0,none⟩),.bool true])/\q.size<=200/\RxM.read n (codes q)=some t/\aBe w' X n t ss ts en)
theorem IW{cap o:Nat}(h:eG w base g cap ss)(hc:w.cell? ⟨X,o,none⟩=some (.slice (some ⟨g,0,none⟩) ss.length cap)):oO w X o ss:=by
 refine⟨g,0,cap,hc,fun j s hs => ?_⟩;have hj:j<ss.length:=(aC4.1 hs).1;obtain⟨f0,f1,f2,f3⟩:=zS ss j s hs;have e0:=(h.cellAt (j*4) (by omega)).trans f0;have e1:=(h.cellAt (j*4+1) (by omega)).trans f1;have e2:=(h.cellAt (j*4+2) (by omega)).trans f2;have e3:=(h.cellAt (j*4+3) (by omega)).trans f3;rw[aG1];exact⟨e0,e1,e2,e3⟩
theorem Rdr.ends(h:Rdr w base R X s n uc gb cb gt ct ss ts):(w.cell? ⟨X,2,none⟩=some (.int .u64 0)/\w.cell? ⟨X,3,none⟩=some (.int .u64 0)/\w.cell? ⟨X,4,none⟩=some (.int .u64 0)/\w.cell? ⟨X,5,none⟩=some (.int .u64 0))/\w.frozen? ⟨X,2,none⟩=false/\w.frozen? ⟨X,3,none⟩=false/\w.frozen? ⟨X,4,none⟩=false/\w.frozen? ⟨X,5,none⟩=false :=
 ⟨⟨by rw[cell_of_row _ _ 2 _ _ _ h.rX];rfl,by rw[cell_of_row _ _ 3 _ _ _ h.rX];rfl,by rw[cell_of_row _ _ 4 _ _ _ h.rX];rfl,by rw[cell_of_row _ _ 5 _ _ _ h.rX];rfl⟩,frozen_of_row _ _ 2 _ _ h.rX,frozen_of_row _ _ 3 _ _ h.rX,frozen_of_row _ _ 4 _ _ h.rX,frozen_of_row _ _ 5 _ _ h.rX⟩
theorem Rdr.whole{t:Rx}{en:S4}(h:Rdr w base R X s n uc gb cb gt ct ss ts)(a0:Ex t n ss ts en):
 aBe ((((w.setCell ⟨X,2,none⟩ (.int .u64 (en.1:Int))).setCell ⟨X,3,none⟩ (.int .u64 (en.2.1:Int))).setCell ⟨X,4,none⟩ (.int .u64 (en.2.2.1:Int))).setCell ⟨X,5,none⟩ (.int .u64 (en.2.2.2:Int))) X n t ss ts en:=by
 have hs:=sP w X 2 3 4 5 (.int .u64 (en.1:Int)) (.int .u64 (en.2.1:Int)) (.int .u64 (en.2.2.1:Int)) (.int .u64 (en.2.2.2:Int));have aG:=h.ne;have ob:=aF h.ob hs (fun k e=>by simp only[Value.ownBlock,aC5]at e;omega);have ot:=aF h.ot hs (fun k e=>by simp only[Value.ownBlock,aC5]at e;omega);have k2:(w.setCell ⟨X,2,none⟩ (.int .u64 (en.1:Int))).heap[X]?=some (.cells #[.slice (some ⟨gb,0,none⟩) ss.length cb,.slice (some ⟨gt,0,none⟩) ts.length ct,.int .u64 (en.1:Int),.int .u64 0,.int .u64 0,.int .u64 0] 137 (0,0)):=aH _ X 2 _ _ _ _ h.rX;have k3:((w.setCell ⟨X,2,none⟩ (.int .u64 (en.1:Int))).setCell ⟨X,3,none⟩ (.int .u64 (en.2.1:Int))).heap[X]?=some (.cells #[.slice (some ⟨gb,0,none⟩) ss.length cb,.slice (some ⟨gt,0,none⟩) ts.length ct,.int .u64 (en.1:Int),.int .u64 (en.2.1:Int),.int .u64 0,.int .u64 0] 137 (0,0)):=aH _ X 3 _ _ _ _ k2;have k4:(((w.setCell ⟨X,2,none⟩ (.int .u64 (en.1:Int))).setCell ⟨X,3,none⟩ (.int .u64 (en.2.1:Int))).setCell ⟨X,4,none⟩ (.int .u64 (en.2.2.1:Int))).heap[X]?=some (.cells #[.slice (some ⟨gb,0,none⟩) ss.length cb,.slice (some ⟨gt,0,none⟩) ts.length ct,.int .u64 (en.1:Int),.int .u64 (en.2.1:Int),.int .u64 (en.2.2.1:Int),.int .u64 0] 137 (0,0)):=aH _ X 4 _ _ _ _ k3;have k5:((((w.setCell ⟨X,2,none⟩ (.int .u64 (en.1:Int))).setCell ⟨X,3,none⟩ (.int .u64 (en.2.1:Int))).setCell ⟨X,4,none⟩ (.int .u64 (en.2.2.1:Int))).setCell ⟨X,5,none⟩ (.int .u64 (en.2.2.2:Int))).heap[X]?=some (.cells #[.slice (some ⟨gb,0,none⟩) ss.length cb,.slice (some ⟨gt,0,none⟩) ts.length ct,.int .u64 (en.1:Int),.int .u64 (en.2.1:Int),.int .u64 (en.2.2.1:Int),.int .u64 (en.2.2.2:Int)] 137 (0,0)):=aH _ X 5 _ _ _ _ k4;exact⟨a0,IW ob (by rw[cell_of_row _ _ 0 _ _ _ k5];rfl),IW ot (by rw[cell_of_row _ _ 1 _ _ _ k5];rfl),by rw[cell_of_row _ _ 2 _ _ _ k5];rfl,by rw[cell_of_row _ _ 3 _ _ _ k5];rfl,by rw[cell_of_row _ _ 4 _ _ _ k5];rfl,by rw[cell_of_row _ _ 5 _ _ _ k5];rfl⟩
theorem VK(q:ByteArray)(n:Nat)(hn:n<=26)(w:World)(hT:oL w):Calls Tryz.prog 44 #[.string q,.int .i64 (n:Int)] w (UY q n w):=by
 have h0w:0<w.heap.size:=aE6 _ _ (hT 0 (by decide));by_cases hq:200<q.size
 ·have hqI:(200:Int)<(q.size:Int):=by omega
  go_enter Tryz.func44,Tryz.ntmps44
  go_wp2;go_ret2;exact⟨YQ _ _,.inl ⟨rfl,.inl hq⟩⟩
 ·have hqI:¬(200:Int)<(q.size:Int):=by omega
  obtain⟨W0,a4⟩:∃ W0,W0=w.alloc (.cells #[.string q,.int .i64 (n:Int),.pointer none,.bool false] 131):=⟨_,rfl⟩;have hJ:Below w.heap.size w W0:=by rw[a4];exact aA _ _
  have r0:W0.heap[w.heap.size]?=some (.cells #[.string q,.int .i64 (n:Int),.pointer none,.bool false] 131 (0,0)):=by rw[a4];exact heap_alloc_new w _
  have hs0:w.heap.size<W0.heap.size:=by rw[a4];simp
  obtain⟨i1,hi1,hz0,hz1,hz2⟩:=info_parts Tryz.infoSt;have HJ:Hid _:=hJ;have b1:Hid _:=r0;have HTz:Hid _:=hT;clear hJ r0 hT;go_enter Tryz.func44,Tryz.ntmps44
  obtain⟨c1,b9⟩:∃ c1,c1=madeCells #[.int .u64 0,.int .u64 0,.int .u64 0,.int .u64 0] (1*4):=⟨_,rfl⟩;obtain⟨cn,bS⟩:∃ cn,cn=madeCells #[.int .u64 0,.int .u64 0,.int .u64 0,.int .u64 0] (n*4):=⟨_,rfl⟩;have mk1:∀ W,(Instr.makeSlice 132 (.int .i64 1) (.int .i64 1)).run Tryz.prog W = .ok (.slice (some ⟨W.heap.size,0,none⟩) 1 1) (W.alloc (.cells c1 135)):=fun W=>by
   have:=run_make (P:=Tryz.prog) W 132 135 i1 _ Tryz.underlying132 hi1 hz0 .i64 .i64 1 1 (by omega) (by omega) (by rw[hz2];omega) (by omega);rw[hz1]at this;rw[b9];exact this
  have mkn:∀ W,(Instr.makeSlice 132 (.int .i64 (n:Int)) (.int .i64 (n:Int))).run Tryz.prog W = .ok (.slice (some ⟨W.heap.size,0,none⟩) n n) (W.alloc (.cells cn 135)):=fun W=>by
   have:=run_make (P:=Tryz.prog) W 132 135 i1 _ Tryz.underlying132 hi1 hz0 .i64 .i64 (n:Int) (n:Int) (by omega) (by omega) (by rw[hz2];omega) (by omega);rw[hz1,aG3]at this;rw[bS];exact this
  have HC1:Hid _:=b9;have HCn:Hid _:=bS;clear b9 bS;go_upto_region 4 with fail
  rw[<-a4];have HW0:Hid _:=a4;clear a4;have k3:=fun o1 o2 o3=>aB (xal (o:=o3) (xal (o:=o2) (aA W0 o1))) b1.out;have a2:=fun o1 o2 o3=>(dO (k3 o1 o2 o3)).1.2.2.1;have z2:=fun o1 o2 o3=>(dO (k3 o1 o2 o3)).2.2.2.1;clear k3;go_cut [] (fun wx=>∃ X gb gt,Hid (Rdr wx w.heap.size w.heap.size X q n false gb 1 gt n [z4] (List.replicate n z4)/\Below w.heap.size w wx))
  case first =>
   go_region
   ·have hL:=lay3 b1.out (.cells c1 135) (.cells cn 135) (.cells #[.slice (some ⟨W0.heap.size,0,none⟩) 1 1,.slice (some ⟨W0.heap.size+1,0,none⟩) n n,.int .u64 0,.int .u64 0,.int .u64 0,.int .u64 0] 137) 2 (.pointer (some ⟨W0.heap.size+1+1,0,none⟩));have a3:Below w.heap.size w ((((W0.alloc (.cells c1 135)).alloc (.cells cn 135)).alloc (.cells #[.slice (some ⟨W0.heap.size,0,none⟩) 1 1,.slice (some ⟨W0.heap.size+1,0,none⟩) n n,.int .u64 0,.int .u64 0,.int .u64 0,.int .u64 0] 137)).setCell ⟨w.heap.size,2,none⟩ (.pointer (some ⟨W0.heap.size+1+1,0,none⟩))).drew:=(((HJ.out.trans ((xal (xal (aA W0 _))).mono (by omega))).setCell (p:=⟨w.heap.size,2,none⟩) (V7 _) _)).drew;have HF:Hid (_/\_):=⟨DL HC1.out HCn.out hn (by omega) (oL.below (w:=w) HTz.out a3) h0w hL.1 hL.2.2.2 hL.2.1 hL.2.2.1 (by omega) (by omega),a3⟩;clear hL a3;go_wp2_with fail
    go_meet;case rel=>exact⟨_,_,_,HF.out⟩
   ·have hL:=lay3 b1.out (.cells cn 135) (.cells c1 135) (.cells #[.slice (some ⟨W0.heap.size+1,0,none⟩) 1 1,.slice (some ⟨W0.heap.size,0,none⟩) n n,.int .u64 0,.int .u64 0,.int .u64 0,.int .u64 0] 137) 2 (.pointer (some ⟨W0.heap.size+1+1,0,none⟩));have a3:Below w.heap.size w ((((W0.alloc (.cells cn 135)).alloc (.cells c1 135)).alloc (.cells #[.slice (some ⟨W0.heap.size+1,0,none⟩) 1 1,.slice (some ⟨W0.heap.size,0,none⟩) n n,.int .u64 0,.int .u64 0,.int .u64 0,.int .u64 0] 137)).setCell ⟨w.heap.size,2,none⟩ (.pointer (some ⟨W0.heap.size+1+1,0,none⟩))).drew:=(((HJ.out.trans ((xal (xal (aA W0 _))).mono (by omega))).setCell (p:=⟨w.heap.size,2,none⟩) (V7 _) _)).drew;have HF:Hid (_/\_):=⟨DL HC1.out HCn.out hn (by omega) (oL.below (w:=w) HTz.out a3) h0w hL.1 hL.2.2.2 hL.2.2.1 hL.2.1 (by omega) (by omega),a3⟩;clear hL a3;go_wp2_with fail
    go_meet;case rel=>exact⟨_,_,_,HF.out⟩
  case rest =>
   obtain⟨X,gb,gt,HC⟩:=hcut;have HD:Hid (_/\_):=HC.out;clear HC a2 z2 mk1 mkn;go_wp2_with fail
   refine(LA w.heap.size w.heap.size X q n false gb 1 gt n [z4] (List.replicate n z4) wc HD.out.1).mono ?_;rintro e w2 ⟨P,t,s2,uc2,rfl,⟨ss2,ts2,⟨g,cap,hg,hR2⟩,hlaid,hpart,hsm,hbw⟩,hsz2,hpost⟩;have hlc:=HD.out.1.lt;have hl2:=hR2.lt;have hz2':=hsm.1;obtain⟨W3,a1⟩:∃ W3,W3=w2.alloc (.cells (c9 P) 139):=⟨_,rfl⟩;have b6:Below w2.heap.size w2 W3:=by rw[a1];exact aA _ _
   have q7:W3.heap[w2.heap.size]?=some (.cells (c9 P) 139 (0,0)):=by rw[a1];exact heap_alloc_new w2 _
   have hz3:w2.heap.size<W3.heap.size:=by rw[a1];simp
   have hR3:=hR2.below b6;have hB3:Below w.heap.size w W3:=(HD.out.2.trans hbw).trans (b6.mono (by have:=HD.out.2.size;omega));have HK:Hid (_/\_/\_/\_/\_):=⟨hR3,hB3,q7,hlaid,hpart⟩;have HP:Hid _:=hpost;have y:=fun o=>(hR2.below (aA w2 o)).cells;have y0:=fun o=>(y o).1.1;have y3:=fun o=>(y o).1.2.2.2;clear hR2 hlaid hpart hsm hbw hpost q7 b6 hR3 hB3 y;obtain⟨⟨f0,f1,f2,f3⟩,⟨l0,l1,l2,l3⟩,e⟩:=P;simp only[vp];cases uc2;case true =>
    go_wp2;rw[<-a1];go_ret2;refine⟨HK.out.2.1,.inl ⟨rfl,.inr ?_⟩⟩;rcases HP.out with ⟨h1,_⟩ | ⟨_,h2⟩
    ·cases h1
    ·exact QW h2
   case false =>
    by_cases hs2:s2.size=0
    ·obtain rfl:s2=⟨#[]⟩:=ByteArray.size_eq_zero_iff.1 hs2;have aL:=oC 0 (by decide) W3;obtain⟨z,hz⟩:∃ z,gY 0=z:=⟨_,rfl⟩;have HZ:Hid (gY 0=z):=hz;have bW:ok4 z:=hz ▸ oI _;rw[hz]at aL;clear hz;obtain⟨o0,o1,o2,o3⟩:=z;simp only[v4]at aL;have HOn:Hid (Calls Tryz.prog 75 #[.int .i64 0] W3 _):=aL;clear aL;go_upto_region 8 with fail
     rw[<-a1];have HW3:Hid _:=a1;clear a1 y0 y3;go_wp2_with fail
     refine HOn.out.mono ?_;rintro e4 w4 ⟨rfl,hB4⟩;obtain⟨W5,a5⟩:∃ W5,W5=w4.alloc (.cells #[.int .u64 0,.int .u64 0,.int .u64 0,.int .u64 0,.int .u64 (o0:Int),.int .u64 (o1:Int),.int .u64 (o2:Int),.int .u64 (o3:Int),.bool false] 139):=⟨_,rfl⟩;have a9:Below w4.heap.size w4 W5:=by rw[a5];exact aA _ _
     have q8:W5.heap[w4.heap.size]?=some (.cells #[.int .u64 0,.int .u64 0,.int .u64 0,.int .u64 0,.int .u64 (o0:Int),.int .u64 (o1:Int),.int .u64 (o2:Int),.int .u64 (o3:Int),.bool false] 139 (0,0)):=by rw[a5];exact heap_alloc_new w4 _
     have aE:=(HK.out.1.below hB4).below a9;have q7:=aB a9 (aB hB4 HK.out.2.2.1);have hB5:Below w.heap.size w W5:=(HK.out.2.1.trans (hB4.mono HK.out.2.1.size)).trans (a9.mono (aD9 HK.out.2.1.size hB4.size));have b0:Hid (Calls Tryz.prog 76 #[.pointer (some ⟨w.heap.size,0,none⟩),.agg #[.int .u64 0,.int .u64 0,.int .u64 0,.int .u64 0,.int .u64 (o0:Int),.int .u64 (o1:Int),.int .u64 (o2:Int),.int .u64 (o3:Int),.bool false],.agg #[.int .u64 (f0:Int),.int .u64 (f1:Int),.int .u64 (f2:Int),.int .u64 (f3:Int),.int .u64 (l0:Int),.int .u64 (l1:Int),.int .u64 (l2:Int),.int .u64 (l3:Int),.bool e]] W5.drew _):=wI w.heap.size w.heap.size X ⟨#[]⟩ n false g cap gt n ss2 ts2 (z4,(o0,o1,o2,o3),false) ((f0,f1,f2,f3),(l0,l1,l2,l3),e) eX bW HK.out.2.2.2.2.ok1 HK.out.2.2.2.2.ok2 W5.drew (aE.below ((YQ _ _).drew)) (fun p hp=>by
      have h1:dP (gY 0) p=true:=by rw[HZ.out];exact hp
      rw[jM (by decide)]at h1;simp at h1;rw[HK.out.2.2.2.1.len];simp;omega)
     have HL:Hid (_/\_):=⟨aE,hB5⟩;obtain⟨J,b7⟩:∃ J,yG (z4,(o0,o1,o2,o3),false) ((f0,f1,f2,f3),(l0,l1,l2,l3),e)=J:=⟨_,rfl⟩;rw[b7]at b0;have HJe:Hid _:=b7;clear b7;obtain⟨⟨j0,j1,j2,j3⟩,⟨k0,k1,k2,k3⟩,b⟩:=J;simp only[vp]at b0;have hfl:∀ W,(Instr.field 139 (.agg #[.int .u64 (j0:Int),.int .u64 (j1:Int),.int .u64 (j2:Int),.int .u64 (j3:Int),.int .u64 (k0:Int),.int .u64 (k1:Int),.int .u64 (k2:Int),.int .u64 (k3:Int),.bool b]) 1).run Tryz.prog W = .ok (.agg #[.int .u64 (k0:Int),.int .u64 (k1:Int),.int .u64 (k2:Int),.int .u64 (k3:Int)]) W:=fun _=>by kernel_rfl
     obtain⟨⟨_,_,x2,_⟩,_⟩:=aE.cells;obtain⟨⟨c0,c1',c2,c3,c4,c5,c6,c7,c8⟩,_⟩:=gI q7;obtain⟨⟨d0,d1,d2,d3,d4,d5,d6,d7,d8⟩,_⟩:=gI q8;clear aE q7 q8 hB5 a9 hB4;go_upto_region 9 with fail
     rw[<-a5];have HW5:Hid _:=a5;clear a5;go_cut [] (fun wx=>Hid (Below w.heap.size w wx/\∃ ss ts en,aBe wx X n t ss ts en/\wx.cell? ⟨w.heap.size,2,none⟩=some (.pointer (some ⟨X,0,none⟩))))
     case first =>
      go_region_with (refine b0.out.mono ?_;rintro e6 w6 ⟨rfl,hR6,hS6,hB6⟩;obtain⟨⟨_,_,m2,_⟩,_⟩:=hR6.cells;obtain⟨⟨v2,v3,v4',v5⟩,b2,b3,b4,b5⟩:=hR6.ends)
      all_goals
       have a0:=ZE (P:=((f0,f1,f2,f3),(l0,l1,l2,l3),e)) HK.out.2.2.2.1 HK.out.2.2.2.2 (by rw[HZ.out];exact hR6.okb) hR6.okt;unfold GY at a0;rw[HZ.out,HJe.out]at a0;have hw:=hR6.whole a0;have a7:=hR6.ne;have a6:=hR6.bs;have hcr:=((sP w6 X 2 3 4 5 (.int .u64 (k0:Int)) (.int .u64 (k1:Int)) (.int .u64 (k2:Int)) (.int .u64 (k3:Int))).cell m2 a7.1);have HF:Hid (_/\_/\_):=⟨kC (HL.out.2.drew.trans hB6) (g:=X) a6.2.2.1 2 3 4 5 (.int .u64 (k0:Int)) (.int .u64 (k1:Int)) (.int .u64 (k2:Int)) (.int .u64 (k3:Int)),hw,hcr⟩;clear a0 hw a7 a6 hcr hR6 hS6 hB6 m2 v2 v3 v4' v5 b2 b3 b4 b5;go_wp2_with fail
       go_meet;case rel=>exact⟨HF.out.1,_,_,_,HF.out.2.1,HF.out.2.2⟩
     case rest =>
      have HF:Hid (_/\_):=hcut.out;clear hcut x2 c0 c1' c2 c3 c4 c5 c6 c7 c8 d0 d1 d2 d3 d4 d5 d6 d7 d8;obtain⟨sa,ta,en,hE,hcell⟩:=HF.out.2;have HE:Hid _:=hE;clear hE;go_wp2;go_ret2;refine⟨HF.out.1,.inr ⟨X,t,sa,ta,en,rfl,by omega,?_,HE.out⟩⟩;rcases HP.out with ⟨_,q1,f,h1,h2,h3,_⟩ | ⟨h1,_⟩
      ·rw[h1,show codes ⟨#[]⟩=[]from rfl,aE4,h3];exact SV h2
      ·cases h1
    ·have aG:=xR (s:=s2) (by omega);have hni:s2.toList.isEmpty=false:=by rw[Bool.eq_false_iff];exact fun e=>aG (List.isEmpty_iff.1 e)
     go_wp2;rw[<-a1];go_ret2;refine⟨HK.out.2.1,.inl ⟨rfl,.inr ?_⟩⟩;rcases HP.out with ⟨_,q1,f,h1,h2,_,h3⟩ | ⟨h1,_⟩
     ·rw[h1];cases hc:codes s2 with
      | nil =>
       have:=congrArg List.length hc;rw[cO]at this;exact absurd this hs2
      | cons c l =>
       rw[hc]at h3;exact OG h2 h3
     ·cases h1
end Go.Proofs.YtphjbbbnbmafnaaGreatDoor.G
namespace Go.Proofs.YtphjbbbnbmafnaaGreatDoor.G
open Go.RowKit Go.Shelf RxM
variable {w w':World} {Gp K X base gs n:Nat} {wv:Value} {wait:List Nat}
abbrev Wst:=S4×S4×Value×Bool
def eU(l:List Wst):List Value:=l.flatMap fun x=>[.int .u64 (x.1.1:Int),.int .u64 (x.1.2.1:Int),.int .u64 (x.1.2.2.1:Int),.int .u64 (x.1.2.2.2:Int),.int .u64 (x.2.1.1:Int),.int .u64 (x.2.1.2.1:Int),.int .u64 (x.2.1.2.2.1:Int),.int .u64 (x.2.1.2.2.2:Int),x.2.2.1,.bool x.2.2.2]
theorem dW(x:Wst)(l:List Wst):eU (x::l) = .int .u64 (x.1.1:Int)::.int .u64 (x.1.2.1:Int)::.int .u64 (x.1.2.2.1:Int)::.int .u64 (x.1.2.2.2:Int)::.int .u64 (x.2.1.1:Int)::.int .u64 (x.2.1.2.1:Int)::.int .u64 (x.2.1.2.2.1:Int)::.int .u64 (x.2.1.2.2.2:Int)::x.2.2.1::.bool x.2.2.2::eU l:=rfl
theorem xO(l:List Wst):(eU l).length=l.length*10:=by
 induction l with
 | nil=>rfl
 | cons x l ih=>rw[dW];simp only[aE7,ih];omega
theorem dV(l:List Wst)(j:Nat)(x:Wst)(h:l[j]?=some x):(eU l)[j*10]?=some (.int .u64 (x.1.1:Int))/\(eU l)[j*10+1]?=some (.int .u64 (x.1.2.1:Int))/\(eU l)[j*10+2]?=some (.int .u64 (x.1.2.2.1:Int))/\(eU l)[j*10+3]?=some (.int .u64 (x.1.2.2.2:Int))/\(eU l)[j*10+4]?=some (.int .u64 (x.2.1.1:Int))/\(eU l)[j*10+5]?=some (.int .u64 (x.2.1.2.1:Int))/\(eU l)[j*10+6]?=some (.int .u64 (x.2.1.2.2.1:Int))/\(eU l)[j*10+7]?=some (.int .u64 (x.2.1.2.2.2:Int))/\(eU l)[j*10+8]?=some x.2.2.1/\(eU l)[j*10+9]?=some (.bool x.2.2.2):=by
 induction l generalizing j with
 | nil=>simp at h
 | cons y l ih =>
  rw[dW];cases j with
  | zero=>simp at h;subst h;exact⟨rfl,rfl,rfl,rfl,rfl,rfl,rfl,rfl,rfl,rfl⟩
  | succ j =>
   rw[aJ5]at h;have:=ih j h;rw[show(j+1)*10=j*10+10 by omega];exact this
theorem EM(l:List Wst)(j:Nat)(x:Wst)(h:l[j]?=some x)(s:S4):((((eU l).set (j*10) (.int .u64 (s.1:Int))).set (j*10+1) (.int .u64 (s.2.1:Int))).set (j*10+2) (.int .u64 (s.2.2.1:Int))).set (j*10+3) (.int .u64 (s.2.2.2:Int))=eU (l.set j (s,x.2)):=by
 induction l generalizing j with
 | nil=>simp at h
 | cons y l ih =>
  rw[dW];cases j with
  | zero=>simp at h;subst h;rfl
  | succ j =>
   rw[aJ5]at h;rw[show ∀ z,(y::l).set (j+1) z=y::l.set j z from fun _=>rfl,dW y (l.set j _),<-ih j h,show(j+1)*10=j*10+10 by omega];rfl
theorem EB(l:List Wst)(j:Nat)(x:Wst)(h:l[j]?=some x)(s:S4):((((eU l).set (j*10+4) (.int .u64 (s.1:Int))).set (j*10+5) (.int .u64 (s.2.1:Int))).set (j*10+6) (.int .u64 (s.2.2.1:Int))).set (j*10+7) (.int .u64 (s.2.2.2:Int))=eU (l.set j (x.1,s,x.2.2)):=by
 induction l generalizing j with
 | nil=>simp at h
 | cons y l ih =>
  rw[dW];cases j with
  | zero=>simp at h;subst h;rfl
  | succ j =>
   rw[aJ5]at h;rw[show ∀ z,(y::l).set (j+1) z=y::l.set j z from fun _=>rfl,dW y (l.set j _),<-ih j h,show(j+1)*10=j*10+10 by omega];rfl
theorem CZ(l:List Wst)(j:Nat)(x:Wst)(h:l[j]?=some x)(v:Value)(b:Bool):((eU l).set (j*10+8) v).set (j*10+9) (.bool b)=eU (l.set j (x.1,x.2.1,v,b)):=by
 induction l generalizing j with
 | nil=>simp at h
 | cons y l ih =>
  rw[dW];cases j with
  | zero=>simp at h;subst h;rfl
  | succ j =>
   rw[aJ5]at h;rw[show ∀ z,(y::l).set (j+1) z=y::l.set j z from fun _=>rfl,dW y (l.set j _),<-ih j h,show(j+1)*10=j*10+10 by omega];rfl
abbrev mE(w:World)(base g n:Nat)(l:List Wst):Prop:=w.ownsRow base 151 10 (.slice (some ⟨g,0,none⟩) n n) n (eU l)
abbrev ints(l:List Nat):List Value:=l.map fun(v:Nat)=>Value.int .i64 (v:Int)
structure lL (outs:Nat->List E3) (w:World) (base K Gp X n gs:Nat) (wv:Value) (l:List Wst) (wait:List Nat):Prop where
 rK:w.heap[K]?=some (.cells #[.pointer (some ⟨Gp,0,none⟩),.pointer (some ⟨X,0,none⟩),.slice (some ⟨gs,0,none⟩) n n,wv] 146 (0,0))
 os:mE w base gs n l
 ow:w.ownsRow base 3 1 wv wait.length (ints wait)
 len:l.length=n
 ok:∀ x∈l,ok4 x.1/\ok4 x.2.1
 ne:K≠gs/\∀ g,wv.ownBlock=some g->g≠K/\g≠gs
 bs:base<=K/\base<=gs
 ed:∀(u:Nat) (x:Wst),l[u]?=some x->x.2.2.2=true->w.ownsRow base 38 3 x.2.2.1 (outs u).length (flat (outs u))/\∀ g,x.2.2.1.ownBlock=some g->g≠K/\g≠gs/\wv.ownBlock≠some g
variable {outs:Nat->List E3}
theorem lL.lt{l:List Wst}(h:lL outs w base K Gp X n gs wv l wait):K<w.heap.size/\gs<w.heap.size/\∀ g,wv.ownBlock=some g->base<=g/\g<w.heap.size :=
 ⟨(aC2.1 h.rK).1,(h.os.lt gs rfl).2,h.ow.lt⟩
theorem lL.same{S:Nat->Prop}{l:List Wst}(h:lL outs w base K Gp X n gs wv l wait)(hs:Same w w' S)(hK:¬ S K)(hg:¬ S gs)(hw:∀ g,wv.ownBlock=some g->¬ S g)(he:∀(u:Nat) (x:Wst),l[u]?=some x->x.2.2.2=true->∀ g,x.2.2.1.ownBlock=some g->¬ S g):lL outs w' base K Gp X n gs wv l wait :=
 ⟨hs.row h.rK hK,aF h.os hs (fun g e=>by simp only[Value.ownBlock,aC5]at e;subst e;exact hg),aF h.ow hs hw,h.len,h.ok,h.ne,h.bs,fun u x hx ha=>⟨aF (h.ed u x hx ha).1 hs (he u x hx ha),(h.ed u x hx ha).2⟩⟩
theorem lL.below{l:List Wst}(h:lL outs w base K Gp X n gs wv l wait)(hB:Below w.heap.size w w'):lL outs w' base K Gp X n gs wv l wait :=
 h.same (Same.below hB) id id (fun _ _=>id) (fun _ _ _ _ _ _=>id)
theorem lL.wrote{l l':List Wst}(h:lL outs w base K Gp X n gs wv l wait)(hs:Same w w' (fun k=>k=gs))(ho:mE w' base gs n l')(hlen:l'.length=n)(hok:∀ x∈l',ok4 x.1/\ok4 x.2.1)
 (he:∀(u:Nat) (x':Wst),l'[u]?=some x'->x'.2.2.2=true->∃ x:Wst,l[u]?=some x/\x.2.2=x'.2.2):lL outs w' base K Gp X n gs wv l' wait:=by
 refine⟨hs.row h.rK h.ne.1,ho,aF h.ow hs (fun g e=>(h.ne.2 g e).2),hlen,hok,h.ne,h.bs,fun u x' hx ha => ?_⟩;obtain⟨x,hx1,hx2⟩:=he u x' hx ha;have:=h.ed u x hx1 (by rw[hx2];exact ha);rw[hx2]at this;exact⟨aF this.1 hs (fun g e=>(this.2 g e).2.1),this.2⟩
theorem V8{l:List Wst}{v:Nat}{x:Wst}(hx:l[v]?=some x){s f:S4}(u:Nat)(x':Wst)(h:(l.set v (s,f,x.2.2))[u]?=some x'):∃ y,l[u]?=some y/\y.2.2=x'.2.2:=by
 by_cases e:v=u
 ·subst e;rw[aE5 (aC4.1 hx).1]at h;injection h with h;subst h;exact⟨x,hx,rfl⟩
 ·rw[aF4 e]at h;exact⟨x',h,rfl⟩
theorem N7{l:List Wst}(h:∀ x∈l,ok4 x.1/\ok4 x.2.1)(v:Nat){y:Wst}(hy:ok4 y.1/\ok4 y.2.1):∀ x∈l.set v y,ok4 x.1/\ok4 x.2.1:=fun x hx=>by
 rcases List.mem_or_eq_of_mem_set hx with hx | rfl
 ·exact h x hx
 ·exact hy
end Go.Proofs.YtphjbbbnbmafnaaGreatDoor.G
namespace Go.Proofs.YtphjbbbnbmafnaaGreatDoor.G
open RxM
variable {l:List Wst} {u v:Nat} {x:Wst} {wt:List Nat} {fr:S4}
abbrev sa(l:List Wst):List S4:=l.map fun(x:Wst)=>x.1
abbrev sb(l:List Wst):List S4:=l.map fun(x:Wst)=>x.2.1
theorem XQ(h:l[v]?=some x):(sa l).getD v z4=x.1:=by
 rw[aC1,aD0,h];rfl
theorem aAx(h:l[v]?=some x):(sb l).getD v z4=x.2.1:=by
 rw[aC1,aD0,h];rfl
theorem BQ(l:List Wst)(v:Nat)(x:Wst):sa (l.set v x)=(sa l).set v x.1:=by unfold sa;rw[List.map_set]
theorem BL(l:List Wst)(v:Nat)(x:Wst):sb (l.set v x)=(sb l).set v x.2.1:=by unfold sb;rw[List.map_set]
def Eof(outs:Nat->List E3)(m c v:Nat):Prop:=((m:Int),(c:Int),(v:Int))∈outs m
def GX(outs:Nat->List E3)(n s:Nat):Prop:=∀ u,u<n->(outs u).length<=1000000/\∀ e∈outs u,∃ c v:Nat,e=((u:Int),(c:Int),(v:Int))/\c<s/\v<n
variable {outs:Nat->List E3} {t:Rx} {n s u0:Nat} {ss ts:List S4} {en:S4}
def Lft(outs:Nat->List E3)(u:Nat)(fr:S4)(j:Nat)(m p c v:Nat):Prop:=m=u/\dP fr p=true/\((u:Int),(c:Int),(v:Int))∈(outs u).drop j
theorem ZF(a0:Ex t s ss ts en){j c:Nat}(hj:(outs u)[j]?=some ((u:Int),(c:Int),(v:Int)))(hv:v<n)(hc:c<s)
 (hfr:∀ p,dP fr p=true->Rc (bh0 t) (tk0 t) (Eof outs) u0 p u/\p<ss.length) (hx:l[v]?=some x) (hok:∀ x∈l,ok4 x.1/\ok4 x.2.1)
 (h:Wk (bh0 t) (tk0 t) (Eof outs) u0 n ss.length (sa l) (sb l) wt (Lft outs u fr j)) (bhd:S4) (hbk:ok4 bhd) (hbd:∀ q,dP bhd q=true↔∃ p,dP fr p=true/\bh0 t p q=true) :
 Wk (bh0 t) (tk0 t) (Eof outs) u0 n ss.length (sa (if wo4 (qQ bhd (ts.getD c z4)) x.1=z4 then l else l.set v (or4 x.1 (wo4 (qQ bhd (ts.getD c z4)) x.1),or4 x.2.1 (wo4 (qQ bhd (ts.getD c z4)) x.1),x.2.2)))
  (sb (if wo4 (qQ bhd (ts.getD c z4)) x.1=z4 then l else l.set v (or4 x.1 (wo4 (qQ bhd (ts.getD c z4)) x.1),or4 x.2.1 (wo4 (qQ bhd (ts.getD c z4)) x.1),x.2.2)))
  (if wo4 (qQ bhd (ts.getD c z4)) x.1=z4 then wt else if x.2.1=z4 then wt++[v]else wt) (Lft outs u fr (j+1)) /\
 todo (sa (if wo4 (qQ bhd (ts.getD c z4)) x.1=z4 then l else l.set v (or4 x.1 (wo4 (qQ bhd (ts.getD c z4)) x.1),or4 x.2.1 (wo4 (qQ bhd (ts.getD c z4)) x.1),x.2.2))) (if wo4 (qQ bhd (ts.getD c z4)) x.1=z4 then wt else if x.2.1=z4 then wt++[v]else wt) n ss.length<=todo (sa l) wt n ss.length:=by
 have hxo:=hok x (aC3 hx);have b8:∀ q,dP (qQ bhd (ts.getD c z4)) q=true↔dP bhd q=true/\tk0 t c q=true:=fun q=>by rw[yC,aD6,a0.tk c q hc]
 have hed:Eof outs u c v:=aC3 hj;have a8:=ZM (Y:=Lft outs u fr (j+1)) h v hv (qQ bhd (ts.getD c z4)) (wo4 (qQ bhd (ts.getD c z4)) x.1) (WE (E8 hbk)) (fun p=>by
  rw[ZT _ hxo.1];show _=(_ && !dP ((sa l).getD v z4) p);rw[XQ hx])
  (fun q hq=>by
   obtain⟨h1,h2⟩:=(b8 q).1 hq;obtain⟨p,h3,h4⟩:=(hbd q).1 h1;exact .more (hfr p h3).1 h4 hed h2)
  (fun q hq=>by
   have h2:=((b8 q).1 hq).2;unfold tk0 at h2;simp only[aD6,decide_eq_true_eq]at h2;rw[a0.len];exact h2.1.2)
  (fun m p q c1 v1 h1 h2 h3 h4=>by
   obtain⟨rfl,h5,h6⟩:=h4;have hjl:=(aC4.1 hj).1;rw[aG0 hjl]at h6;rcases aF5.1 h6 with e | e
   ·have e2:=(aC4.1 hj).2;rw[e2]at e;injection e with _ e;injection e with e3 e4;have e5:c1=c:=by omega
    have e6:v1=v:=by omega
    subst e5 e6;exact .inl ⟨rfl,(b8 q).2 ⟨(hbd q).2 ⟨p,h5,h1⟩,h2⟩⟩
   ·exact .inr ⟨rfl,h5,e⟩)
 unfold come at a8;by_cases hz:wo4 (qQ bhd (ts.getD c z4)) x.1=z4
 ·rw[if_pos hz]at a8;rw[if_pos hz,if_pos hz];exact a8
 ·rw[if_neg hz,XQ hx,aAx hx]at a8;rw[if_neg hz,if_neg hz,BQ,BL];exact a8
theorem X3(h:Wk (bh0 t) (tk0 t) (Eof outs) u0 n ss.length (sa l) (sb l) wt (Lft outs u fr (outs u).length)):Wk (bh0 t) (tk0 t) (Eof outs) u0 n ss.length (sa l) (sb l) wt (fun _ _ _ _=>False) :=
 ⟨sJ h.inv fun m p q c v _ _ _ _ _ h6=>absurd h6.2.2 (by rw[List.drop_length];simp),h.la,h.lb,h.oka,h.okb,h.bd⟩
theorem XP(h:Wk (bh0 t) (tk0 t) (Eof outs) u0 n ss.length (sa l) (sb l) wt (Lft outs u fr 0))(hb:∀ p q,dP fr p=true->bh0 t p q=false):Wk (bh0 t) (tk0 t) (Eof outs) u0 n ss.length (sa l) (sb l) wt (fun _ _ _ _=>False) :=
 ⟨sJ h.inv fun m p q c v _ _ h3 _ _ h6=>absurd h3 (by rw[hb p q h6.2.1];simp),h.la,h.lb,h.oka,h.okb,h.bd⟩
theorem Y2(hx:l[u]?=some x)(h:Wk (bh0 t) (tk0 t) (Eof outs) u0 n ss.length (sa l) (sb l) (wt++[u]) (fun _ _ _ _=>False)):
 Wk (bh0 t) (tk0 t) (Eof outs) u0 n ss.length (sa (l.set u (x.1,z4,x.2.2))) (sb (l.set u (x.1,z4,x.2.2))) wt (Lft outs u x.2.1 0)/\todo (sa (l.set u (x.1,z4,x.2.2))) wt n ss.length<todo (sa l) (wt++[u]) n ss.length/\(∀ p,dP x.2.1 p=true->Rc (bh0 t) (tk0 t) (Eof outs) u0 p u/\p<ss.length):=by
 obtain⟨h1,h2,_,h4⟩:=aA9 h;have ea:sa (l.set u (x.1,z4,x.2.2))=sa l:=by
  rw[BQ];apply aG6;intro k;by_cases e:u=k
  ·subst e;rw[aE5 (by simpa using(aC4.1 hx).1),aD0,hx];rfl
  ·rw[aF4 e]
 have eb:sb (l.set u (x.1,z4,x.2.2))=(sb l).set u z4:=BL _ _ _;have ef:∀ p,fn (sb l) u p=dP x.2.1 p:=fun p=>by unfold fn;rw[aAx hx]
 rw[ea,eb];refine⟨⟨sJ h1.inv fun m p q c v _ _ _ _ _ h6=>.inr ⟨h6.1,by rw[<-ef];exact h6.2.1,h6.2.2⟩,h1.la,h1.lb,h1.oka,h1.okb,h1.bd⟩,h2,fun p hp=>h4 p (by rw[ef];exact hp)⟩
theorem xJ(f:Nat->Nat->Bool)(n P:Nat):unseen f n P<=n*P:=by
 unfold unseen;have:∀ l:List Nat,(l.map fun v=>((List.range P).filter fun p => !f v p).length).sum<=l.length*P:=by
  intro l
  induction l with
  | nil=>simp
  | cons a l ih =>
   rw[aJ4,List.sum_cons,aE7,Nat.add_mul,Nat.one_mul];have:=aE8 (fun p => !f a p) (List.range P);rw[List.length_range]at this;omega
 simpa using this (List.range n)
end Go.Proofs.YtphjbbbnbmafnaaGreatDoor.G
