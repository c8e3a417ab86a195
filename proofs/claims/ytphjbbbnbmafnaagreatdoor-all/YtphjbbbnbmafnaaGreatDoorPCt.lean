/- Parts: Take PCt. -/
import Derived.Test.YtphjbbbnbmafnaaGreatDoorExt
import Derived.Test.YtphjbbbnbmafnaaGreatDoorInOrd
import Derived.Test.YtphjbbbnbmafnaaGreatDoorPEo
import Derived.Test.YtphjbbbnbmafnaaGreatDoorPOpen
import Derived.Deep.DeepCutAuto
set_option maxHeartbeats 8000000
set_option maxRecDepth 100000
namespace Go.Proofs.YtphjbbbnbmafnaaGreatDoor.G
open Go.RowKit
variable {w w2 wa:World} {B H N g len:Nat} {sg v v1 v2:Value} {x:Int} {es is:List (Value×Int)} {y:Obj}
attribute [local go_sem ↓] Go.wp_at_zero Go.wp_at_succ
theorem UA(len:Nat)(x:Int):flat (List.replicate (len+1) (x,0,0))=flat (List.replicate len (x,0,0))++[.int .i64 x,.int .i64 0,.int .i64 0]:=by
 rw[aL1,kL]
theorem JV{l c:Nat}(h:w.ownsRow H 38 3 sg len (flat (List.replicate len (x,0,0))))(hg:sg.ownBlock=some g)(hl:l<=len)(hs:len<=1000000):qF w 3 (.slice (some ⟨g,0,none⟩) l c) x:=by
 refine⟨_,l,c,rfl,by omega,fun j hj=>⟨g,0,rfl,?_⟩⟩;rcases h.2 with ⟨rfl,_⟩ | ⟨g0,cap,cur,rfl,hb,hgg,hn,hc,hz,ht⟩
 ·simp[Value.ownBlock]at hg
 ·obtain rfl:g0=g:=by simpa[Value.ownBlock]using hg
  have hr:aR w g0 cap (List.replicate len (x,0,0)):=⟨cur,hgg,hz,by rw[aH3];exact ht⟩;obtain⟨h0,h1,h2⟩:=hr.cells (j:=j) (e:=(x,0,0)) (by rw[aE9,if_pos (by omega)]);rw[aG1];exact⟨h0,fun _=>⟨h1,h2⟩⟩
theorem TE(h:w.ownsRow H 38 3 sg len (flat (List.replicate len (x,0,0))))(hs:len<=1000000):qF w 3 sg x:=by
 rcases h.2 with ⟨rfl,rfl⟩ | ⟨g0,cap,cur,rfl,_⟩
 ·exact⟨none,0,0,rfl,by omega,fun j hj=>by omega⟩
 ·exact JV h rfl (V7 _) hs
structure nJ (w:World) (B N:Nat) (v1 v2:Value) (es is:List (Value×Int)) (H:Nat) (sg:Value) (len:Nat) (x:Int):Prop where
 bk:Bk w B N v1 v2 es is
 own:w.ownsRow H 38 3 sg len (flat (List.replicate len (x,0,0)))
 hH:B<H
 small:len<=1000000
 far:∀ g,sg.ownBlock=some g->v1.ownBlock≠some g/\v2.ownBlock≠some g
 same:∀ p∈es++is,∀ g,p.1.ownBlock=some g->sg.ownBlock=some g->p∈es/\p∉is/\p.2=x/\∃ l c,p.1 = .slice (some ⟨g,0,none⟩) l c/\l<=len
theorem nJ.below{w':World}(h:nJ w B N v1 v2 es is H sg len x)(hB:Below w.heap.size w w'):nJ w' B N v1 v2 es is H sg len x :=
 ⟨h.bk.below hB,gQ h.own hB,h.hH,h.small,h.far,h.same⟩
theorem nJ.grow(h:nJ w B N v1 v2 es is H sg len x)(hlen1:len+1<=1000000)(g cap:Nat)
 (a3:w2.ownsRow H 38 3 (.slice (some ⟨g,0,none⟩) (len+1) cap) (len+1) (flat (List.replicate len (x,0,0))++[.int .i64 x,.int .i64 0,.int .i64 0])) (hg:(sg.ownBlock=some g/\w.grownBy w2 (some g))\/(g=w.heap.size/\w.grownBy w2 none)) :
 nJ w2 B N v1 v2 es is H (.slice (some ⟨g,0,none⟩) (len+1) cap) (len+1) x/\Same w w2 (fun k=>H<=k):=by
 rw[<-UA]at a3;have hgH:=a3.lt g rfl;have hB:=h.hH;have a8:=h.bk.lt;rcases hg with ⟨h1,h2⟩ | ⟨h1,h2⟩
 ·have hs:=Same.grown h2;have hf:=h.far g h1;have e1:∀ k,v1.ownBlock=some k->¬ some g=some k:=fun k hk e=>hf.1 (by rw[hk,e]);have e2:∀ k,v2.ownBlock=some k->¬ some g=some k:=fun k hk e=>hf.2 (by rw[hk,e]);have cJ:∀ p∈es,qF w2 3 p.1 p.2:=fun p hp=>by
   by_cases hpg:p.1.ownBlock=some g
   ·obtain⟨_,_,hx,l,c,hp1,hl⟩:=h.same p (aC9.2 (.inl hp)) g hpg h1;rw[hp1,hx];exact JV a3 rfl (by omega) hlen1
   ·exact(h.bk.l1 p hp).same hs fun k hk e=>hpg (by rw[hk,e])
  refine⟨⟨⟨?_,aF h.bk.own1 hs e1,aF h.bk.own2 hs e2,h.bk.ne,cJ,fun p hp => ?_,fun p hp k hk => ?_⟩,a3,h.hH,hlen1,fun k hk => ?_,fun p hp k hk hk2 => ?_⟩,hs.mono fun k _ e=>by injection e with e;omega⟩
  ·rw[hs.2 B a8 fun e=>by injection e with e;omega];exact h.bk.row
  ·exact(h.bk.l2 p hp).same hs fun k hk e=>(h.same p (aC9.2 (.inr hp)) k hk (by rw[h1,e])).2.1 hp
  ·have:=h.bk.bl p hp k hk;exact⟨this.1,aF0 this.2.1 hs.1,this.2.2⟩
  ·have e:g=k:=by simpa[Value.ownBlock]using hk
   subst e;exact hf
  ·have e:g=k:=by simpa[Value.ownBlock]using hk2
   subst e;obtain⟨a,b,c,l,d,e1,e2⟩:=h.same p hp g hk h1;exact⟨a,b,c,l,d,e1,by omega⟩
 ·have hs:Same w w2 (fun _=>False):=(Same.grown h2).mono fun k _ e=>by simp at e
  have hbk:Bk w2 B N v1 v2 es is:=h.bk.same hs id (fun _ _=>id) (fun _ _=>id) (fun _ _ _ _=>id);refine⟨⟨hbk,a3,h.hH,hlen1,fun k hk => ?_,fun p hp k hk hk2 => ?_⟩,hs.mono fun _ _ e=>e.elim⟩
  ·have e:g=k:=by simpa[Value.ownBlock]using hk
   refine⟨fun e2 => ?_,fun e2 => ?_⟩
   ·have:=(h.bk.own1.lt k e2).2;omega
   ·have:=(h.bk.own2.lt k e2).2;omega
  ·have e:g=k:=by simpa[Value.ownBlock]using hk2
   have:=(h.bk.bl p hp k hk).2.1;omega
theorem nJ.push(h:nJ w B N v1 v2 es is H sg len x)(g cap:Nat)
 (a3:w2.ownsRow (B+1) 69 2 (.slice (some ⟨g,0,none⟩) (es.length+1) cap) (es.length+1) (kR es++[sg,.int .i64 x])) (hg:(v1.ownBlock=some g/\w.grownBy w2 (some g))\/(g=w.heap.size/\w.grownBy w2 none)) :
 nJ (w2.setCell ⟨B,1,none⟩ (.slice (some ⟨g,0,none⟩) (es.length+1) cap)) B N (.slice (some ⟨g,0,none⟩) (es.length+1) cap) v2 (es++[(sg,x)]) is H sg len x/\Same w (w2.setCell ⟨B,1,none⟩ (.slice (some ⟨g,0,none⟩) (es.length+1) cap)) (fun k=>k=B\/v1.ownBlock=some k):=by
 have hB:=h.hH;have cL:∀ k,sg.ownBlock=some k->B<k/\k<w.heap.size/\v1.ownBlock≠some k/\v2.ownBlock≠some k:=fun k hk=>by
  have:=h.own.lt k hk;exact⟨by omega,this.2,h.far k hk⟩
 obtain⟨hb,hs⟩:=h.bk.push1 sg x (TE h.own h.small) cL g cap a3 hg;refine⟨⟨hb,aF h.own hs fun k hk e => ?_,h.hH,h.small,fun k hk => ?_,fun p hp k hk hk2 => ?_⟩,hs⟩
 ·have:=cL k hk;rcases e with e | e
  ·omega
  ·exact this.2.2.1 e
 ·have:=cL k hk;refine⟨fun e => ?_,this.2.2.2⟩;have e2:g=k:=by simpa[Value.ownBlock]using e
  subst e2;rcases hg with ⟨h1,_⟩ | ⟨h1,_⟩
  ·exact this.2.2.1 h1
  ·omega
 ·have old:p∈es++is->_:=fun hm=>h.same p hm k hk hk2;rcases aC9.1 hp with hp | hp
  ·rcases aC9.1 hp with hp | hp
   ·obtain⟨a,b⟩:=old (aC9.2 (.inl hp));exact⟨aC9.2 (.inl a),b⟩
   ·simp only[aF8]at hp;subst hp;refine⟨by simp,fun hi=>(h.same _ (aC9.2 (.inr hi)) k hk hk2).2.1 hi,rfl,?_⟩;rcases h.own.2 with ⟨e,_⟩ | ⟨g0,a2,cur,e,_⟩
    ·rw[e]at hk;simp[Value.ownBlock]at hk
    ·rw[e]at hk;obtain rfl:g0=k:=by simpa[Value.ownBlock]using hk
     exact⟨len,a2,e,V7 _⟩
  ·obtain⟨a,b⟩:=old (aC9.2 (.inr hp));exact⟨aC9.2 (.inl a),b⟩
theorem YJ(A:List E3)(i:Nat)(x:E3)(hi:i<A.length):(List.replicate i x++A.drop i).set i x=List.replicate (i+1) x++A.drop (i+1):=by
 rw[aI1 _ _ (by simp),aH3,aJ1,aL1,aD3];congr 1;rw[aG0 hi];rfl
theorem GH{wr:World}(hb:Bk w B N v1 v2 es is)(hF:B<H/\(∀ g,v1.ownBlock=some g->g<H)/\(∀ g,v2.ownBlock=some g->g<H)/\(∀ p∈es++is,∀ g,p.1.ownBlock=some g->g<H))
 (a3:wr.ownsRow H 38 3 v len (flat (List.replicate len (x,0,0)))) (hg:w.grownBy wr v.ownBlock) (hl:len<=1000000):nJ wr B N v1 v2 es is H v len x:=by
 have hs:=Same.grown hg;have hk:∀ k,v.ownBlock=some k->H<=k:=fun k hk=>(a3.lt k hk).1;have n1:∀ k,k<H->¬ v.ownBlock=some k:=fun k h1 h2=>by have:=hk k h2;omega
 exact⟨hb.same hs (n1 B hF.1) (fun g h=>n1 g (hF.2.1 g h)) (fun g h=>n1 g (hF.2.2.1 g h)) (fun p hp g h=>n1 g (hF.2.2.2 p hp g h)),a3,hF.1,hl,
  fun g h=>⟨fun e=>n1 g (hF.2.1 g e) h,fun e=>n1 g (hF.2.2.1 g e) h⟩,fun p hp g h h2=>absurd h2 (n1 g (hF.2.2.2 p hp g h))⟩
theorem Bk.row_after(h:Bk w B N v1 v2 es is)(hg:(v1.ownBlock=some g/\w.grownBy w2 (some g))\/(g=w.heap.size/\w.grownBy w2 none)):w2.heap[B]?=some (.cells #[.int .i64 (N:Int),v1,v2] 36 (0,0)):=by
 rcases hg with ⟨h1,h2⟩ | ⟨_,h2⟩
 ·rw[h2.block B h.lt (fun e=>by injection e with e;have:=(h.own1.lt g h1).1;omega)];exact h.row
 ·rw[h2.block B h.lt (fun e=>by simp at e)];exact h.row
theorem nL{W:World}{o:Obj}{k:Nat}(h:W.heap[k]?=some y):(W.alloc o).drew.heap[k]?=some y:=by
 have:=(aA W o).block k (aC2.1 h).1;exact this.trans h
theorem qR{X:Nat}(hg:(v.ownBlock=some g/\wa.grownBy w2 (some g))\/(g=wa.heap.size/\wa.grownBy w2 none))(hX:wa.heap[X]?=some y)(hne:v.ownBlock≠some X):w2.heap[X]?=some y/\g≠X:=by
 have a8:=(aC2.1 hX).1;rcases hg with ⟨h1,h2⟩ | ⟨h1,h2⟩
 ·have hn:g≠X:=fun e=>hne (by rw[h1,e]);exact⟨(h2.block X a8 fun e=>by injection e with e;exact hn e.symm).trans hX,hn⟩
 ·exact⟨(h2.block X a8 fun e=>by simp at e).trans hX,by omega⟩
theorem nN(W:World)(B i X:Nat)(v:Value)(h:W.heap[X]?=some y)(hne:X≠B):(W.setCell ⟨B,i,none⟩ v).heap[X]?=some y:=by
 rw[(Same.set W ⟨B,i,none⟩ v).2 X (aC2.1 h).1 hne];exact h
theorem xM(hb:Bk wa B N v1 v2 es is)(hB:Below B w wa)(hg:(v1.ownBlock=some g/\wa.grownBy w2 (some g))\/(g=wa.heap.size/\wa.grownBy w2 none))(u:Value):Below B w (w2.setCell ⟨B,1,none⟩ u):=by
 have a8:=aH2 hb.lt;rcases hg with ⟨h1,h2⟩ | ⟨_,h2⟩
 ·exact(hB.grown h2 a8 (fun k e=>by injection e with e;have:=(hb.own1.lt g h1).1;omega)).setCell (V7 _) u
 ·exact(hB.grown h2 a8 (fun k e=>by simp at e)).setCell (V7 _) u
theorem below_grow(hy:nJ wa B N v1 v2 es is H sg len x)(hB:Below B w wa)(hg:(sg.ownBlock=some g/\wa.grownBy w2 (some g))\/(g=wa.heap.size/\wa.grownBy w2 none)):Below B w w2:=by
 have a8:=aH2 hy.bk.lt;rcases hg with ⟨h1,h2⟩ | ⟨_,h2⟩
 ·exact hB.grown h2 a8 (fun k e=>by injection e with e;have:=(hy.own.lt g h1).1;have:=hy.hH;omega)
 ·exact hB.grown h2 a8 (fun k e=>by simp at e)
theorem Tryz.infoB1:(Tryz.prog.info? 69).map (fun i=>(i.zero,i.size,i.bytes))=some (some (.agg #[.slice none 0 0,.int .i64 0]),2,32):=by kernel_rfl
theorem Q5(hb:Bk w B N v1 v2 es is)(H:Nat)(v vm:Value)(A:List E3)(hv:w.ownsRow H 38 3 v A.length (flat A))(hH:B<H)(hHw:H<=w.heap.size)(h1:∀ g,v1.ownBlock=some g->g<H)(h2:∀ g,v2.ownBlock=some g->g<H)(h3:∀ p∈es++is,∀ g,p.1.ownBlock=some g->g<H)(hm:aI w vm A)(hA:A.length<=20000)(hN:N<=2000000000000)(hn:es.length<=5500000000000):
 Calls Tryz.prog 14 #[.pointer (some ⟨B,0,none⟩),v,vm] w fun e w'=>e = .returned (.bool true)/\(∃ a7 a6,Bk w' B (N+1) a7 v2 a6 is/\a6.length=es.length+4)/\Below B w w':=by
 have hva:=o5 hv;have HV:Hid _:=hv;have HBk:Hid _:=hb;obtain⟨a0,a2,rfl,hed⟩:=hva;obtain⟨am,capm,rfl,hem⟩:=hm;have HE:Hid _:=hed;have HM:Hid _:=hem;have HF:Hid (B<H/\(∀ g,v1.ownBlock=some g->g<H)/\(∀ g,v2.ownBlock=some g->g<H)/\(∀ p∈es++is,∀ g,p.1.ownBlock=some g->g<H)):=⟨hH,h1,h2,h3⟩;clear hv hb hed hem h1 h2 h3 hH;go_enter Tryz.func14,Tryz.ntmps14
 go_wp2;go_loopw [7,8] (fun so si wr=>∃ i q:Nat,i<=A.length/\so = .bool true/\si = .int .i64 (i:Int)/\wr=w.drewN q) (fun _ si _=>A.length-(intOf si).toNat)
 case atStart=>exact⟨0,0,aC6 _,rfl,rfl,rfl⟩
 case round =>
  obtain⟨i,q,hi,rfl,rfl,rfl⟩:=hrel;by_cases a8:i<A.length
  ·obtain⟨x,hx⟩:∃ x,A[i]?=some x:=⟨_,A7 a8⟩;obtain⟨g,off,rfl,c0,c1,c2⟩:=HE.out i x hx;obtain⟨g',off',rfl,d0,d1,d2⟩:=HM.out i x hx;obtain⟨x1,x2,x3⟩:=x;simp only at c0 c1 c2 d0 d1 d2;have hiI:(i:Int)<(A.length:Int):=by omega
   have gE:=guardE;have hEq:=EC x1 x2 x3 x1 x2 x3 true (decide_eq_true rfl);clear hx;go_wp2;go_quiet (fail)
   go_wp2;go_roundw;case rel=>exact⟨i+1,_,by omega,rfl,by go_num,rfl⟩
   case measure=>simp[intOf];omega
  ·obtain rfl:i=A.length:=by omega
   have bW:Below w.heap.size w (w.drewN q):=below_drewN (YQ _ _) q;have a9:Hid _:=HBk.out.below bW;have b9:Hid _:=gQ HV.out bW;have c8:Hid _:=bW;clear bW;obtain⟨W1,cG⟩:∃ W1,W1=w.drewN q:=⟨_,rfl⟩;rw[<-cG]at a9 b9 c8;rw[<-cG];clear cG;have a4:=a9.out.row;have c0:W1.cell? ⟨B,0,none⟩=some (.int .i64 (N:Int)):=by rw[cell_of_row _ _ 0 _ _ _ a4];rfl
   have f0:=frozen_of_row W1 B 0 _ _ a4;clear a4;go_wp2;obtain⟨x,hx⟩:∃ x:Int,x = -((N:Int)+1):=⟨_,rfl⟩;rw[<-hx];obtain⟨W3,b6⟩:∃ W3,W3=(W1.setCell ⟨B,0,none⟩ (.int .i64 ((N:Int)+1))).alloc (.cells #[.int .i64 x,.int .i64 0,.int .i64 0] 38):=⟨_,rfl⟩;rw[<-b6];have hb3:Bk W3 B (N+1) v1 v2 es is:=by rw[b6];exact(a9.out.setN (N+1)).below (aA _ _)
   have hs3:Same W1 W3 (fun k=>k=B):=by rw[b6];exact((Same.set W1 ⟨B,0,none⟩ (.int .i64 ((N:Int)+1))).trans (Same.alloc _ _)).mono fun k _ e=>e.elim id False.elim
   have hv3:W3.ownsRow H 38 3 (.slice a0 A.length a2) A.length (flat A):=aF b9.out hs3 fun g hg e=>by
    have:=(World.ownsRow.lt b9.out g hg).1;have:=HF.out.1;omega
   have hx3:W3.heap[W1.heap.size]?=some (.cells #[.int .i64 x,.int .i64 0,.int .i64 0] 38 (0,0)):=by
    rw[b6];have:=heap_alloc_new (W1.setCell ⟨B,0,none⟩ (.int .i64 ((N:Int)+1))) (.cells #[.int .i64 x,.int .i64 0,.int .i64 0] 38);rwa [show(W1.setCell ⟨B,0,none⟩ (.int .i64 ((N:Int)+1))).heap.size=W1.heap.size by simp[World.setCell]]at this
   have b8:Below B w W3:=by
    rw[b6];have e1:=(c8.out.mono (aH2 HBk.out.lt)).setCell (p:=⟨B,0,none⟩) (V7 _) (.int .i64 ((N:Int)+1));exact e1.alloc (by have:=a9.out.lt;simp[World.setCell];omega) _
   have hgW:∀ g,(Value.slice a0 A.length a2).ownBlock=some g->g<W1.heap.size:=fun g hg=>(World.ownsRow.lt b9.out g hg).2;have cA:Hid _:=hgW;have HB3:Hid _:=hb3;have HV3:Hid _:=hv3;have bS:Hid _:=hx3;have bX:Hid _:=b8;have HXe:Hid _:=hx;have hxb : -9223372036854775807<=x/\x<=0:=by omega
   clear hb3 hs3 hv3 hx3 b8 hgW hx b6 c0 f0 hi a8;go_loopw [10] (fun si wr=>∃ i:Nat,i<=A.length/\si = .int .i64 (i:Int)/\Hid (wr.ownsRow H 38 3 (.slice a0 A.length a2) A.length (flat (List.replicate i (x,0,0)++A.drop i))/\W3.grownBy wr (Value.slice a0 A.length a2).ownBlock)) (fun si _=>A.length-(intOf si).toNat)
   case atStart=>exact⟨0,aC6 _,rfl,⟨HV3.out,⟨rfl,rfl,rfl,V7 _,fun _ _ _=>rfl⟩⟩⟩
   case round =>
    obtain⟨i,hi,rfl,HI⟩:=hrel;by_cases a8:i<A.length
    ·obtain⟨a3,cI⟩:=HI.out;rcases a3.2 with ⟨_,h0⟩ | ⟨g,cap,cur,hvv,hHg,hgg,hnc,hcm,hcs,htk⟩
     ·omega
     injection hvv with e1 _ e2;subst e1 e2;have hL:(List.replicate i (x,(0:Int),(0:Int))++A.drop i).length=A.length:=by simp;omega
     have hr:aR wr g a2 (List.replicate i (x,0,0)++A.drop i):=⟨cur,hgg,hcs,by rw[hL];exact htk⟩;obtain⟨y,hy⟩:∃ y,(List.replicate i (x,(0:Int),(0:Int))++A.drop i)[i]?=some y:=⟨_,A7 (by omega)⟩;obtain⟨d0,d1,d2⟩:=hr.cells hy;have k0:=hr.frozen (i*3);have k1:=hr.frozen (i*3+1);have k2:=hr.frozen (i*3+2);have aL:wr.heap[W1.heap.size]?=some (.cells #[.int .i64 x,.int .i64 0,.int .i64 0] 38 (0,0)):=by
      rw[cI.block _ (aC2.1 bS.out).1 (fun e=>by have:=cA.out _ e.symm;omega)];exact bS.out
     have b0:wr.cell? ⟨W1.heap.size,0,none⟩=some (.int .i64 x):=by rw[cell_of_row _ _ 0 _ _ _ aL];rfl
     have b1:wr.cell? ⟨W1.heap.size,1,none⟩=some (.int .i64 0):=by rw[cell_of_row _ _ 1 _ _ _ aL];rfl
     have b2:wr.cell? ⟨W1.heap.size,2,none⟩=some (.int .i64 0):=by rw[cell_of_row _ _ 2 _ _ _ aL];rfl
     have b3:=hr.put (k:=i) (x,0,0) (by omega);rw[YJ A i (x,0,0) a8]at b3;have HN:Hid ((((wr.setCell ⟨g,i*3,none⟩ (.int .i64 x)).setCell ⟨g,i*3+1,none⟩ (.int .i64 0)).setCell ⟨g,i*3+2,none⟩ (.int .i64 0)).ownsRow H 38 3 (.slice (some ⟨g,0,none⟩) A.length a2) A.length (flat (List.replicate (i+1) (x,0,0)++A.drop (i+1)))/\W3.grownBy (((wr.setCell ⟨g,i*3,none⟩ (.int .i64 x)).setCell ⟨g,i*3+1,none⟩ (.int .i64 0)).setCell ⟨g,i*3+2,none⟩ (.int .i64 0)) (some g)):=(by
      obtain⟨cE,q1,q2,q3⟩:=b3;have hL2:(List.replicate (i+1) (x,(0:Int),(0:Int))++A.drop (i+1)).length=A.length:=by simp;omega
      rw[hL2]at q3;exact⟨⟨by rw[bM,hL2],.inr ⟨g,a2,cE,rfl,hHg,q1,hnc,hcm,q2,q3⟩⟩,gX (gX (gX cI (jR _ _ _ _)) (jR _ _ _ _)) (jR _ _ _ _)⟩:_/\_)
     have hiI:(i:Int)<(A.length:Int):=by omega
     clear a3 cI hgg b3 hr aL hy HI htk hL;go_wp2;go_roundw;case rel=>exact⟨i+1,by omega,by go_num,HN.out⟩
     case measure=>simp[intOf];omega
    ·obtain rfl:i=A.length:=by omega
     have HY:Hid (nJ wr B (N+1) v1 v2 es is H (.slice a0 A.length a2) A.length x):=(by
      have a3:=HI.out.1;rw[List.drop_length,aE4]at a3;exact GH HB3.out HF.out a3 HI.out.2 (by omega):nJ _ _ _ _ _ _ _ _ _ _ _)
     have aL:wr.heap[W1.heap.size]?=some (.cells #[.int .i64 x,.int .i64 0,.int .i64 0] 38 (0,0)):=by
      rw[HI.out.2.block _ (aC2.1 bS.out).1 (fun e=>by have:=cA.out _ e.symm;omega)];exact bS.out
     have HBx:Hid _:=aL;have HBl:Hid (Below B w wr):=(bX.out.grown HI.out.2 (aD9 (aH2 HB3.out.lt) (V7 _)) (fun r hr=>by
      have:=(World.ownsRow.lt HI.out.1 r hr).1;have:=HF.out.1;omega):Below _ _ _)
     clear aL HI;obtain rfl:=HXe.out;have a4:=HY.out.bk.row;have c0:wr.cell? ⟨B,0,none⟩=some (.int .i64 ((N:Int)+1)):=by rw[cell_of_row _ _ 0 _ _ _ a4];rfl
     have c1:wr.cell? ⟨B,1,none⟩=some v1:=by rw[cell_of_row _ _ 1 _ _ _ a4];rfl
     have f1:=frozen_of_row wr B 1 _ _ a4;clear a4;have c1a:(wr.alloc (.cells #[.slice a0 A.length a2,.int .i64 (-((N:Int)+1))] 69)).cell? ⟨B,1,none⟩=some v1:=cell_kept (aA _ _) _ _ c1;obtain⟨i1,hi1,hz0,hz1,hz2⟩:=info_parts Tryz.infoB1;have hn1:es.length+1<=6000000000000:=by omega
     have hwr:IntKind.i64.wrap (-((N:Int)+1)) = -((N:Int)+1):=by rw[aK6];omega
     go_upto_region 12 with fail
     go_cut [9] (fun s9 wx=>s9 = .pointer (some ⟨W1.heap.size,0,none⟩)/\∃ a7 a6,Hid (nJ wx B (N+1) a7 v2 a6 is H (.slice a0 A.length a2) A.length (-((N:Int)+1))/\a6.length=es.length+1/\wx.heap[W1.heap.size]?=some (.cells #[.int .i64 (-((N:Int)+1)),.int .i64 0,.int .i64 0] 38 (0,0))/\Below B w wx/\a7.ownBlock≠some W1.heap.size))
     case first =>
      go_region_law (refine bI _ (by rfl) _ _ _ (by rfl) (B+1) 69 i1 _ 2 32 Tryz.underlying33 hi1 hz0 hz1 hz2 rfl (by omega) v1 es.length (kR es) (by rfl) (World.ownsRow.drew (World.ownsRow.alloc HY.out.bk.own1 _)) ⟨wr.heap.size,0,none⟩ 1 1 [.slice a0 A.length a2,.int .i64 (-((N:Int)+1))] (by rfl) (by rfl) (aG4 (cs:=#[.slice a0 A.length a2,.int .i64 (-((N:Int)+1))]) (t:=69) (fr:=(0,0)) (heap_alloc_new wr _)) (by simp[Value.oneCell']) (by omega) (by unfold maxLen;omega) (by omega) (by have:=HY.out.bk.lt;simp;omega) ?_;intro g5 cap5 w5 hown5 hg5;have a5:=Bk.row_after (HY.out.bk.below ((aA wr _).drew)) hg5;have k1:w5.cell? ⟨B,1,none⟩=some v1:=(by rw[cell_of_row _ _ 1 _ _ _ a5];rfl);have k2:=frozen_of_row w5 B 1 _ _ a5;clear a5)
      all_goals
       have hy:=HY.out.below ((aA wr (.cells #[.slice a0 A.length a2,.int .i64 (-((N:Int)+1))] 69)).drew);have hp:=hy.push g5 cap5 hown5 hg5;have hX:=qR hg5 (nL HBx.out) (fun e=>by have:=HF.out.2.1 _ e;have:=c8.out.size;omega);have HR:Hid (_/\_/\_/\_):=⟨hp.1,nN w5 B 1 W1.heap.size (.slice (some ⟨g5,0,none⟩) (es.length+1) cap5) hX.1 (by have:=a9.out.lt;omega),xM hy.bk ((HBl.out.alloc (aH2 HY.out.bk.lt) _).drew) hg5 (.slice (some ⟨g5,0,none⟩) (es.length+1) cap5),hX.2⟩;clear hX;clear hy hp hown5 hg5 k1 k2 c1a;go_wp2_with fail
       go_meet;case rel=>exact⟨rfl,_,_,HR.out.1,by simp,HR.out.2.1,HR.out.2.2.1,fun e=>HR.out.2.2.2 (by simpa[Value.ownBlock]using e)⟩
     case rest =>
      obtain⟨rfl,a7,a6,HC⟩:=hcut;have b7:Hid (nJ wc B (N+1) a7 v2 a6 is H (.slice a0 A.length a2) A.length (-((N:Int)+1))/\a6.length=es.length+1/\wc.heap[W1.heap.size]?=some (.cells #[.int .i64 (-((N:Int)+1)),.int .i64 0,.int .i64 0] 38 (0,0))/\Below B w wc/\a7.ownBlock≠some W1.heap.size):=HC.out;clear HC c0 c1 f1 c1a HY HBx HBl;go_wp2;go_loopw [11,12] (fun sg sk wr=>∃(k:Nat) (a7:Value) (a6:List (Value×Int)),k<=3/\sk = .int .i64 (k:Int)/\a6.length=es.length+1+k/\(∃ a1 c1,sg = .slice a1 (A.length+k) c1)/\Hid (nJ wr B (N+1) a7 v2 a6 is H sg (A.length+k) (-((N:Int)+1))/\wr.heap[W1.heap.size]?=some (.cells #[.int .i64 (-((N:Int)+1)),.int .i64 0,.int .i64 0] 38 (0,0))/\Below B w wr/\a7.ownBlock≠some W1.heap.size/\sg.ownBlock≠some W1.heap.size)) (fun _ sk _=>3-(intOf sk).toNat)
      case atStart=>exact⟨0,a7,a6,by omega,rfl,b7.out.2.1,⟨a0,a2,rfl⟩,b7.out.1,b7.out.2.2.1,b7.out.2.2.2.1,b7.out.2.2.2.2,fun e=>by have:=cA.out _ e;omega⟩
      case round =>
       obtain⟨k,a7,a6,hk,rfl,cH,⟨a1,c1,rfl⟩,HI⟩:=hrel;by_cases hlt3:k<3
       ·have hkI:(k:Int)<3:=by omega
        have aL:=HI.out.2.1;have b0:wr.cell? ⟨W1.heap.size,0,none⟩=some (.int .i64 (-((N:Int)+1))):=by rw[cell_of_row _ _ 0 _ _ _ aL];rfl
        have b1:wr.cell? ⟨W1.heap.size,1,none⟩=some (.int .i64 0):=by rw[cell_of_row _ _ 1 _ _ _ aL];rfl
        have b2:wr.cell? ⟨W1.heap.size,2,none⟩=some (.int .i64 0):=by rw[cell_of_row _ _ 2 _ _ _ aL];rfl
        obtain⟨i3,hi3,hy0,hy1,hy2⟩:=info_parts Tryz.infoE;have hHr:H<=wr.heap.size:=aD9 hHw HI.out.2.2.1.size;have hrw:=HI.out.1.own;clear aL;go_wp2_with (at_builtin;refine aO _ rfl _ _ 24 rfl H 38 i3 (.agg #[.int .i64 0,.int .i64 0,.int .i64 0]) 3 24 Tryz.underlying24 hi3 hy0 hy1 hy2 rfl (by decide) _ _ _ rfl (hrw.alloc _) ⟨wr.heap.size,0,none⟩ 1 1 [.int .i64 (-((N:Int)+1)),.int .i64 0,.int .i64 0] rfl rfl (SK _ _ _ _ _) (ED _ _ _) (by omega) (by unfold maxLen;omega) (by omega) (by simp;omega) ?_;intro g5 cap5 w5 hown5 hg5)
        have cM:=HI.out.1.below (aA wr (.cells #[.int .i64 (-((N:Int)+1)),.int .i64 0,.int .i64 0] 38));have hgr:=cM.grow (by omega) g5 cap5 hown5 hg5;have b4:Hid _:=hgr.1;have c7:Hid _:=below_grow cM (HI.out.2.2.1.alloc (aH2 HI.out.1.bk.lt) _) hg5;have hX5:=qR hg5 (X:=W1.heap.size) ((aA wr _).block _ (aC2.1 HI.out.2.1).1 |>.trans HI.out.2.1) HI.out.2.2.2.2;have HX5:Hid _:=hX5;have cD:Hid (a7.ownBlock≠some W1.heap.size):=HI.out.2.2.2.1;have a4:=b4.out.bk.row;have c0:w5.cell? ⟨B,0,none⟩=some (.int .i64 ((N:Int)+1)):=by rw[cell_of_row _ _ 0 _ _ _ a4];rfl
        have d1:w5.cell? ⟨B,1,none⟩=some a7:=by rw[cell_of_row _ _ 1 _ _ _ a4];rfl
        have f1:=frozen_of_row w5 B 1 _ _ a4;have d1a:(w5.alloc (.cells #[.slice (some ⟨g5,0,none⟩) (A.length+k+1) cap5,.int .i64 (-((N:Int)+1))] 69)).cell? ⟨B,1,none⟩=some a7:=cell_kept (aA _ _) _ _ d1;have hel2:a6.length+1<=6000000000000:=by omega
        have HEl:Hid _:=cH;clear cH;clear a4 cM hgr hX5 hown5 hg5 hrw b0 b1 b2 HI;go_region_law (refine bI _ (by rfl) _ _ _ (by rfl) (B+1) 69 i1 _ 2 32 Tryz.underlying33 hi1 hz0 hz1 hz2 rfl (by omega) a7 a6.length (kR a6) (by rfl) (World.ownsRow.drew (World.ownsRow.alloc b4.out.bk.own1 _)) ⟨w5.heap.size,0,none⟩ 1 1 [.slice (some ⟨g5,0,none⟩) (A.length+k+1) cap5,.int .i64 (-((N:Int)+1))] (by rfl) (by rfl) (aG4 (cs:=#[.slice (some ⟨g5,0,none⟩) (A.length+k+1) cap5,.int .i64 (-((N:Int)+1))]) (t:=69) (fr:=(0,0)) (heap_alloc_new w5 _)) (by simp[Value.oneCell']) (by omega) (by unfold maxLen;omega) (by omega) (by have:=b4.out.bk.lt;simp;omega) ?_;intro g6 cap6 w6 hown6 hg6;have a5:=Bk.row_after (b4.out.bk.below ((aA w5 _).drew)) hg6;have k1:w6.cell? ⟨B,1,none⟩=some a7:=(by rw[cell_of_row _ _ 1 _ _ _ a5];rfl);have k2:=frozen_of_row w6 B 1 _ _ a5;clear a5)
        all_goals
         have hy:=b4.out.below ((aA w5 (.cells #[.slice (some ⟨g5,0,none⟩) (A.length+k+1) cap5,.int .i64 (-((N:Int)+1))] 69)).drew);have hp:=hy.push g6 cap6 hown6 hg6;have hX:=qR hg6 (nL HX5.out.1) cD.out;have HR:Hid (_/\_/\_/\_):=⟨hp.1,nN w6 B 1 W1.heap.size (.slice (some ⟨g6,0,none⟩) (a6.length+1) cap6) hX.1 (by have:=a9.out.lt;omega),xM hy.bk ((c7.out.alloc (aH2 b4.out.bk.lt) _).drew) hg6 (.slice (some ⟨g6,0,none⟩) (a6.length+1) cap6),hX.2⟩;clear hy hp hown6 hg6 k1 k2 d1a hX d1 f1 c0;go_wp2;go_roundw;case rel=>exact⟨k+1,_,_,by omega,by go_num,by rw[WT,HEl.out];rfl,⟨_,cap5,rfl⟩,HR.out.1,HR.out.2.1,HR.out.2.2.1,fun e=>HR.out.2.2.2 (by simpa[Value.ownBlock]using e),fun e=>HX5.out.2 (by simpa[Value.ownBlock]using e)⟩
         case measure=>simp[intOf];omega
       ·obtain rfl:k=3:=by omega
        have HR:Hid (_/\_/\_):=⟨HI.out.1.bk,HI.out.2.2.1,cH⟩;clear HI;go_wp2;go_ret;exact⟨rfl,⟨a7,a6,HR.out.1,by have:=HR.out.2.2;omega⟩,HR.out.2.1⟩
end Go.Proofs.YtphjbbbnbmafnaaGreatDoor.G
namespace Go.Proofs.YtphjbbbnbmafnaaGreatDoor.G
open Go.RowKit
variable {w w':World} {B C F b c f n s:Nat} {L:List E3}
theorem qZ(h:aJ w b n s L)(B C F:Nat)(c f:Nat)(hc:c<256)(hf:f<=1000000)(hB:w.cell? ⟨B,0,none⟩=some (.pointer (some ⟨b,0,none⟩)))(hC:w.cell? ⟨C,0,none⟩=some (.int .u8 (c:Int)))(hF:w.cell? ⟨F,0,none⟩=some (.int .i64 (f:Int)))(p:Nat)(hp:p<=L.length):
 Calls Tryz.prog 130 #[.int .i64 (p:Int),.pointer (some ⟨B,0,none⟩),.pointer (some ⟨C,0,none⟩),.pointer (some ⟨F,0,none⟩)] w fun r w'=>r = .returned (.int .i64 ((f+cnt (eqf (aM L) c) p:Nat):Int))/\Below w.heap.size w w':=by
 obtain⟨bl,gl,h4,hs⟩:=h.lab;have hL:=h.ok.1.2.2.2.2;have hll:(aM L).length=L.length:=by simp[aM]
 have HS:Hid _:=hs;have HR:Hid (∀ W,bB 8 W bl gl (aM L)->Calls Tryz.prog 131 #[.pointer (some ⟨bl,0,none⟩),.int .u8 (c:Int),.int .i64 (p:Int)] W _):=fun W h=>S8.rank_yes h c (by omega) p (by rw[hll];exact hp);have hcn:=dX (eqf (aM L) c) p;generalize cnt (eqf (aM L) c) p=k at HR hcn;clear h hs hll;go_enter Tryz.func130,Tryz.ntmps130
 go_wp2_with fail
 go_region_held3 (fun w'=>w'.cell? ⟨B,0,none⟩=some (.pointer (some ⟨b,0,none⟩))/\w'.cell? ⟨C,0,none⟩=some (.int .u8 (c:Int))/\w'.cell? ⟨F,0,none⟩=some (.int .i64 (f:Int))/\w'.cell? ⟨b,4,none⟩=some (.pointer (some ⟨bl,0,none⟩))) (go_keep)
  (first
   | (go_at_call 131;refine(HR.out _ ?_).mono ?_;exact(HS.out.kept (fun _ _ h=>h));rintro r w1 ⟨rfl,hB1d⟩;have b5:=((YQ w.heap.size w).drew).trans hB1d;have q1:=cell_kept b5 _ _ hB;have q2:=cell_kept b5 _ _ hC;have q3:=cell_kept b5 _ _ hF;have q4:=cell_kept b5 _ _ h4))
 have HB1:Hid (Below w.heap.size w w1):=b5;clear b5 hB1d;go_wp2;go_ret;exact⟨by go_num,HB1.out⟩
structure QZ (w:World) (b n s:Nat) (L:List E3) (B C F c f:Nat):Prop where
 g:aJ w b n s L
 hc:c<256
 hf:f<=1000000
 cB:w.cell? ⟨B,0,none⟩=some (.pointer (some ⟨b,0,none⟩))
 cC:w.cell? ⟨C,0,none⟩=some (.int .u8 (c:Int))
 cF:w.cell? ⟨F,0,none⟩=some (.int .i64 (f:Int))
theorem QZ.kept(h:QZ w b n s L B C F c f)(hk:∀ p v,w.cell? p=some v->w'.cell? p=some v):QZ w' b n s L B C F c f :=
 ⟨h.g.kept hk,h.hc,h.hf,hk _ _ h.cB,hk _ _ h.cC,hk _ _ h.cF⟩
theorem QZ.below(h:QZ w b n s L B C F c f)(hB:Below w.heap.size w w'):QZ w' b n s L B C F c f:=h.kept (cell_kept hB)
theorem D5(h:QZ w b n s L B C F c f)(x y:Nat)(hx:x<=L.length)(hy:y<=L.length):
 Calls Tryz.prog 64 #[.agg #[.int .i64 (x:Int),.int .i64 (y:Int)],.func (.func 130) #[] #[.pointer (some ⟨B,0,none⟩),.pointer (some ⟨C,0,none⟩),.pointer (some ⟨F,0,none⟩)]] w fun e w'=>e = .returned (.agg #[.int .i64 ((f+cnt (eqf (aM L) c) x:Nat):Int),.int .i64 ((f+cnt (eqf (aM L) c) y:Nat):Int)])/\Below w.heap.size w w':=by
 have hB:=jJ w (.cells #[.int .i64 (x:Int),.int .i64 (y:Int)] 40) (.cells #[.int .i64 0,.int .i64 0] 40);have HB:Hid _:=hB;have HG:Hid _:=h.below hB;obtain⟨k0,k1,k2,k3,m0,m1⟩:=vO w (.int .i64 (x:Int)) (.int .i64 (y:Int)) (.int .i64 0) (.int .i64 0) 40;have HX:Hid (∀ W,QZ W b n s L B C F c f->Calls Tryz.prog 130 #[.int .i64 (x:Int),.pointer (some ⟨B,0,none⟩),.pointer (some ⟨C,0,none⟩),.pointer (some ⟨F,0,none⟩)] W _):=fun W h=>qZ h.g B C F c f h.hc h.hf h.cB h.cC h.cF x hx;have HY:Hid (∀ W,QZ W b n s L B C F c f->Calls Tryz.prog 130 #[.int .i64 (y:Int),.pointer (some ⟨B,0,none⟩),.pointer (some ⟨C,0,none⟩),.pointer (some ⟨F,0,none⟩)] W _):=fun W h=>qZ h.g B C F c f h.hc h.hf h.cB h.cC h.cF y hy;clear h hB hx hy;go_enter Tryz.func64,Tryz.ntmps64
 go_wp2_with fail
 go_region_held3 (fun w'=>w'.cell? ⟨w.heap.size,0,none⟩=some (.int .i64 (x:Int))/\w'.cell? ⟨w.heap.size,1,none⟩=some (.int .i64 (y:Int))) (go_keep)
  (first
   | (go_at_call_of 130 (Value.int IntKind.i64 (x:Int));refine(HX.out _ ?_).mono ?_;(first | exact(HG.out.kept (fun _ _ h=>h)) | exact(HG.out.below aG) | exact((HG.out.below aG).kept (fun _ _ h=>h)));rintro r wx ⟨rfl,hB0x⟩;have aE:Below ((w.alloc (.cells #[.int .i64 (x:Int),.int .i64 (y:Int)] 40)).alloc (.cells #[.int .i64 0,.int .i64 0] 40)).heap.size ((w.alloc (.cells #[.int .i64 (x:Int),.int .i64 (y:Int)] 40)).alloc (.cells #[.int .i64 0,.int .i64 0] 40)) wx:=(by first | exact(((YQ _ _).drew).trans hB0x) | exact chain aG hB0x | exact chain aG (((YQ _ _).drew).trans hB0x));have q1x:=cell_kept aE _ _ k0;have q2x:=cell_kept aE _ _ k1;have q3x:=cell_kept aE _ _ k2;have q4x:=cell_kept aE _ _ k3;have q5x:=(aE.frozen (p:=⟨w.heap.size+1,0,none⟩) (by simp)).trans m0;have q6x:=(aE.frozen (p:=⟨w.heap.size+1,1,none⟩) (by simp)).trans m1;have q7x:=aE.size)
   | (go_at_call_of 130 (Value.int IntKind.i64 (y:Int));refine(HY.out _ ?_).mono ?_;(first | exact(HG.out.kept (fun _ _ h=>h)) | exact(HG.out.below aE) | exact((HG.out.below aE).kept (fun _ _ h=>h)));rintro r wy ⟨rfl,hB0y⟩;have aG:Below ((w.alloc (.cells #[.int .i64 (x:Int),.int .i64 (y:Int)] 40)).alloc (.cells #[.int .i64 0,.int .i64 0] 40)).heap.size ((w.alloc (.cells #[.int .i64 (x:Int),.int .i64 (y:Int)] 40)).alloc (.cells #[.int .i64 0,.int .i64 0] 40)) wy:=(by first | exact(((YQ _ _).drew).trans hB0y) | exact chain aE hB0y | exact chain aE (((YQ _ _).drew).trans hB0y));have q1y:=cell_kept aG _ _ k0;have q2y:=cell_kept aG _ _ k1;have q3y:=cell_kept aG _ _ k2;have q4y:=cell_kept aG _ _ k3;have q5y:=(aG.frozen (p:=⟨w.heap.size+1,0,none⟩) (by simp)).trans m0;have q6y:=(aG.frozen (p:=⟨w.heap.size+1,1,none⟩) (by simp)).trans m1;have q7y:=aG.size))
 all_goals
  go_wp2;refine bodyPost_ret (v:=.agg #[.int .i64 ((f+cnt (eqf (aM L) c) x:Nat):Int),.int .i64 ((f+cnt (eqf (aM L) c) y:Nat):Int)]) (by simp[results,Tryz.results64,go_sem, *]) rfl ?_;first
   | exact⟨rfl,((chain HB.out aG).setCell (p:=⟨w.heap.size+1,0,none⟩) (aK2 _) _).setCell (p:=⟨w.heap.size+1,1,none⟩) (aK2 _) _⟩
   | exact⟨rfl,((chain HB.out aE).setCell (p:=⟨w.heap.size+1,0,none⟩) (aK2 _) _).setCell (p:=⟨w.heap.size+1,1,none⟩) (aK2 _) _⟩
end Go.Proofs.YtphjbbbnbmafnaaGreatDoor.G
