/- Parts: BkI TkI Stv. -/
import Derived.Test.YtphjbbbnbmafnaaGreatDoorPCt
import Derived.Test.YtphjbbbnbmafnaaGreatDoorXQs
import Derived.Test.YtphjbbbnbmafnaaGreatDoorDBw
import Derived.Test.YtphjbbbnbmafnaaGreatDoorOpenS
import Derived.Test.YtphjbbbnbmafnaaGreatDoorDRe
set_option maxHeartbeats 8000000
set_option maxRecDepth 100000
namespace Go.Proofs.YtphjbbbnbmafnaaGreatDoor.G
open Go.RowKit
variable {w w2 wa:World} {B H N g len:Nat} {sg v1 v2:Value} {es is:List (Value×Int)} {x:Int}
abbrev X6(len:Nat)(x:Int):List Value:=List.replicate len (Value.int .i64 x)
theorem Bk.push2(h:Bk w B N v1 v2 es is)(s:Value)(x:Int)(hx:qF w 1 s x)(hsb:∀ g,s.ownBlock=some g->B<g/\g<w.heap.size/\v1.ownBlock≠some g/\v2.ownBlock≠some g)
 (g cap:Nat) (a3:w2.ownsRow (B+1) 71 2 (.slice (some ⟨g,0,none⟩) (is.length+1) cap) (is.length+1) (kR is++[s,.int .i64 x])) (hg:(v2.ownBlock=some g/\w.grownBy w2 (some g))\/(g=w.heap.size/\w.grownBy w2 none)) :
 Bk (w2.setCell ⟨B,2,none⟩ (.slice (some ⟨g,0,none⟩) (is.length+1) cap)) B N v1 (.slice (some ⟨g,0,none⟩) (is.length+1) cap) es (is++[(s,x)])/\Same w (w2.setCell ⟨B,2,none⟩ (.slice (some ⟨g,0,none⟩) (is.length+1) cap)) (fun k=>k=B\/v2.ownBlock=some k):=by
 have hs1:Same w w2 (fun k=>v2.ownBlock=some k):=by
  rcases hg with ⟨h1,h2⟩ | ⟨_,h2⟩
  ·exact(Same.grown h2).mono fun k _ e=>by rw[h1];exact e
  ·exact(Same.grown h2).mono fun k _ e=>by simp at e
 have hs2:=Same.set w2 ⟨B,2,none⟩ (.slice (some ⟨g,0,none⟩) (is.length+1) cap);have hs:=(hs1.trans hs2).mono (T:=fun k=>k=B\/v2.ownBlock=some k) fun k _ e=>e.elim .inr .inl;have a8:=h.lt;have hgB:=(a3.lt g rfl);have a2:∀ k,v2.ownBlock=some k->k≠B:=fun k hk e=>by have:=(h.own2.lt k hk).1;omega
 have a1:∀ k,v1.ownBlock=some k->¬(k=B\/v2.ownBlock=some k):=fun k hk e=>by
  rcases e with e | e
  ·have:=(h.own1.lt k hk).1;omega
  ·exact h.ne k hk e
 have cN:∀ k,k<w.heap.size->v2.ownBlock≠some k->g≠k:=fun k hk hn e=>by
  subst e;rcases hg with ⟨h1,_⟩ | ⟨h1,_⟩
  ·exact hn h1
  ·omega
 have lst:∀ p∈es++(is++[(s,x)]),∀ k,p.1.ownBlock=some k->B<k/\k<w.heap.size/\v1.ownBlock≠some k/\v2.ownBlock≠some k:=fun p hp k hk=>by
  rcases aC9.1 hp with hp | hp
  ·exact h.bl p (aC9.2 (.inl hp)) k hk
  ·rcases aC9.1 hp with hp | hp
   ·exact h.bl p (aC9.2 (.inr hp)) k hk
   ·simp only[aF8]at hp;subst hp;exact hsb k hk
 have b8:∀ p∈es++(is++[(s,x)]),∀ k,p.1.ownBlock=some k->¬(k=B\/v2.ownBlock=some k):=fun p hp k hk e=>by
  have:=lst p hp k hk;rcases e with e | e
  ·omega
  ·exact this.2.2.2 e
 refine⟨⟨?_,aF h.own1 hs a1,?_,fun k hk hk2 => ?_,fun p hp => ?_,fun p hp => ?_,fun p hp k hk => ?_⟩,hs⟩
 ·have e:=hs1.2 B a8 fun e=>a2 B e rfl;rw[h.row]at e;exact EL w2 B 2 _ _ _ _ e
 ·rw[WT,wQ];exact aF a3 hs2 fun k hk e=>by
   have e2:g=k:=by simpa[Value.ownBlock]using hk
   simp only at e;omega
 ·have e2:g=k:=by simpa[Value.ownBlock]using hk2
  subst e2;have hv1:=h.own1.lt g hk;rcases hg with ⟨h1,_⟩ | ⟨h1,_⟩
  ·exact h.ne g hk h1
  ·omega
 ·exact(h.l1 p hp).same hs (b8 p (aC9.2 (.inl hp)))
 ·have hm:p∈es++(is++[(s,x)]):=aC9.2 (.inr hp);rcases aC9.1 hp with hp2 | hp2
  ·exact(h.l2 p hp2).same hs (b8 p hm)
  ·simp only[aF8]at hp2;subst hp2;exact hx.same hs (b8 _ hm)
 ·have:=lst p hp k hk;refine⟨this.1,aF0 this.2.1 hs.1,this.2.2.1,fun e => ?_⟩;have e2:g=k:=by simpa[Value.ownBlock]using e
  exact cN k this.2.1 this.2.2.2 e2
theorem AJ{l c:Nat}(h:w.ownsRow H 3 1 sg len (X6 len x))(hg:sg.ownBlock=some g)(hl:l<=len)(hs:len<=1000000):qF w 1 (.slice (some ⟨g,0,none⟩) l c) x:=by
 refine⟨_,l,c,rfl,by omega,fun j hj=>⟨g,0,rfl,?_,fun e=>by omega⟩⟩;rcases h.2 with ⟨rfl,_⟩ | ⟨g0,cap,cur,rfl,_⟩
 ·simp[Value.ownBlock]at hg
 ·obtain rfl:g0=g:=by simpa[Value.ownBlock]using hg
  rw[aG1,Nat.mul_one,h.cellAt j (by omega),aE9,if_pos (by omega)]
theorem NU(h:w.ownsRow H 3 1 sg len (X6 len x))(hs:len<=1000000):qF w 1 sg x:=by
 rcases h.2 with ⟨rfl,rfl⟩ | ⟨g0,cap,cur,rfl,_⟩
 ·exact⟨none,0,0,rfl,by omega,fun j hj=>by omega⟩
 ·exact AJ h rfl (V7 _) hs
structure jG (w:World) (B N:Nat) (v1 v2:Value) (es is:List (Value×Int)) (H:Nat) (sg:Value) (len:Nat) (x:Int):Prop where
 bk:Bk w B N v1 v2 es is
 own:w.ownsRow H 3 1 sg len (X6 len x)
 hH:B<H
 small:len<=1000000
 far:∀ g,sg.ownBlock=some g->v1.ownBlock≠some g/\v2.ownBlock≠some g
 same:∀ p∈es++is,∀ g,p.1.ownBlock=some g->sg.ownBlock=some g->p∈is/\p∉es/\p.2=x/\∃ l c,p.1 = .slice (some ⟨g,0,none⟩) l c/\l<=len
theorem jG.below{w':World}(h:jG w B N v1 v2 es is H sg len x)(hB:Below w.heap.size w w'):jG w' B N v1 v2 es is H sg len x :=
 ⟨h.bk.below hB,gQ h.own hB,h.hH,h.small,h.far,h.same⟩
theorem jG.grow(h:jG w B N v1 v2 es is H sg len x)(hlen1:len+1<=1000000)(g cap:Nat)
 (a3:w2.ownsRow H 3 1 (.slice (some ⟨g,0,none⟩) (len+1) cap) (len+1) (X6 len x++[.int .i64 x])) (hg:(sg.ownBlock=some g/\w.grownBy w2 (some g))\/(g=w.heap.size/\w.grownBy w2 none)) :
 jG w2 B N v1 v2 es is H (.slice (some ⟨g,0,none⟩) (len+1) cap) (len+1) x/\Same w w2 (fun k=>H<=k):=by
 have cP:X6 len x++[.int .i64 x]=X6 (len+1) x:=(aL1).symm;rw[cP]at a3;have hgH:=a3.lt g rfl;have hB:=h.hH;have a8:=h.bk.lt;rcases hg with ⟨h1,h2⟩ | ⟨h1,h2⟩
 ·have hs:=Same.grown h2;have hf:=h.far g h1;have e1:∀ k,v1.ownBlock=some k->¬ some g=some k:=fun k hk e=>hf.1 (by rw[hk,e]);have e2:∀ k,v2.ownBlock=some k->¬ some g=some k:=fun k hk e=>hf.2 (by rw[hk,e]);have cM:∀ p∈is,qF w2 1 p.1 p.2:=fun p hp=>by
   by_cases hpg:p.1.ownBlock=some g
   ·obtain⟨_,_,hx,l,c,hp1,hl⟩:=h.same p (aC9.2 (.inr hp)) g hpg h1;rw[hp1,hx];exact AJ a3 rfl (by omega) hlen1
   ·exact(h.bk.l2 p hp).same hs fun k hk e=>hpg (by rw[hk,e])
  refine⟨⟨⟨?_,aF h.bk.own1 hs e1,aF h.bk.own2 hs e2,h.bk.ne,fun p hp => ?_,cM,fun p hp k hk => ?_⟩,a3,h.hH,hlen1,fun k hk => ?_,fun p hp k hk hk2 => ?_⟩,hs.mono fun k _ e=>by injection e with e;omega⟩
  ·rw[hs.2 B a8 fun e=>by injection e with e;omega];exact h.bk.row
  ·exact(h.bk.l1 p hp).same hs fun k hk e=>(h.same p (aC9.2 (.inl hp)) k hk (by rw[h1,e])).2.1 hp
  ·have:=h.bk.bl p hp k hk;exact⟨this.1,aF0 this.2.1 hs.1,this.2.2⟩
  ·have e:g=k:=by simpa[Value.ownBlock]using hk
   subst e;exact hf
  ·have e:g=k:=by simpa[Value.ownBlock]using hk2
   subst e;obtain⟨a,b,c,l,d,e1,e2⟩:=h.same p hp g hk h1;exact⟨a,b,c,l,d,e1,by omega⟩
 ·have hs:Same w w2 (fun _=>False):=(Same.grown h2).mono fun k _ e=>by simp at e
  have cC:Bk w2 B N v1 v2 es is:=h.bk.same hs id (fun _ _=>id) (fun _ _=>id) (fun _ _ _ _=>id);refine⟨⟨cC,a3,h.hH,hlen1,fun k hk => ?_,fun p hp k hk hk2 => ?_⟩,hs.mono fun _ _ e=>e.elim⟩
  ·have e:g=k:=by simpa[Value.ownBlock]using hk
   refine⟨fun e2 => ?_,fun e2 => ?_⟩
   ·have:=(h.bk.own1.lt k e2).2;omega
   ·have:=(h.bk.own2.lt k e2).2;omega
  ·have e:g=k:=by simpa[Value.ownBlock]using hk2
   have:=(h.bk.bl p hp k hk).2.1;omega
theorem jG.push(h:jG w B N v1 v2 es is H sg len x)(g cap:Nat)
 (a3:w2.ownsRow (B+1) 71 2 (.slice (some ⟨g,0,none⟩) (is.length+1) cap) (is.length+1) (kR is++[sg,.int .i64 x])) (hg:(v2.ownBlock=some g/\w.grownBy w2 (some g))\/(g=w.heap.size/\w.grownBy w2 none)) :
 jG (w2.setCell ⟨B,2,none⟩ (.slice (some ⟨g,0,none⟩) (is.length+1) cap)) B N v1 (.slice (some ⟨g,0,none⟩) (is.length+1) cap) es (is++[(sg,x)]) H sg len x/\Same w (w2.setCell ⟨B,2,none⟩ (.slice (some ⟨g,0,none⟩) (is.length+1) cap)) (fun k=>k=B\/v2.ownBlock=some k):=by
 have hB:=h.hH;have cQ:∀ k,sg.ownBlock=some k->B<k/\k<w.heap.size/\v1.ownBlock≠some k/\v2.ownBlock≠some k:=fun k hk=>by
  have:=h.own.lt k hk;exact⟨by omega,this.2,h.far k hk⟩
 obtain⟨hb,hs⟩:=h.bk.push2 sg x (NU h.own h.small) cQ g cap a3 hg;refine⟨⟨hb,aF h.own hs fun k hk e => ?_,h.hH,h.small,fun k hk => ?_,fun p hp k hk hk2 => ?_⟩,hs⟩
 ·have:=cQ k hk;rcases e with e | e
  ·omega
  ·exact this.2.2.2 e
 ·have:=cQ k hk;refine⟨this.2.2.1,fun e => ?_⟩;have e2:g=k:=by simpa[Value.ownBlock]using e
  subst e2;rcases hg with ⟨h1,_⟩ | ⟨h1,_⟩
  ·exact this.2.2.2 h1
  ·omega
 ·have old:p∈es++is->_:=fun hm=>h.same p hm k hk hk2;rcases aC9.1 hp with hp | hp
  ·obtain⟨a,b⟩:=old (aC9.2 (.inl hp));exact⟨aC9.2 (.inl a),b⟩
  ·rcases aC9.1 hp with hp | hp
   ·obtain⟨a,b⟩:=old (aC9.2 (.inr hp));exact⟨aC9.2 (.inl a),b⟩
   ·simp only[aF8]at hp;subst hp;refine⟨by simp,fun hi=>(h.same _ (aC9.2 (.inl hi)) k hk hk2).2.1 hi,rfl,?_⟩;rcases h.own.2 with ⟨e,_⟩ | ⟨g0,a6,cur,e,_⟩
    ·rw[e]at hk;simp[Value.ownBlock]at hk
    ·rw[e]at hk;obtain rfl:g0=k:=by simpa[Value.ownBlock]using hk
     exact⟨len,a6,e,V7 _⟩
theorem SE(A:List Value)(i:Nat)(x:Value)(hi:i<A.length):(List.replicate i x++A.drop i).set i x=List.replicate (i+1) x++A.drop (i+1):=by
 rw[aI1 _ _ (by simp),aH3,aJ1,aL1,aD3];congr 1;rw[aG0 hi];rfl
theorem CO{wr:World}{v:Value}(hb:Bk w B N v1 v2 es is)(hF:B<H/\(∀ g,v1.ownBlock=some g->g<H)/\(∀ g,v2.ownBlock=some g->g<H)/\(∀ p∈es++is,∀ g,p.1.ownBlock=some g->g<H))
 (a3:wr.ownsRow H 3 1 v len (X6 len x)) (hg:w.grownBy wr v.ownBlock) (hl:len<=1000000):jG wr B N v1 v2 es is H v len x:=by
 have hs:=Same.grown hg;have hk:∀ k,v.ownBlock=some k->H<=k:=fun k hk=>(a3.lt k hk).1;have n1:∀ k,k<H->¬ v.ownBlock=some k:=fun k h1 h2=>by have:=hk k h2;omega
 exact⟨hb.same hs (n1 B hF.1) (fun g h=>n1 g (hF.2.1 g h)) (fun g h=>n1 g (hF.2.2.1 g h)) (fun p hp g h=>n1 g (hF.2.2.2 p hp g h)),a3,hF.1,hl,
  fun g h=>⟨fun e=>n1 g (hF.2.1 g e) h,fun e=>n1 g (hF.2.2.1 g e) h⟩,fun p hp g h h2=>absurd h2 (n1 g (hF.2.2.2 p hp g h))⟩
theorem Bk.row_after2(h:Bk w B N v1 v2 es is)(hg:(v2.ownBlock=some g/\w.grownBy w2 (some g))\/(g=w.heap.size/\w.grownBy w2 none)):w2.heap[B]?=some (.cells #[.int .i64 (N:Int),v1,v2] 36 (0,0)):=by
 rcases hg with ⟨h1,h2⟩ | ⟨_,h2⟩
 ·rw[h2.block B h.lt (fun e=>by injection e with e;have:=(h.own2.lt g h1).1;omega)];exact h.row
 ·rw[h2.block B h.lt (fun e=>by simp at e)];exact h.row
theorem tJ(hb:Bk wa B N v1 v2 es is)(hB:Below B w wa)(hg:(v2.ownBlock=some g/\wa.grownBy w2 (some g))\/(g=wa.heap.size/\wa.grownBy w2 none))(u:Value):Below B w (w2.setCell ⟨B,2,none⟩ u):=by
 have a8:=aH2 hb.lt;rcases hg with ⟨h1,h2⟩ | ⟨_,h2⟩
 ·exact(hB.grown h2 a8 (fun k e=>by injection e with e;have:=(hb.own2.lt g h1).1;omega)).setCell (V7 _) u
 ·exact(hB.grown h2 a8 (fun k e=>by simp at e)).setCell (V7 _) u
theorem F9(hy:jG wa B N v1 v2 es is H sg len x)(hB:Below B w wa)(hg:(sg.ownBlock=some g/\wa.grownBy w2 (some g))\/(g=wa.heap.size/\wa.grownBy w2 none)):Below B w w2:=by
 have a8:=aH2 hy.bk.lt;rcases hg with ⟨h1,h2⟩ | ⟨_,h2⟩
 ·exact hB.grown h2 a8 (fun k e=>by injection e with e;have:=(hy.own.lt g h1).1;have:=hy.hH;omega)
 ·exact hB.grown h2 a8 (fun k e=>by simp at e)
theorem Tryz.infoB2:(Tryz.prog.info? 71).map (fun i=>(i.zero,i.size,i.bytes))=some (some (.agg #[.slice none 0 0,.int .i64 0]),2,32):=by kernel_rfl
end Go.Proofs.YtphjbbbnbmafnaaGreatDoor.G
namespace Go.Proofs.YtphjbbbnbmafnaaGreatDoor.G
open Go.RowKit Go.Shelf
variable {w:World}
attribute [local go_sem ↓] Go.wp_at_zero Go.wp_at_succ
theorem YS{b:Nat}{v:Value}{l:List Nat}(h:w.ownsRow b 3 1 v l.length (ints l)):EN w v l:=by
 obtain⟨h1,h2⟩:=h;rcases h2 with ⟨rfl,h3⟩ | ⟨g,cap,cur,rfl,hb,hg,hr⟩
 ·refine⟨none,0,by rw[h3],fun j x hj => ?_⟩;rw[aI6.1 h3]at hj;simp at hj
 ·refine⟨_,cap,rfl,fun j x hj=>⟨g,0,rfl,?_⟩⟩;have hjl:=(aC4.1 hj).1;have a3:w.ownsRow b 3 1 (.slice (some ⟨g,0,none⟩) l.length cap) l.length (ints l):=⟨h1,.inr ⟨g,cap,cur,rfl,hb,hg,hr⟩⟩;rw[aG1,a3.cellAt j (by omega),aD0,hj];rfl
theorem PE{B N:Nat}{v1 v2:Value}{es is:List (Value×Int)}(hb:Bk w B N v1 v2 es is)(H:Nat)(v vm:Value)(A:List Nat)(hv:w.ownsRow H 3 1 v A.length (ints A))(hH:B<H)(hHw:H<=w.heap.size)(h1:∀ g,v1.ownBlock=some g->g<H)(h2:∀ g,v2.ownBlock=some g->g<H)(h3:∀ p∈es++is,∀ g,p.1.ownBlock=some g->g<H)(hm:EN w vm A)(hA:A.length<=20000)(hN:N<=2000000000000)(hn:is.length<=5500000000000):
 Calls Tryz.prog 26 #[.pointer (some ⟨B,0,none⟩),v,vm] w fun e w'=>e = .returned (.bool true)/\(∃ a9 a7,Bk w' B (N+1) v1 a9 es a7/\a7.length=is.length+4)/\Below B w w':=by
 have hva:=YS hv;have HV:Hid _:=hv;have bW:Hid _:=hb;obtain⟨a0,a6,rfl,hed⟩:=hva;obtain⟨am,capm,rfl,hem⟩:=hm;have HE:Hid _:=hed;have HM:Hid _:=hem;have HF:Hid (B<H/\(∀ g,v1.ownBlock=some g->g<H)/\(∀ g,v2.ownBlock=some g->g<H)/\(∀ p∈es++is,∀ g,p.1.ownBlock=some g->g<H)):=⟨hH,h1,h2,h3⟩;clear hv hb hed hem h1 h2 h3 hH;go_enter Tryz.func26,Tryz.ntmps26
 go_wp2;go_loopw [7,8] (fun so si wr=>∃ i q:Nat,i<=A.length/\so = .bool true/\si = .int .i64 (i:Int)/\wr=w.drewN q) (fun _ si _=>A.length-(intOf si).toNat)
 case atStart=>exact⟨0,0,aC6 _,rfl,rfl,rfl⟩
 case round =>
  obtain⟨i,q,hi,rfl,rfl,rfl⟩:=hrel;by_cases a8:i<A.length
  ·obtain⟨x,hx⟩:∃ x,A[i]?=some x:=⟨_,A7 a8⟩;obtain⟨g,off,rfl,c0⟩:=HE.out i x hx;obtain⟨g',off',rfl,d0⟩:=HM.out i x hx;have hiI:(i:Int)<(A.length:Int):=by omega
   clear hx;go_wp2;go_quiet (fail)
   go_wp2;go_roundw;case rel=>exact⟨i+1,_,by omega,rfl,by go_num,rfl⟩
   case measure=>simp[intOf];omega
  ·obtain rfl:i=A.length:=by omega
   have cB:Below w.heap.size w (w.drewN q):=below_drewN (YQ _ _) q;have b4:Hid _:=bW.out.below cB;have cI:Hid _:=gQ HV.out cB;have HBq:Hid _:=cB;clear cB;obtain⟨W1,cJ⟩:∃ W1,W1=w.drewN q:=⟨_,rfl⟩;rw[<-cJ]at b4 cI HBq;rw[<-cJ];clear cJ;have a4:=b4.out.row;have c0:W1.cell? ⟨B,0,none⟩=some (.int .i64 (N:Int)):=by rw[cell_of_row _ _ 0 _ _ _ a4];rfl
   have f0:=frozen_of_row W1 B 0 _ _ a4;clear a4;go_wp2;obtain⟨W3,c8⟩:∃ W3,W3=W1.setCell ⟨B,0,none⟩ (.int .i64 ((N:Int)+1)):=⟨_,rfl⟩;rw[<-c8];have hb3:Bk W3 B (N+1) v1 v2 es is:=by rw[c8];exact b4.out.setN (N+1)
   have hs3:Same W1 W3 (fun k=>k=B):=by rw[c8];exact Same.set W1 ⟨B,0,none⟩ (.int .i64 ((N:Int)+1))
   have hv3:W3.ownsRow H 3 1 (.slice a0 A.length a6) A.length (ints A):=aF cI.out hs3 fun g hg e=>by
    have:=(World.ownsRow.lt cI.out g hg).1;have:=HF.out.1;omega
   have c7:Below B w W3:=by
    rw[c8];exact(HBq.out.mono (aH2 bW.out.lt)).setCell (p:=⟨B,0,none⟩) (V7 _) (.int .i64 ((N:Int)+1))
   have b9:Hid _:=hb3;have HV3:Hid _:=hv3;have cF:Hid _:=c7;have hwr:IntKind.i64.wrap (-((N:Int)+1)) = -((N:Int)+1):=by rw[aK6];omega
   have hl3:(ints A).length=A.length:=by simp
   have cH:Hid _:=hl3;clear hb3 hs3 hv3 c7 c8 c0 f0 hi a8 hl3;go_loopw [9] (fun si wr=>∃ i:Nat,i<=A.length/\si = .int .i64 (i:Int)/\Hid (wr.ownsRow H 3 1 (.slice a0 A.length a6) A.length (List.replicate i (Value.int .i64 (-((N:Int)+1)))++(ints A).drop i)/\W3.grownBy wr (Value.slice a0 A.length a6).ownBlock)) (fun si _=>A.length-(intOf si).toNat)
   case atStart=>exact⟨0,aC6 _,rfl,⟨HV3.out,⟨rfl,rfl,rfl,V7 _,fun _ _ _=>rfl⟩⟩⟩
   case round =>
    obtain⟨i,hi,rfl,HI⟩:=hrel;have hbB:wr.heap[B]?=some (.cells #[.int .i64 ((N:Int)+1),v1,v2] 36 (0,0)):=by
     rw[HI.out.2.block B b9.out.lt (fun e=>by have:=(World.ownsRow.lt HI.out.1 B e.symm).1;have:=HF.out.1;omega)];exact b9.out.row
    have b0:wr.cell? ⟨B,0,none⟩=some (.int .i64 ((N:Int)+1)):=by rw[cell_of_row _ _ 0 _ _ _ hbB];rfl
    clear hbB;by_cases a8:i<A.length
    ·obtain⟨g,cap,hvv,_,_⟩:=World.ownsRow.form HI.out.1 (by omega);injection hvv with e1 _ e2;subst e1 e2;obtain⟨y,hy⟩:∃ y,(List.replicate i (Value.int .i64 (-((N:Int)+1)))++(ints A).drop i)[i]?=some y:=⟨_,A7 (by have:=cH.out;simp;omega)⟩;have d0:wr.cell? ⟨g,i,none⟩=some y:=by rw[World.ownsRow.cellAt HI.out.1 i (by omega)];exact hy
     have k0:=World.ownsRow.frozenAt HI.out.1 i;have cR:=(World.ownsRow.stored HI.out.1 i (Value.int .i64 (-((N:Int)+1)))).1;rw[SE _ _ _ (by rw[cH.out];exact a8)]at cR;have HN:Hid ((wr.setCell ⟨g,i,none⟩ (.int .i64 (-((N:Int)+1)))).ownsRow H 3 1 (.slice (some ⟨g,0,none⟩) A.length a6) A.length (List.replicate (i+1) (Value.int .i64 (-((N:Int)+1)))++(ints A).drop (i+1))/\W3.grownBy (wr.setCell ⟨g,i,none⟩ (.int .i64 (-((N:Int)+1)))) (some g)):=(⟨cR,gX HI.out.2 (jR _ _ _ _)⟩:_/\_);have hiI:(i:Int)<(A.length:Int):=by omega
     clear cR HI hy;go_wp2;go_roundw;case rel=>exact⟨i+1,by omega,by go_num,HN.out⟩
     case measure=>simp[intOf];omega
    ·obtain rfl:i=A.length:=by omega
     have HY:Hid (jG wr B (N+1) v1 v2 es is H (.slice a0 A.length a6) A.length (-((N:Int)+1))):=(by
      have a3:=HI.out.1;rw[aH0 (by rw[cH.out];exact V7 _),aE4]at a3;exact CO b9.out HF.out a3 HI.out.2 (by omega):jG _ _ _ _ _ _ _ _ _ _ _)
     have HBl:Hid (Below B w wr):=(cF.out.grown HI.out.2 (aH2 b9.out.lt) (fun r hr=>by
      have:=(World.ownsRow.lt HI.out.1 r hr).1;have:=HF.out.1;omega):Below _ _ _)
     clear HI b0;obtain⟨i1,hi1,hz0,hz1,hz2⟩:=info_parts Tryz.infoB2;obtain⟨i3,hi3,hy0,hy1,hy2⟩:=info_parts Tryz.infoIi;have a4:=HY.out.bk.row;have c0:wr.cell? ⟨B,0,none⟩=some (.int .i64 ((N:Int)+1)):=by rw[cell_of_row _ _ 0 _ _ _ a4];rfl
     have c2:wr.cell? ⟨B,2,none⟩=some v2:=by rw[cell_of_row _ _ 2 _ _ _ a4];rfl
     have f2:=frozen_of_row wr B 2 _ _ a4;have hn1:is.length+1<=6000000000000:=by omega
     clear a4;go_upto_region 11 with fail
     obtain⟨S,hS⟩:∃ S:World->Prop,S=fun w'=>w'.cell? ⟨B,0,none⟩=some (.int .i64 ((N:Int)+1))/\w'.cell? ⟨B,2,none⟩=some v2:=⟨_,rfl⟩;have b5:∀{w':World},S w'->w'.cell? ⟨B,0,none⟩=some (.int .i64 ((N:Int)+1))/\w'.cell? ⟨B,2,none⟩=some v2:=fun h=>by rw[hS]at h;exact h
     have b1:S wr.drew:=by rw[hS];exact⟨c0,c2⟩
     have s0:∀ u,(kept S wr.drew u).cell? ⟨B,0,none⟩=some (.int .i64 ((N:Int)+1)):=fun u=>by exact(b5 (nK b1 u)).1
     have s1:∀ u,(kept S wr.drew u).cell? ⟨B,2,none⟩=some v2:=fun u=>by exact(b5 (nK b1 u)).2
     have HS:Hid _:=hS;clear hS b5;refine qE S 12 b1 (Nat.le_of_ble_eq_true (by kernel_rfl)) rfl (by kernel_rfl) (by kernel_rfl) (by kernel_rfl) ⟨by kernel_rfl,by kernel_rfl⟩ ?_;simp only[List.dropLast,List.take,List.drop];repeat (go_big_quiet_step (fail))
     refine wpQuiet_nil ?_;simp only[List.getLast];intro K hK;go_simp;have aE:Below wr.heap.size wr (wr.drew.alloc (.cells #[.slice a0 A.length a6,.int .i64 (-((N:Int)+1))] 71)):=((YQ _ wr).drew).trans (aA wr.drew _);refine hK.out _ _ (by rw[HS.out];exact⟨cell_kept aE _ _ c0,cell_kept aE _ _ c2⟩) (fun _ => ?_);clear hK K;intro K hK;refine bI _ (by rfl) _ _ _ (by rfl) (B+1) 71 i1 _ 2 32 Tryz.underlying34 hi1 hz0 hz1 hz2 rfl (by omega) v2 is.length (kR is) (by rfl) (World.ownsRow.alloc (World.ownsRow.drew HY.out.bk.own2) _) ⟨wr.heap.size,0,none⟩ 1 1 [.slice a0 A.length a6,.int .i64 (-((N:Int)+1))] (by rfl) (by rfl) (aG4 (cs:=#[.slice a0 A.length a6,.int .i64 (-((N:Int)+1))]) (t:=71) (fr:=(0,0)) (heap_alloc_new wr.drew _)) (by simp[Value.oneCell']) (by omega) (by unfold maxLen;omega) (by omega) (by have:=HY.out.bk.lt;simp;omega) ?_;intro g6 cap6 w6 hown6 hg6;have b3:=HY.out.below aE;have a5:=Bk.row_after2 b3.bk hg6;have j0:w6.cell? ⟨B,0,none⟩=some (.int .i64 ((N:Int)+1)):=by rw[cell_of_row _ _ 0 _ _ _ a5];rfl
     have j2:w6.cell? ⟨B,2,none⟩=some v2:=by rw[cell_of_row _ _ 2 _ _ _ a5];rfl
     have j3:=frozen_of_row w6 B 2 _ _ a5;refine hK.out _ _ (by rw[HS.out];exact⟨j0,j2⟩) (fun _ => ?_);clear hK K;simp only[Act.put,aL2,aJ7,List.set_cons_succ];intro K hK;go_simp;refine hK.out _ _ (by rw[HS.out];exact⟨j0,j2⟩) (fun _ => ?_);clear hK K;intro K hK;go_simp;refine hK.out _ _ (by rw[HS.out];exact⟨j0,j2⟩) (fun _ => ?_);clear hK K;have hp:=b3.push g6 cap6 hown6 hg6;have HR:Hid (_/\_):=⟨hp.1,tJ b3.bk (HBl.out.trans (aE.mono (aH2 HY.out.bk.lt))) hg6 (.slice (some ⟨g6,0,none⟩) (is.length+1) cap6)⟩;clear hp b3 hown6 hg6 a5 aE;refine yX ?_;go_simp;clear HS b1 s0 s1 c0 c2 f2 j0 j2 j3;go_wp2;go_loopw [10,11] (fun sg sk wr=>∃(k:Nat) (a9:Value) (a7:List (Value×Int)),k<=3/\sk = .int .i64 (k:Int)/\a7.length=is.length+1+k/\(∃ a1 c1,sg = .slice a1 (A.length+k) c1)/\Hid (jG wr B (N+1) v1 a9 es a7 H sg (A.length+k) (-((N:Int)+1))/\Below B w wr)) (fun _ sk _=>3-(intOf sk).toNat)
     case atStart=>exact⟨0,_,_,by omega,rfl,by simp,⟨a0,a6,rfl⟩,HR.out⟩
     case round =>
      obtain⟨k,a9,a7,hk,rfl,cL,⟨a1,c1,rfl⟩,HI⟩:=hrel;by_cases hlt3:k<3
      ·have hkI:(k:Int)<3:=by omega
       have a4:=HI.out.1.bk.row;have b0:wr.cell? ⟨B,0,none⟩=some (.int .i64 ((N:Int)+1)):=by rw[cell_of_row _ _ 0 _ _ _ a4];rfl
       have hHr:H<=wr.heap.size:=aD9 hHw (HI.out.2.size);have hrw:=HI.out.1.own;clear a4;go_wp2_with (at_builtin;refine aO _ rfl _ _ 64 rfl H 3 i3 (.int .i64 0) 1 8 Tryz.underlying64 hi3 hy0 hy1 hy2 rfl (by decide) _ _ _ rfl (hrw.alloc _) ⟨wr.heap.size,0,none⟩ 1 1 [.int .i64 (-((N:Int)+1))] rfl rfl (aG4 (cs:=#[.int .i64 (-((N:Int)+1))]) (t:=3) (fr:=(0,0)) (heap_alloc_new wr _)) (by simp[Value.oneCell']) (by omega) (by unfold maxLen;omega) (by omega) (by simp;omega) ?_;intro g5 cap5 w5 hown5 hg5)
       have cS:=HI.out.1.below (aA wr (.cells #[.int .i64 (-((N:Int)+1))] 3));have hgr:=cS.grow (by omega) g5 cap5 hown5 hg5;have bX:Hid _:=hgr.1;have cG:Hid _:=F9 cS (HI.out.2.alloc (aH2 HI.out.1.bk.lt) _) hg5;have HEl:Hid _:=cL;have hel2:a7.length<=5500000000004:=by omega
       clear cL cS hgr hown5 hg5 hrw b0 HI HR HY HBl;have a4:=bX.out.bk.row;have c0:w5.cell? ⟨B,0,none⟩=some (.int .i64 ((N:Int)+1)):=by rw[cell_of_row _ _ 0 _ _ _ a4];rfl
       have c2:w5.cell? ⟨B,2,none⟩=some a9:=by rw[cell_of_row _ _ 2 _ _ _ a4];rfl
       have f2:=frozen_of_row w5 B 2 _ _ a4;have hn1:a7.length+1<=6000000000000:=by omega
       clear a4;go_upto_region 17 with fail
       obtain⟨S,hS⟩:∃ S:World->Prop,S=fun w'=>w'.cell? ⟨B,0,none⟩=some (.int .i64 ((N:Int)+1))/\w'.cell? ⟨B,2,none⟩=some a9:=⟨_,rfl⟩;have b5:∀{w':World},S w'->w'.cell? ⟨B,0,none⟩=some (.int .i64 ((N:Int)+1))/\w'.cell? ⟨B,2,none⟩=some a9:=fun h=>by rw[hS]at h;exact h
       have b1:S w5.drew:=by rw[hS];exact⟨c0,c2⟩
       have s0:∀ u,(kept S w5.drew u).cell? ⟨B,0,none⟩=some (.int .i64 ((N:Int)+1)):=fun u=>by exact(b5 (nK b1 u)).1
       have s1:∀ u,(kept S w5.drew u).cell? ⟨B,2,none⟩=some a9:=fun u=>by exact(b5 (nK b1 u)).2
       have HS:Hid _:=hS;clear hS b5;refine qE S 12 b1 (Nat.le_of_ble_eq_true (by kernel_rfl)) rfl (by kernel_rfl) (by kernel_rfl) (by kernel_rfl) ⟨by kernel_rfl,by kernel_rfl⟩ ?_;simp only[List.dropLast,List.take,List.drop];repeat (go_big_quiet_step (fail))
       refine wpQuiet_nil ?_;simp only[List.getLast];intro K hK;go_simp;have aE:Below w5.heap.size w5 (w5.drew.alloc (.cells #[.slice (some ⟨g5,0,none⟩) (A.length+k+1) cap5,.int .i64 (-((N:Int)+1))] 71)):=((YQ _ w5).drew).trans (aA w5.drew _);refine hK.out _ _ (by rw[HS.out];exact⟨cell_kept aE _ _ c0,cell_kept aE _ _ c2⟩) (fun _ => ?_);clear hK K;intro K hK;refine bI _ (by rfl) _ _ _ (by rfl) (B+1) 71 i1 _ 2 32 Tryz.underlying34 hi1 hz0 hz1 hz2 rfl (by omega) a9 a7.length (kR a7) (by rfl) (World.ownsRow.alloc (World.ownsRow.drew bX.out.bk.own2) _) ⟨w5.heap.size,0,none⟩ 1 1 [.slice (some ⟨g5,0,none⟩) (A.length+k+1) cap5,.int .i64 (-((N:Int)+1))] (by rfl) (by rfl) (aG4 (cs:=#[.slice (some ⟨g5,0,none⟩) (A.length+k+1) cap5,.int .i64 (-((N:Int)+1))]) (t:=71) (fr:=(0,0)) (heap_alloc_new w5.drew _)) (by simp[Value.oneCell']) (by omega) (by unfold maxLen;omega) (by omega) (by have:=bX.out.bk.lt;simp;omega) ?_;intro g6 cap6 w6 hown6 hg6;have b3:=bX.out.below aE;have a5:=Bk.row_after2 b3.bk hg6;have j0:w6.cell? ⟨B,0,none⟩=some (.int .i64 ((N:Int)+1)):=by rw[cell_of_row _ _ 0 _ _ _ a5];rfl
       have j2:w6.cell? ⟨B,2,none⟩=some a9:=by rw[cell_of_row _ _ 2 _ _ _ a5];rfl
       have j3:=frozen_of_row w6 B 2 _ _ a5;refine hK.out _ _ (by rw[HS.out];exact⟨j0,j2⟩) (fun _ => ?_);clear hK K;simp only[Act.put,aL2,aJ7,List.set_cons_succ];intro K hK;go_simp;refine hK.out _ _ (by rw[HS.out];exact⟨j0,j2⟩) (fun _ => ?_);clear hK K;intro K hK;go_simp;refine hK.out _ _ (by rw[HS.out];exact⟨j0,j2⟩) (fun _ => ?_);clear hK K;have hp:=b3.push g6 cap6 hown6 hg6;have HR:Hid (_/\_):=⟨hp.1,tJ b3.bk (cG.out.trans (aE.mono (aH2 bX.out.bk.lt))) hg6 (.slice (some ⟨g6,0,none⟩) (a7.length+1) cap6)⟩;clear hp b3 hown6 hg6 a5 aE;refine yX ?_;go_simp;clear HS b1 s0 s1 c0 c2 f2 j0 j2 j3;go_wp2;go_roundw;case rel=>exact⟨k+1,_,_,by omega,by go_num,by rw[WT,HEl.out];rfl,⟨_,cap5,rfl⟩,HR.out⟩
       case measure=>simp[intOf];omega
      ·obtain rfl:k=3:=by omega
       have HR:Hid (_/\_/\_):=⟨HI.out.1.bk,HI.out.2,cL⟩;clear HI;go_wp2;go_ret;exact⟨rfl,⟨a9,a7,HR.out.1,by have:=HR.out.2.2;omega⟩,HR.out.2.1⟩
end Go.Proofs.YtphjbbbnbmafnaaGreatDoor.G
namespace Go.Proofs.YtphjbbbnbmafnaaGreatDoor.G
open Go.RowKit
variable {B N b n s:Nat} {L:List E3} {w:World} {outs:Nat->List E3} {c u:Int} {q:ByteArray} {res:List Nat} {v1 v2:Value} {es is:List (Value×Int)}
attribute [local go_sem ↓] Go.wp_at_zero Go.wp_at_succ
abbrev uW(L:List E3)(u:Nat):List E3:=L.filter (qP (u:Int) ((u:Int)+1))
theorem TB(L:List E3):Eof (uW L)=uV L:=by
 funext m c v;unfold Eof uV uW;rw[List.mem_filter];refine propext ⟨fun h=>h.1,fun h=>⟨h,?_⟩⟩;unfold qP;simp only[decide_eq_true_eq];omega
theorem IP(h:okG n s L):∀ e∈L,∃ a c b:Nat,e=((a:Int),(c:Int),(b:Int))/\a<n/\c<s/\b<n:=fun e he=>by
 obtain⟨h1,h2,h3,h4,h5,h6⟩:=h.2 e he;obtain⟨a,c,b⟩:=e;simp only at h1 h2 h3 h4 h5 h6;refine⟨a.toNat,c.toNat,b.toNat,?_,by omega,by omega,by omega⟩;rw[Int.toNat_of_nonneg h1,Int.toNat_of_nonneg h3,Int.toNat_of_nonneg h5]
theorem XZ(h:okG n s L)(hL:L.length<=20000):GX (uW L) n s:=fun u hu=>by
 refine⟨aD9 (aE8 _ _) (aD9 hL (by omega)),fun e he => ?_⟩;obtain⟨h1,h2⟩:=List.mem_filter.1 he;obtain⟨a,c,b,rfl,ha,hc,hb⟩:=IP h e h1;unfold qP at h2;simp only[decide_eq_true_eq]at h2;obtain rfl:a=u:=by omega
 exact⟨c,b,rfl,hc,hb⟩
theorem out_c(h:aJ w b n s L):aBf (uW L) w b n:=fun W hW u hu=>by
 have b6:=h.bd;refine(yD (h.below hW) (u:Int) (by omega) (by omega)).mono ?_;rintro r w' (⟨h1,_⟩ | ⟨_,z,h1,h2⟩)
 ·exact absurd ⟨by omega,by omega⟩ h1
 ·exact⟨z,h1,h2⟩
def yK(outs:Nat->List E3)(u:Int)(q:ByteArray)(n s:Nat)(c:Int)(res:List Nat):Prop :=
 (¬(0<=u/\u<(n:Int))/\c=1/\res=[])\/((0<=u/\u<(n:Int))/\(200<q.size\/RxM.read s (codes q)=none)/\c=6/\res=[]) \/
  ((0<=u/\u<(n:Int))/\q.size<=200/\∃ t,RxM.read s (codes q)=some t/\c=0/\res.Pairwise (· < ·)/\∀ v,v∈res↔v<n/\RxM.rel (Eof outs) t u.toNat v)
theorem XX{c2:Int}{res2:List Nat}(h:yK outs u q n s c res)(h2:yK outs u q n s c2 res2):c2=c/\res2=res:=by
 rcases h with ⟨a,rfl,rfl⟩ | ⟨a,b,rfl,rfl⟩ | ⟨a,b,t,ht,rfl,p,m⟩ <;> rcases h2 with ⟨a2,rfl,rfl⟩ | ⟨a2,b2,rfl,rfl⟩ | ⟨a2,b2,t2,ht2,rfl,p2,m2⟩
 ·exact⟨rfl,rfl⟩
 ·exact absurd a2 a
 ·exact absurd a2 a
 ·exact absurd a a2
 ·exact⟨rfl,rfl⟩
 ·rcases b with b | b
  ·omega
  ·rw[b]at ht2;cases ht2
 ·exact absurd a a2
 ·rcases b2 with b2 | b2
  ·omega
  ·rw[b2]at ht;cases ht
 ·rw[ht]at ht2;injection ht2 with e;subst e;exact⟨rfl,RxM.IA _ _ p2 p fun x=>(m2 x).trans (m x).symm⟩
open Classical in
theorem YO(h:yK outs u q n s c res):res.length<=n:=by
 rcases h with ⟨_,_,rfl⟩ | ⟨_,_,_,rfl⟩ | ⟨a,b,t,ht,rfl,p,m⟩
 ·simp
 ·simp
 ·have e:=RxM.IA res ((List.range n).filter fun v=>decide (RxM.rel (Eof outs) t u.toNat v)) p ((List.pairwise_lt_range).filter _) (fun x=>by
   rw[m x,List.mem_filter,List.mem_range,decide_eq_true_eq])
  rw[e];refine aD9 (aE8 _ _) ?_;rw[List.length_range];exact V7 _
theorem ZU{v:Value}{l:List Nat}(h:w.ownsRow b 3 1 v l.length (ints l)):EN w v l:=by
 obtain⟨h1,h2⟩:=h;rcases h2 with ⟨rfl,h3⟩ | ⟨g,cap,cur,rfl,hb,hg,hr⟩
 ·refine⟨none,0,by rw[h3],fun j x hj => ?_⟩;rw[aI6.1 h3]at hj;simp at hj
 ·refine⟨_,cap,rfl,fun j x hj=>⟨g,0,rfl,?_⟩⟩;have hjl:=(aC4.1 hj).1;have a3:w.ownsRow b 3 1 (.slice (some ⟨g,0,none⟩) l.length cap) l.length (ints l):=⟨h1,.inr ⟨g,cap,cur,rfl,hb,hg,hr⟩⟩;rw[aG1,a3.cellAt j (by omega),aD0,hj];rfl
theorem LW{W0 w1 w2:World}(hb:Bk w B N v1 v2 es is)(hJ:Below w.heap.size w W0)(aL:Below W0.heap.size W0 w1)(aG:Below w1.heap.size w1 w2)(hN:N<=2000000000000)(hn:is.length<=5500000000000)(v vm:Value)(A:List Nat)(hv:w1.ownsRow W0.heap.size 3 1 v A.length (ints A))(hm:EN w2 vm A)(hA:A.length<=20000):
 Calls Tryz.prog 26 #[.pointer (some ⟨B,0,none⟩),v,vm] w2 fun e w'=>e = .returned (.bool true)/\(∃ a9 a7,Bk w' B (N+1) v1 a9 es a7/\a7.length=is.length+4)/\Below B w2 w':=by
 have hs:=hJ.size;have a8:=hb.lt;exact PE (hb.below (chain (chain hJ aL) aG)) W0.heap.size v vm A (gQ hv aG) (by omega) (aD9 aL.size aG.size) (fun g hg=>by have:=(hb.own1.lt g hg).2;omega) (fun g hg=>by have:=(hb.own2.lt g hg).2;omega) (fun p hp g hg=>by have:=(hb.bl p hp g hg).2.1;omega) hm hA hN hn
theorem J9{p:Nat}(hT:oL w)(hb:Bk w B N v1 v2 es is)(hp:jB w p n s L)(hN:N<=2000000000000)(hn:is.length<=5500000000000)(h f l t x1 x2 y1 y2 z1 z2:Int)(q:ByteArray)(hq:q.size<=9223372036854775807):
 Calls Tryz.prog 8 #[.pointer (some ⟨B,0,none⟩),.pointer (some ⟨p,0,none⟩),.agg #[.int .i64 7,.int .i64 h,.int .i64 f,.int .i64 l,.int .i64 t,.int .i64 x1,.int .i64 x2,.int .i64 y1,.int .i64 y2,.int .i64 z1,.int .i64 z2,.string q]] w (tV B N es is w):=by
 obtain⟨W0,bS⟩:∃ W0,W0=w.alloc (.cells #[.int .i64 7,.int .i64 h,.int .i64 f,.int .i64 l,.int .i64 t,.int .i64 x1,.int .i64 x2,.int .i64 y1,.int .i64 y2,.int .i64 z1,.int .i64 z2,.string q] 42):=⟨_,rfl⟩;have hJ:Below w.heap.size w W0:=by rw[bS];exact aA _ _
 obtain⟨ga,gb,pa,pb,b7,vb,hgb⟩:=hp.below hJ;have b6:=b7.bd;have k2:W0.cell? ⟨w.heap.size,2,none⟩=some (.int .i64 f):=by rw[bS];exact aZ _ _ _ 2
 have k11:W0.cell? ⟨w.heap.size,11,none⟩=some (.string q):=by rw[bS];exact aZ _ _ _ 11
 have HO:Hid (∀ W,Below W0.heap.size W0 W->Calls Tryz.prog 24 #[.pointer (some ⟨ga,0,none⟩),.int .i64 f,.string q] W (yR (uW L) f q n s W)):=(fun W hW=>LD ga n s f q W ((hT.below hJ).below hW) (out_c (b7.below hW)) (XZ b7.ok b6.2.2.2.2) b6.2.1 b6.2.2.2.1 (b7.below hW).sz0 (b7.below hW).sz1:∀ W,_);have HR:Hid (∀ W,Below W0.heap.size W0 W->Calls Tryz.prog 25 #[.pointer (some ⟨gb,0,none⟩),.int .i64 f,.string q] W (yR (uW L) f q n s W)):=(fun W hW=>MN (hgb.below hW) f q b6.2.1 b6.2.2.2.1 b6.2.2.2.2 (fun e he=>by obtain⟨a,c,b,h1,h2,_,h4⟩:=IP b7.ok e he;exact⟨a,c,b,h1,h2,h4⟩) (TB L) hq:∀ W,_);have bW:Hid _:=hb;have HJ:Hid _:=hJ;have HNm:∀(q:Int) W,Hid (Calls Tryz.prog 17 #[.int .i64 q] W _):=fun q W=>nA q W;clear hb hp hJ b7 hgb hT;go_enter Tryz.func8,Tryz.ntmps8
 go_wp2_with fail
 rw[<-bS];have HW0:Hid _:=bS;clear bS;go_region_held3 (fun w'=>w'.cell? ⟨p,0,none⟩=some (.pointer (some ⟨ga,0,none⟩))/\w'.cell? ⟨w.heap.size,2,none⟩=some (.int .i64 f)/\w'.cell? ⟨w.heap.size,11,none⟩=some (.string q))
  (first | (refine⟨?_,?_,?_⟩ <;> assumption) | (go_keep;done))
  (first
   | (go_at_call 24;refine(HO.out _ ((YQ _ _).drew)).mono ?_;rintro r w1 ⟨z1',c1',A,rfl,hBo1,hO1,hC1⟩;have aL:=((YQ W0.heap.size W0).drew).trans hBo1;have j1:=cell_kept aL _ _ pa;have j2:=cell_kept aL _ _ k2;have j3:=cell_kept aL _ _ pb;have j11:=cell_kept aL _ _ k11))
 have cA:Hid (w1.ownsRow W0.heap.size 3 1 z1' A.length (ints A)/\yK (uW L) f q n s c1' A):=(⟨hO1,hC1⟩:_/\_);have cD:Hid _:=aL;clear hO1 aL hBo1 hC1 pa pb k2 k11 HO;go_wp2_with fail
 go_region_held3 (fun w'=>w'.cell? ⟨p,1,none⟩=some (.pointer (some ⟨gb,0,none⟩))/\w'.cell? ⟨w.heap.size,2,none⟩=some (.int .i64 f)/\w'.cell? ⟨w.heap.size,11,none⟩=some (.string q))
  (first | (refine⟨?_,?_,?_⟩ <;> assumption) | (go_keep;done))
  (first
   | (go_at_call 25;refine(HR.out _ (cD.out.drew)).mono ?_;rintro r w2 ⟨z2',c2',A2,rfl,hBo2,hO2,hC2⟩;have aG:=((YQ w1.heap.size w1).drew).trans hBo2;have i2:=cell_kept aG _ _ j2;have i3:=cell_kept aG _ _ j3;have i11:=cell_kept aG _ _ j11))
 obtain⟨hc2,hA2⟩:=XX cA.out.2 hC2;subst hc2 hA2;have hAl:=YO cA.out.2;have HT:Hid (Calls Tryz.prog 26 _ w2 _):=LW bW.out HJ.out cD.out aG hN hn z1' z2' _ cA.out.1 (ZU hO2) (by omega);have HB2:Hid _:=chain (chain HJ.out cD.out) aG;clear hO2 aG hC2 hBo2 i2 i3 i11 j1 j2 j3 j11 HR cA;go_wp2_with fail
 refine(aC0 HT.out ?_);rintro r w3 ⟨rfl,cC,hB3⟩;have cE:Hid _:=cC;have b9:Hid _:=(HB2.out.mono (aH2 bW.out.lt)).trans hB3;clear cC hB3 HT;go_wp2_with fail
 refine(aC0 (HNm _ _).out ?_);rintro r w4 ⟨rfl,hw⟩;rw[hw];clear hw w4;go_wp2_with fail
 refine(aC0 (HNm _ _).out ?_);rintro r w4 ⟨rfl,hw⟩;rw[hw];clear hw w4;go_wp2;go_ret;obtain⟨a9,a7,h1,h2⟩:=cE.out;exact⟨rfl,⟨N+1,v1,a9,es,a7,h1,by omega,by omega,by omega⟩,b9.out⟩
end Go.Proofs.YtphjbbbnbmafnaaGreatDoor.G
