/- Parts: RBits Byts PRead. -/
import Derived.Test.YtphjbbbnbmafnaaGreatDoorPText
import Derived.Test.YtphjbbbnbmafnaaGreatDoorOwnM
import Derived.Deep.RegionHeld
import Derived.Deep.MidRow
import Derived.Stop.BytesEq
import Derived.Laws.Cover3
set_option maxHeartbeats 8000000
set_option maxRecDepth 100000
namespace Go.Proofs.YtphjbbbnbmafnaaGreatDoor.G
open Go.RowKit
variable {w w2 wr:World} {v v':Value} {L M:List Bool}
theorem qA(l m:List Bool):txt l++txt m=txt (l++m):=by
 apply ByteArray.ext;simp[txt]
def BM(w wr:World)(v:Value)(L:List Bool):Prop:=vR wr w.heap.size 5 v (aX L)/\Below w.heap.size w wr
theorem BM.step(h:BM w wr v L)(ho:vR w2 w.heap.size 5 v' (aX L++aX M))(hg:wr.grownBy w2 v.ownBlock):BM w w2 v' (L++M) :=
 ⟨by rw[dF];exact ho,h.2.grown hg h.2.size (fun k hk=>h.1.lt k hk)⟩
theorem BM.step'{o:Obj}(h:BM w wr v L)(ho:vR w2 w.heap.size 5 v' (aX L++aX M))(hg:(wr.alloc o).grownBy w2 v.ownBlock):BM w w2 v' (L++M) :=
 ⟨by rw[dF];exact ho,(h.2.alloc h.2.size o).grown hg (by have:=h.2.size;simp;omega) (fun k hk=>h.1.lt k hk)⟩
theorem KY(w wr:World)(L:List Bool)(hB:Below w.heap.size w wr)(hl:L.length<=1000):
 ∃ v w2,(convert 9 113 (.string (txt L))).run Tryz.prog wr = .ok v w2/\BM w w2 v L:=by
 refine⟨_,_,run_bytes_of_string (P:=Tryz.prog) wr 9 113 5 (txt L) Tryz.underlying9 Tryz.underlying113 Tryz.underlying5,?_,(hB.drew).alloc hB.size _⟩;have cI:=grownCap_ge wr (txt L).size 0 5;have cN:=bE L;have cL:(bytesRow (txt L) (grownCap wr (txt L).size 0 5)).size=grownCap wr (txt L).size 0 5:=by
  unfold bytesRow;rw[Array.size_append,Array.size_map,Array.size_replicate,show(txt L).data.size=(txt L).size from rfl];omega
 refine⟨wr.heap.size,grownCap wr (txt L).size 0 5,_,_,by rw[bU,cN],hB.size,heap_alloc_new wr.drew _,fun j hj h => ?_,by rw[bU,<-cN];exact cI,grownCap_le_maxLen wr _ 0 _ (by rw[cN];unfold maxLen;omega),cL,?_⟩
 ·rw[cL]at h;simp only at h;omega
 ·unfold bytesRow;rw[Array.toList_append,aL5 (by simp[aX,txt]),aD2 (by simp[aX,txt])];have:=aBc L;unfold Lib.strCells at this;simpa using this
theorem GR(h:BM w wr v L):∃ g cap,v = .slice (some ⟨g,0,none⟩) L.length cap/\(convert 113 9 (.slice (some ⟨g,0,none⟩) L.length cap)).run Tryz.prog wr = .ok (.string (txt L)) wr:=by
 obtain⟨g,cap,cur,fz,rfl,_,hg,_,_,_,_,ht⟩:=h.1;rw[bU];refine⟨g,cap,rfl,?_⟩;have:=run_convert_bytes_back (P:=Tryz.prog) wr 113 9 5 ⟨g,0,none⟩ cap (L.map fun b=>if b then (49:UInt8)else 48) Tryz.underlying113 Tryz.underlying5 Tryz.underlying9 (fun j hj=>by
  have bX:j<L.length:=by simpa using hj
  refine qV hg ht j _ ?_;unfold aX;rw[aD0,A7 bX];simp only[aH9,List.getElem_map];cases L[j] <;> rfl)
 rw[aH6]at this;exact this
def lenV:Value->Nat
 | .slice _ n _=>n
 | _=>0
def NC(k:Nat):Nat:=(2016-k % 2016) % 2016
def UC(L:List Bool):List Bool:=L++List.replicate (NC L.length) false
theorem yY(L:List Bool):(UC L).length=2016*bK L.length:=by
 unfold UC NC bK;simp;omega
theorem QC(n s:Nat)(l:List E3)(v:Value)(w:World)(he:aI w v l)(hst:Gm.fO l)(hok:∀ e∈l,Gm.edgeOk n s e)(hn:1<=n)(hn2:n<=10000)(hs:1<=s)(hs2:s<=26)(hl:l.length<=20000):
 Calls Tryz.prog 54 #[.int .i64 (n:Int),.int .i64 (s:Int),v] w fun e w'=>e = .returned (.string (txt (UC (dG n s l))))/\Below w.heap.size w w':=by
 have h0:Gm.ah l 0=0:=Gm.ah_zero l (fun e h=>(hok e h).1);have b3:Gm.ah l n=l.length:=Gm.ah_all l n (fun e h=>(hok e h).2.1);have hw1:=mF (s-1) (by omega);have hw2:=mF (n-1) (by omega);have HOk:Hid _:=hok;have HR:Hid _:=Gm.SY hst;have HL:∀ u,Hid ((eF l u).length=Gm.ah l u+u):=fun u=>iK l h0 u;have HA:Hid _:=h0;have c8:Hid _:=b3;obtain⟨i0,hi,b0,b1,aL⟩:=info_parts Tryz.infoB;obtain⟨a0,cap,rfl,cH⟩:=he;have HE:Hid _:=cH;have HD1:∀ W,Hid (Calls Tryz.prog 61 #[.int .i64 (n:Int),.int .i64 14] W _):=fun W=>iP n 14 (by omega) (by decide) W;have HD2:∀ W,Hid (Calls Tryz.prog 61 #[.int .i64 (s:Int),.int .i64 5] W _):=fun W=>iP s 5 (by omega) (by decide) W;have HD3:∀ W,Hid (Calls Tryz.prog 61 #[.int .i64 (l.length:Int),.int .i64 15] W _):=fun W=>iP l.length 15 (by omega) (by decide) W;have z14:(txt (dD 14 n)).size=14:=by rw[bE,aU]
 have z5:(txt (dD 5 s)).size=5:=by rw[bE,aU]
 have z15:(txt (dD 15 l.length)).size=15:=by rw[bE,aU]
 have z19:(txt (dD 14 n)++txt (dD 5 s)).size=19:=by rw[qA,bE,WT,aU,aU]
 clear cH h0 b3 hst hok;go_enter Tryz.func54,Tryz.ntmps54
 go_wp2_with fail
 refine(aC0 (HD1 _).out ?_);rintro e w1 ⟨rfl,hB1⟩;have H1:Hid _:=hB1;clear hB1;go_wp2_with fail
 refine(aC0 (HD2 _).out ?_);rintro e w2 ⟨rfl,hB2⟩;have H2:Hid _:=chain H1.out hB2;clear hB2;go_wp2_with fail
 refine(aC0 (HD3 _).out ?_);rintro e w3 ⟨rfl,hB3⟩;have H3:Hid _:=chain H2.out hB3;clear hB3;obtain⟨vb,w4,b6,a6⟩:=KY w w3 (dD 14 n++dD 5 s++dD 15 l.length) H3.out (by simp[aU]);rw[<-qA,<-qA]at b6;have cC:Hid _:=a6;have hT0:(dD 14 n++dD 5 s++dD 15 l.length).length=34:=by simp[aU]
 have HG:Hid (dG n s l=dD 14 n++dD 5 s++dD 15 l.length++eF l n++nums (wid (s-1)) (aM l)++nums (wid (n-1)) (tos l)):=(rfl:dG n s l=_);generalize dD 14 n++dD 5 s++dD 15 l.length=T0 at cC a6 hT0 HG;clear a6;go_wp2;go_loopw [7,8,9] (fun sb sa su wr=>∃ u:Nat,u<=n/\su = .int .i64 (u:Int)/\sa = .int .i64 (Gm.ah l u:Int)/\Hid (BM w wr sb (T0++eF l u))) (fun _ _ su _=>n-(intOf su).toNat)
 case atStart=>exact⟨0,aC6 _,rfl,by rw[HA.out];rfl,by rw[show T0++eF l 0=T0 from aE4 T0];exact cC.out⟩
 case round =>
  obtain⟨u,hu,rfl,rfl,HI⟩:=hrel;obtain⟨vb1,rfl⟩:∃ vb1,vb1=u7:=⟨u7,rfl⟩;by_cases hlt:u<n
  ·have hm:=Gm.Y4 l (show u<=u+1 by omega);have hle:=Gm.ah_le l (u+1);have hsl:=(HL u).out;have HS:Hid (eF l (u+1)=eF l u++(List.replicate (Gm.ah l (u+1)-Gm.ah l u) true++[false])):=(rfl:eF l (u+1)=_);have bW:Hid (∀ i e,l[i]?=some e->Gm.ah l u<=i->(e.1=(u:Int)↔i<Gm.ah l (u+1))):=(fun i e hie hi=>by
    have h1:=Gm.ah_at l u i e HR.out hie;have h2:=Gm.ah_at l (u+1) i e HR.out hie;omega:∀ i e,l[i]?=some e->Gm.ah l u<=i->(e.1=(u:Int)↔i<Gm.ah l (u+1)))
   generalize ha:Gm.ah l u=a at hm hsl HS bW;generalize hb:Gm.ah l (u+1)=b at hm hle HS bW;have HBq:Hid _:=hb;clear ha hb;go_wp2;go_loopw [7,8] (fun sb sa wq=>∃ j:Nat,j<=b-a/\sa = .int .i64 ((a+j:Nat):Int)/\Hid (BM w wq sb (T0++eF l u++List.replicate j true))) (fun _ sa _=>b-(intOf sa).toNat)
   case atStart=>exact⟨0,aC6 _,rfl,by rw[show T0++eF l u++List.replicate 0 true=T0++eF l u by simp];exact HI.out⟩
   case round =>
    obtain⟨j,hj,rfl,HJ⟩:=hrel;obtain⟨vb2,rfl⟩:∃ vb2,vb2=u7:=⟨u7,rfl⟩;have a1:=HJ.out.1;have b5:=HJ.out.2.size;have a9:(aX (T0++eF l u++List.replicate j true)).length<=100000:=by rw[bU];simp;omega
    generalize hLJ:T0++eF l u++List.replicate j true=LJ at HJ a1 a9;have a7:Hid _:=hLJ;clear hLJ;by_cases hlt2:a+j<b
    ·obtain⟨x,hx⟩:∃ x,l[a+j]?=some x:=⟨_,A7 (by omega)⟩;obtain⟨g,off,rfl,c0,c1,c2⟩:=HE.out (a+j) x hx;have a2:=(bW.out (a+j) x hx (by omega)).2 hlt2;have d0:=cell_kept HJ.out.2 _ _ c0;rw[a2]at d0;have bX:((a+j:Nat):Int)<(l.length:Int):=by omega
     clear c0 c1 c2 hx a2;go_wp2_with (at_builtin;refine iL _ rfl _ _ 113 rfl w.heap.size 5 i0 Tryz.underlying113 hi b0 b1 aL _ _ rfl (a1.alloc _) ⟨wr.heap.size,0,none⟩ 1 1 (aX [true]) rfl rfl (aAu _ _ _) (by intro u hu;simp[aX]at hu;subst hu;rfl) (by unfold maxLen;omega) (by omega) (by simp;omega) ?_)
     intro v' w2 hown' hgrow;have a5:Hid (BM w w2 v' (T0++eF l u++List.replicate (j+1) true)):=(by
      rw[aL1,<-aD3,a7.out];exact BM.step' HJ.out hown' hgrow:BM _ _ _ _)
     clear hown' hgrow a1;go_wp2;go_roundw;case rel=>exact⟨j+1,by omega,by go_num,a5.out⟩
     case measure=>simp[intOf] <;> omega
    ·have b8:a+j=b:=by omega
     have HJB:Hid (a+j=b):=b8;have HS2:Hid (T0++eF l (u+1)=T0++eF l u++List.replicate j true++[false]):=(by
      rw[HS.out,show b-a=j by omega];simp:_=_)
     clear b8;by_cases hend:a+j<l.length
     ·obtain⟨x,hx⟩:∃ x,l[a+j]?=some x:=⟨_,A7 hend⟩;obtain⟨g,off,rfl,c0,c1,c2⟩:=HE.out (a+j) x hx;have a2:¬ x.1=(u:Int):=fun e=>hlt2 ((bW.out (a+j) x hx (by omega)).1 e);have hfb:(x.1 == (u:Int))=false:=by simpa using a2
      have d0:=cell_kept HJ.out.2 _ _ c0;have bX:((a+j:Nat):Int)<(l.length:Int):=by omega
      obtain⟨x1,x2,x3⟩:=x;simp only at d0 hfb a2;clear c0 c1 c2 hx;go_wp2_with (at_builtin;refine iL _ rfl _ _ 113 rfl w.heap.size 5 i0 Tryz.underlying113 hi b0 b1 aL _ _ rfl (a1.alloc _) ⟨wr.heap.size,0,none⟩ 1 1 (aX [false]) rfl rfl (aAu _ _ _) (by intro u hu;simp[aX]at hu;subst hu;rfl) (by unfold maxLen;omega) (by omega) (by simp;omega) ?_)
      intro v' w2 hown' hgrow;have a5:Hid (BM w w2 v' (T0++eF l (u+1))):=(by
       rw[HS2.out,a7.out];exact BM.step' HJ.out hown' hgrow:BM _ _ _ _)
      clear hown' hgrow a1;go_wp2;go_roundw;case rel=>exact⟨u+1,by omega,by go_num,by rw[HBq.out,<-HJB.out];go_num,a5.out⟩
      case measure=>simp[intOf] <;> omega
     ·have bX:¬((a+j:Nat):Int)<(l.length:Int):=by omega
      go_wp2_with (at_builtin;refine iL _ rfl _ _ 113 rfl w.heap.size 5 i0 Tryz.underlying113 hi b0 b1 aL _ _ rfl (a1.alloc _) ⟨wr.heap.size,0,none⟩ 1 1 (aX [false]) rfl rfl (aAu _ _ _) (by intro u hu;simp[aX]at hu;subst hu;rfl) (by unfold maxLen;omega) (by omega) (by simp;omega) ?_)
      intro v' w2 hown' hgrow;have a5:Hid (BM w w2 v' (T0++eF l (u+1))):=(by
       rw[HS2.out,a7.out];exact BM.step' HJ.out hown' hgrow:BM _ _ _ _)
      clear hown' hgrow a1;go_wp2;go_roundw;case rel=>exact⟨u+1,by omega,by go_num,by rw[HBq.out,<-HJB.out];go_num,a5.out⟩
      case measure=>simp[intOf] <;> omega
  ·obtain rfl:u=n:=by omega
   have hsl:=(HL u).out;rw[c8.out]at hsl;have H5:Hid _:=HI.out;have hT5:(T0++eF l u).length<=40000:=by rw[WT];omega
   generalize T0++eF l u=T5 at H5 hT5 HG;have cD:∀ W,Hid (Calls Tryz.prog 96 #[.int .i64 (s:Int)] W _):=fun W=>tQ s hs (by omega) W;have cE:∀ W,Hid (Calls Tryz.prog 96 #[.int .i64 (u:Int)] W _):=fun W=>tQ u hn (by omega) W;clear hsl HI HL cC;go_wp2_with fail
   refine(aC0 (cD _).out ?_);rintro e wx ⟨rfl,hw⟩;rw[hw];clear hw wx;go_wp2;go_loopw [7,11] (fun sb si wr=>∃ i:Nat,i<=l.length/\si = .int .i64 (i:Int)/\Hid (BM w wr sb (T5++nums (wid (s-1)) ((aM l).take i)))) (fun _ si _=>l.length-(intOf si).toNat)
   case atStart=>exact⟨0,aC6 _,rfl,by rw[show T5++nums (wid (s-1)) ((aM l).take 0)=T5 by simp[nums]];exact H5.out⟩
   case round =>
    obtain⟨i,hi1,rfl,HI⟩:=hrel;obtain⟨cQ,rfl⟩:∃ cQ,cQ=u7:=⟨u7,rfl⟩;by_cases hlt1:i<l.length
    ·obtain⟨x,hx⟩:∃ x,l[i]?=some x:=⟨_,A7 hlt1⟩;obtain⟨g,off,rfl,c0,c1,c2⟩:=HE.out i x hx;have d1:=cell_kept HI.out.2 _ _ c1;have aG:=HOk.out x (aC3 hx);have HN:Hid _:=mD (k:=wid (s-1)) (OM hx);have bS:=fM (wid (s-1)) (aM l) i;have a3:(aM l).length=l.length:=by simp[aM]
     rw[a3]at bS;have a4:wid (s-1)*l.length<=20*20000:=aJ9 hw1 hl;obtain⟨x1,x2,x3⟩:=x;obtain⟨y,hy⟩:∃ y:Nat,x2=(y:Int):=⟨x2.toNat,by have:=aG.2.2.1;simp only at this;omega⟩;subst hy;have hyl:y<26:=by have:=aG.2.2.2.1;simp only at this;omega
     simp only[aG3]at d1 HN;have hiI:(i:Int)<(l.length:Int):=by omega
     have cB:Hid (Calls Tryz.prog 61 _ wr _):=iP y (wid (s-1)) (by omega) (by omega) wr;have a9:(T5++nums (wid (s-1)) ((aM l).take i)).length<=500000:=by rw[WT];omega
     generalize hLJ:T5++nums (wid (s-1)) ((aM l).take i)=LJ at HI a9;have a7:Hid _:=hLJ;have b7:(txt (dD (wid (s-1)) y)).size=wid (s-1):=by rw[bE,aU]
     clear c0 c1 c2 hx aG hLJ a4 bS a3;go_wp2_with fail
     refine(aC0 cB.out ?_);rintro e wy ⟨rfl,hBy⟩;have a8:Hid (BM w wy cQ LJ):=⟨HI.out.1.below hBy,chain HI.out.2 hBy⟩;have a1:=a8.out.1;have b5:=a8.out.2.size;clear hBy;go_wp2_with (at_builtin;refine nR _ rfl _ _ 113 9 rfl w.heap.size 5 i0 Tryz.underlying113 Tryz.underlying9 hi b0 b1 aL _ _ rfl a1 (txt (dD (wid (s-1)) y)) rfl (by rw[bU,b7];unfold maxLen;omega) (by rw[bU,b7];omega) b5 ?_)
     intro v' w2 hown' hgrow;rw[aBc]at hown';have a5:Hid (BM w w2 v' (T5++nums (wid (s-1)) ((aM l).take (i+1)))):=(by
      rw[HN.out,<-aD3,a7.out];exact BM.step a8.out hown' hgrow:BM _ _ _ _)
     clear hown' hgrow a1;go_wp2;go_roundw;case rel=>exact⟨i+1,by omega,by go_num,a5.out⟩
     case measure=>simp[intOf] <;> omega
    ·obtain rfl:i=l.length:=by omega
     have hI:=HI.out;rw[aD2 (by simp[aM])]at hI;have H6:Hid _:=hI;have a3:(aM l).length=l.length:=by simp[aM]
     have a4:wid (s-1)*l.length<=20*20000:=aJ9 hw1 hl;have hT6:(T5++nums (wid (s-1)) (aM l)).length<=500000:=by rw[WT,jP,a3];omega
     clear hI HI H5 a3 a4;generalize T5++nums (wid (s-1)) (aM l)=T6 at H6 hT6 HG;go_wp2_with fail
     refine(aC0 (cE _).out ?_);rintro e wx ⟨rfl,hw⟩;rw[hw];clear hw wx;go_wp2;go_loopw [7,12] (fun sb si wr=>∃ i:Nat,i<=l.length/\si = .int .i64 (i:Int)/\Hid (BM w wr sb (T6++nums (wid (u-1)) ((tos l).take i)))) (fun _ si _=>l.length-(intOf si).toNat)
     case atStart=>exact⟨0,aC6 _,rfl,by rw[show T6++nums (wid (u-1)) ((tos l).take 0)=T6 by simp[nums]];exact H6.out⟩
     case round =>
      obtain⟨i,hi1,rfl,HI⟩:=hrel;obtain⟨cR,rfl⟩:∃ cR,cR=u7:=⟨u7,rfl⟩;by_cases hlt1:i<l.length
      ·obtain⟨x,hx⟩:∃ x,l[i]?=some x:=⟨_,A7 hlt1⟩;obtain⟨g,off,rfl,c0,c1,c2⟩:=HE.out i x hx;have d2:=cell_kept HI.out.2 _ _ c2;have aG:=HOk.out x (aC3 hx);have HN:Hid _:=mD (k:=wid (u-1)) (WP hx);have bS:=fM (wid (u-1)) (tos l) i;have a3:(tos l).length=l.length:=by simp[tos]
       rw[a3]at bS;have a4:wid (u-1)*l.length<=20*20000:=aJ9 hw2 hl;obtain⟨x1,x2,x3⟩:=x;obtain⟨y,hy⟩:∃ y:Nat,x3=(y:Int):=⟨x3.toNat,by have:=aG.2.2.2.2.1;simp only at this;omega⟩;subst hy;have hyl:y<10000:=by have:=aG.2.2.2.2.2;simp only at this;omega
       simp only[aG3]at d2 HN;have hiI:(i:Int)<(l.length:Int):=by omega
       have cB:Hid (Calls Tryz.prog 61 _ wr _):=iP y (wid (u-1)) (by omega) (by omega) wr;have a9:(T6++nums (wid (u-1)) ((tos l).take i)).length<=1000000:=by rw[WT];omega
       generalize hLJ:T6++nums (wid (u-1)) ((tos l).take i)=LJ at HI a9;have a7:Hid _:=hLJ;have b7:(txt (dD (wid (u-1)) y)).size=wid (u-1):=by rw[bE,aU]
       clear c0 c1 c2 hx aG hLJ a4 bS a3;go_wp2_with fail
       refine(aC0 cB.out ?_);rintro e wy ⟨rfl,hBy⟩;have a8:Hid (BM w wy cR LJ):=⟨HI.out.1.below hBy,chain HI.out.2 hBy⟩;have a1:=a8.out.1;have b5:=a8.out.2.size;clear hBy;go_wp2_with (at_builtin;refine nR _ rfl _ _ 113 9 rfl w.heap.size 5 i0 Tryz.underlying113 Tryz.underlying9 hi b0 b1 aL _ _ rfl a1 (txt (dD (wid (u-1)) y)) rfl (by rw[bU,b7];unfold maxLen;omega) (by rw[bU,b7];omega) b5 ?_)
       intro v' w2 hown' hgrow;rw[aBc]at hown';have a5:Hid (BM w w2 v' (T6++nums (wid (u-1)) ((tos l).take (i+1)))):=(by
        rw[HN.out,<-aD3,a7.out];exact BM.step a8.out hown' hgrow:BM _ _ _ _)
       clear hown' hgrow a1;go_wp2;go_roundw;case rel=>exact⟨i+1,by omega,by go_num,a5.out⟩
       case measure=>simp[intOf] <;> omega
      ·obtain rfl:i=l.length:=by omega
       have hI:=HI.out;rw[aD2 (by simp[tos]),<-HG.out]at hI;have H7:Hid _:=hI;have a3:(tos l).length=l.length:=by simp[tos]
       have a4:wid (u-1)*l.length<=20*20000:=aJ9 hw2 hl;have hT7:(dG u s l).length<=1000000:=by rw[HG.out,WT,jP,a3];omega
       clear hI HI H6 a3 a4;generalize hTe:dG u s l=T7 at H7 hT7 HG;have HTe:Hid _:=hTe;clear HG hTe;go_wp2;go_loopw [7] (fun sb wr=>∃ j:Nat,j<=NC T7.length/\Hid (BM w wr sb (T7++List.replicate j false))) (fun sb _=>NC (lenV sb))
       case atStart=>exact⟨0,aC6 _,by rw[List.replicate_zero,aE4];exact H7.out⟩
       case round =>
        obtain⟨j,hj,HJ⟩:=hrel;have a6:=HJ.out;obtain⟨g7,cap7,hv7,aE⟩:=GR a6;have a3:(T7++List.replicate j false).length=T7.length+j:=by simp
        rw[a3]at hv7 aE;subst hv7;have hpl:NC T7.length<2016:=Nat.mod_lt _ (by decide);by_cases hlt1:j<NC T7.length
        ·have hnz:((T7.length+j:Nat):Int) % 2016≠0:=by unfold NC at hlt1;omega
         have hnz2:(((T7.length+j:Nat):Int) % 2016 != 0)=true:=by simpa using hnz
         have cM:((T7.length+j:Nat):Int).tmod 2016=((T7.length+j:Nat):Int) % 2016:=Int.tmod_eq_emod_of_nonneg (by omega);have a1:=a6.1;have b5:=a6.2.size;have a9:(aX (T7++List.replicate j false)).length<=2000000:=by rw[bU,a3];omega
         generalize hLJ:T7++List.replicate j false=LJ at HJ a1 a9;have a7:Hid _:=hLJ;have HM:Hid (NC (T7.length+(j+1))<NC (T7.length+j)):=(by unfold NC at hlt1 ⊢;omega:_<_);clear a6 aE a3 hLJ hnz;go_wp2_with (at_builtin;refine iL _ rfl _ _ 113 rfl w.heap.size 5 i0 Tryz.underlying113 hi b0 b1 aL _ _ rfl (a1.alloc _) ⟨wr.heap.size,0,none⟩ 1 1 (aX [false]) rfl rfl (aAu _ _ _) (by intro u hu;simp[aX]at hu;subst hu;rfl) (by unfold maxLen;omega) (by omega) (by simp;omega) ?_)
         intro v' w2 hown' hgrow;have cF:BM w w2 v' (T7++List.replicate (j+1) false):=by
          rw[aL1,<-aD3,a7.out];exact BM.step' HJ.out hown' hgrow
         obtain⟨g8,cap8,cP,_⟩:=GR cF;have a5:Hid _:=cF;rw[show(T7++List.replicate (j+1) false).length=T7.length+(j+1) by simp]at cP;have HV8:Hid _:=cP;clear hown' hgrow a1 cF cP;go_wp2;go_roundw;case rel=>exact⟨j+1,by omega,a5.out⟩
         case measure=>rw[HV8.out];exact HM.out
        ·have cJ:j=NC T7.length:=by omega
         have hz:((T7.length+j:Nat):Int) % 2016=0:=by rw[cJ];unfold NC;omega
         have aL:(((T7.length+j:Nat):Int) % 2016 != 0)=false:=by simpa using hz
         have cM:((T7.length+j:Nat):Int).tmod 2016=((T7.length+j:Nat):Int) % 2016:=Int.tmod_eq_emod_of_nonneg (by omega);have HF:Hid (T7++List.replicate j false=UC T7):=(by rw[cJ];rfl:_=_);have HBf:Hid _:=a6.2;rw[HF.out]at aE;clear a6 cJ;go_wp2;go_ret;exact⟨R7 (by rw[HTe.out];rfl),HBf.out⟩
def byt(s:ByteArray)(a n:Nat):List Nat:=(List.range n).map fun i=>(s.data.toList.getD (a+i) 0).toNat
theorem fA(s:ByteArray)(a n:Nat):(byt s a n).length=n:=by simp[byt]
theorem xL(s:ByteArray)(a n x:Nat)(h:x∈byt s a n):x<256:=by
 unfold byt at h;obtain⟨i,_,rfl⟩:=List.mem_map.1 h;exact UInt8.toNat_lt _
theorem aAX(s:ByteArray)(a n i:Nat)(h:i<n):(byt s a n)[i]?=some (s.data.toList.getD (a+i) 0).toNat:=by
 unfold byt;rw[aD0,aI7 h];rfl
def eT(s:ByteArray)(p:Nat):Prop:=byt s (256*p+252) 4=Crc.be4 (Crc.sumOf p (byt s (256*p) 252))
def bH(s:ByteArray):Nat->List Bool
 | 0=>[]
 | k+1=>bH s k++nums 8 (byt s (256*k) 252)
theorem kH(s:ByteArray)(k:Nat):(bH s k).length=2016*k:=by
 induction k with
 | zero=>rfl
 | succ k ih=>show(bH s k++_).length=_;rw[WT,ih,jP,fA];omega
def kQ(s:ByteArray):Prop:=s.size≠0/\s.size % 256=0/\s.size<=256000
theorem KO(s:ByteArray)(w:World)(hs:¬(s.size≠0/\s.size % 256=0/\s.size<=256000))(hb:s.size<=9223372036854775807):
 Calls Tryz.prog 56 #[.string s] w fun e w'=>e = .returned (.tuple #[.string ⟨#[]⟩,.int .i64 3])/\w'=w:=by
 by_cases h0:s.size=0
 ·have h0I:((s.size:Int) == 0)=true:=by simpa using(by omega:(s.size:Int)=0)
  clear hs;go_enter Tryz.func56,Tryz.ntmps56
  go_wp2;go_ret2;exact⟨rfl,rfl⟩
 ·have h0I:((s.size:Int) == 0)=false:=by simpa using(by omega:¬(s.size:Int)=0)
  have cM:(s.size:Int).tmod 256=(s.size:Int) % 256:=Int.tmod_eq_emod_of_nonneg (by omega);by_cases h1:s.size % 256=0
  ·have h1I:((s.size:Int) % 256 != 0)=false:=by simpa using(by omega:(s.size:Int) % 256=0)
   have h2:(s.size:Int)>256000:=by
    rcases aG5 256000 s.size with h | h
    ·omega
    ·exact absurd ⟨h0,h1,h⟩ hs
   clear hs;go_enter Tryz.func56,Tryz.ntmps56
   go_wp2;go_ret2;exact⟨rfl,rfl⟩
  ·have h1I:((s.size:Int) % 256 != 0)=true:=by simpa using(by omega:¬(s.size:Int) % 256=0)
   clear hs;go_enter Tryz.func56,Tryz.ntmps56
   go_wp2;go_ret2;exact⟨rfl,rfl⟩
theorem GK(s:ByteArray)(cap:Nat)(fz:Nat×Nat)(W:World)(g:Nat)(hW:W.heap[g]?=some (.cells (bytesRow s cap) 5 fz))(a n:Nat)(h:a+n<=s.size):W.rangeAt g a (valsB (byt s a n)):=by
 intro j v hv;have hj:j<n:=by
  have:=(aC4.1 hv).1;simpa[valsB,fA]using this
 unfold valsB at hv;rw[aD0,aAX s a n j hj]at hv;simp only[aH9,aC5]at hv;subst hv;rw[cell_of_row W g (a+j) _ _ _ hW];unfold bytesRow;have cL:s.data.size=s.size:=rfl;rw[Array.getElem?_append_left (by simp;omega),Array.getElem?_map,aE2 (by omega)];simp only[aH9];congr 2;rw[aC1,aK5,aE2 (by omega)];rfl
theorem uZ(l:List Nat)(h:∀ x∈l,x<256):valsB l=(l.map UInt8.ofNat).map Extern.Stop.cell:=by
 unfold valsB;rw[List.map_map];refine aF2 (fun x hx => ?_);have:=h x hx;have e:(UInt8.ofNat x).toNat=x:=by simp;omega
 simp only[Function.comp,Extern.Stop.cell];rw[e];rfl
theorem wK:∀(l m:List Nat),(∀ x∈l,x<256)->(∀ x∈m,x<256)->l.map UInt8.ofNat=m.map UInt8.ofNat->l=m
 | [],[],_,_,_=>rfl
 | [],_::_,_,_,h=>by simp at h
 | _::_,[],_,_,h=>by simp at h
 | a::l,b::m,h1,h2,h=>by
  simp only[aJ4,aK0]at h;have ha:=h1 a (by simp);have hb:=h2 b (by simp);have e:=congrArg UInt8.toNat h.1;have ea:(UInt8.ofNat a).toNat=a:=by simp;omega
  have eb:(UInt8.ofNat b).toNat=b:=by simp;omega
  rw[ea,eb]at e;rw[e,wK l m (fun x hx=>h1 x (by simp[hx])) (fun x hx=>h2 x (by simp[hx])) h.2]
theorem aAC(l m:List Nat)(hl:l.length=256)(hm:m.length=256)(h1:∀ x∈l,x<256)(h2:∀ x∈m,x<256)(w:World):
 (Op.equalIn 10000 173 (.agg (valsB l).toArray) (.agg (valsB m).toArray)).run Tryz.prog w = .ok (decide (l=m)) w:=by
 rw[uZ l h1,uZ m h2,run_equalIn_bytes w 9998 173 5 256 Tryz.underlying173 Tryz.underlying5 (fun w=>by kernel_rfl) _ _ (by simpa using hl) (by simpa using hm)];have e:((l.map UInt8.ofNat) == (m.map UInt8.ofNat))=decide (l=m):=by
  by_cases h:l=m
  ·subst h;simp
  ·rw[decide_eq_false h];exact beq_eq_false_iff_ne.2 (fun e=>h (wK l m h1 h2 e))
 rw[e]
theorem vZ(s:ByteArray)(a n m:Nat):byt s a (n+m)=byt s a n++byt s (a+n) m:=by
 unfold byt;rw[List.range_add,aJ3,List.map_map];congr 1;refine aF2 (fun i _ => ?_);simp only[Function.comp];rw[Nat.add_assoc]
set_option linter.unusedSimpArgs false in
theorem RB(s:ByteArray)(w:World)(n:Nat)(hn:s.size=256*n)(hn0:n≠0)(hn1:n<=1000):
 Calls Tryz.prog 56 #[.string s] w fun e w'=>((∃ p<n,¬ eT s p)/\e = .returned (.tuple #[.string ⟨#[]⟩,.int .i64 4])\/(∀ p<n,eT s p)/\e = .returned (.tuple #[.string (txt (bH s n)),.int .i64 0]))/\Below w.heap.size w w':=by
 have h0I:((s.size:Int) == 0)=false:=by simpa using(by omega:¬(s.size:Int)=0)
 have cM:(s.size:Int).tmod 256=0:=by rw[Int.tmod_eq_emod_of_nonneg (by omega)];omega
 have htm2:(s.size:Int) % 256=0:=by omega
 have h2I:¬(s.size:Int)>256000:=by omega
 have htd:(s.size:Int).tdiv 256=(n:Int):=by rw[Int.tdiv_eq_ediv_of_nonneg (by omega)];omega
 have cH:(s.size:Int) / 256=(n:Int):=by omega
 have b6:=run_bytes_of_string (P:=Tryz.prog) w 9 113 5 s Tryz.underlying9 Tryz.underlying113 Tryz.underlying5;have cI:=grownCap_ge w s.size 0 5;generalize hcap:grownCap w s.size 0 5=cap at b6 cI;clear hcap;generalize hfz:((bytesRow s cap).size,(bytesRow s cap).size+1)=fz at b6;clear hfz;have hcv2:=b6;have HN:Hid _:=hn;clear hn;go_enter Tryz.func56,Tryz.ntmps56
 go_wp2;go_loopw [28] (fun si wr=>∃ i:Nat,i<=n/\si = .int .i64 (i:Int)/\Hid (Bu (w.heap.size+1) (w.heap.size+1) (aX (bH s i)) wr/\wr.heap[w.heap.size]?=some (.cells (bytesRow s cap) 5 fz)/\Below w.heap.size w wr/\∀ p<i,eT s p)) (fun si _=>n-(intOf si).toNat)
 case atStart =>
  refine⟨0,aC6 _,rfl,?_,?_,?_,?_⟩
  ·exact(by simpa using Lib.IsBuilderF.of (Lib.fresh_isBuilder 171 5 (w.alloc (.cells (bytesRow s cap) 5 fz))):Bu (w.heap.size+1) (w.heap.size+1) [] ((w.alloc (.cells (bytesRow s cap) 5 fz)).alloc (.cells #[.pointer none,.slice none 0 0] 171)))
  ·have h:((w.alloc (.cells (bytesRow s cap) 5 fz)).alloc (.cells #[.pointer none,.slice none 0 0] 171)).heap[w.heap.size]?=some (.cells (bytesRow s cap) 5 fz):=by
    rw[dI (by simp)];exact heap_alloc_new _ _
   exact h
  ·exact(jJ _ _ _).drew
  ·intro p hp;omega
 case round =>
  obtain⟨i,hi,rfl,HI⟩:=hrel;by_cases hlt:i<n
  ·have h1:(i:Int)*256<=(s.size:Int):=by have:=HN.out;omega
   have h2:(i:Int)*256+256<=(s.size:Int):=by have:=HN.out;omega
   have cG:=run_arrayAt (P:=Tryz.prog) (w:=wr) 173 5 256 (some ⟨w.heap.size,i*256,none⟩) (s.size-i*256) (cap-i*256) Tryz.underlying173 (by have:=HN.out;omega);have hv:=pM (byt s (i*256) 256);rw[fA]at hv;have HR:Hid (wr.rangeAt w.heap.size (i*256) (valsB (byt s (i*256) 256))):=GK s cap fz wr w.heap.size HI.out.2.1 (i*256) 256 (by have:=HN.out;omega);have cA:Hid (byt s (i*256) 256=byt s (i*256) 252++byt s (i*256+252) 4):=vZ s (i*256) 252 4;have c7:=pM (byt s (i*256) 252);rw[fA]at c7;go_wp2_with fail
   refine wp_load_mid 173 _ rfl w.heap.size (i*256) rfl _ _ HR.out Tryz.underlying173 rfl (by rw[Tryz.infoPage,hv]) ?_;go_wp2_with fail
   rw[lQ (wr.alloc (.cells Tryz.zeroCells173 173)) wr.heap.size _ (valsB (byt s (i*256) 256)) 173 (heap_alloc_new _ _) (by rw[Tryz.zeroCells173_size];exact hv) (iA _),World.setRow_alloc_new];have b4:=run_arrayAt (P:=Tryz.prog) (w:=wr.alloc (.cells (valsB (byt s (i*256) 256)).toArray 173)) 176 5 252 (some ⟨wr.heap.size,0,none⟩) 256 256 Tryz.underlying176 (by decide);clear cG;have HP:Hid (∀ W:World,W.heap[wr.heap.size]?=some (.cells (valsB (byt s (i*256) 256)).toArray 173 (0,0))->W.rangeAt wr.heap.size 0 (valsB (byt s (i*256) 256))/\W.rangeAt wr.heap.size 0 (valsB (byt s (i*256) 252))):=(by
    intro W hW;refine⟨fun j v hv => ?_,fun j v hv => ?_⟩
    ·rw[cell_of_row W _ _ _ _ _ hW,aG1];simpa using hv
    ·rw[cell_of_row W _ _ _ _ _ hW,aG1,cA.out,fG];have hj:j<(valsB (byt s (i*256) 252)).length:=(aC4.1 hv).1;rw[List.getElem?_toArray,aD4 hj];exact hv:∀ W:World,_->_)
   go_wp2_with fail
   refine wp_load_mid 176 _ rfl wr.heap.size 0 rfl _ _ (HP.out _ (heap_alloc_new _ _)).2 Tryz.underlying176 rfl (by rw[Tryz.infoBody,c7]) ?_;go_wp2_with fail
   rw[lQ _ (wr.heap.size+1) _ (valsB (byt s (i*256) 252)) 176 (heap_alloc2_new _ _ _) (by rw[Tryz.zeroCells176_size];exact c7) (iA _)];obtain⟨W,hW⟩:∃ W,W=((wr.alloc (.cells (valsB (byt s (i*256) 256)).toArray 173)).alloc (.cells Tryz.zeroCells176 176)).setRow (wr.heap.size+1) (valsB (byt s (i*256) 252)).toArray:=⟨_,rfl⟩;rw[<-hW];have HBW:Hid (Below wr.heap.size wr W):=(by rw[hW];exact below_setRow (jJ _ _ _) (by omega) _:Below wr.heap.size wr W);have hr1:W.rangeAt wr.heap.size 0 (valsB (byt s (i*256) 256)):=(HP.out _ (by rw[hW,setRow_other _ _ _ _ (by omega),dI (by simp)];exact heap_alloc_new _ _)).1;have hb2:W.heap[wr.heap.size+1]?=some (.cells (valsB (byt s (i*256) 252)).toArray 176 (0,0)):=by rw[hW];exact setRow_heap _ _ _ _ _ _ (heap_alloc2_new _ _ _)
   have hr2:W.rangeAt (wr.heap.size+1) 0 (valsB (byt s (i*256) 252)):=fun j v hv=>by
    rw[cell_of_row W _ _ _ _ _ hb2,aG1];simpa using hv
   have hWs:W.heap.size=wr.heap.size+2:=by rw[hW];simp
   clear hW b4 HR HP;have HSe:∀ W',Hid (Calls Tryz.prog 84 _ W' _):=fun W'=>xH i (byt s (i*256) 252) (by omega) (fA _ _ _) (fun x hx=>xL _ _ _ x hx) W';have b9:(byt s (i*256) 252++Crc.be4 (Crc.sumOf i (byt s (i*256) 252))).length=256:=by rw[WT,fA];simp[Crc.be4]
   have hq:∀ w',(Op.equalIn 10000 173 (.agg (valsB (byt s (i*256) 256)).toArray) (.agg (valsB (byt s (i*256) 252++Crc.be4 (Crc.sumOf i (byt s (i*256) 252)))).toArray)).run Tryz.prog w' = .ok (decide (byt s (i*256) 256=byt s (i*256) 252++Crc.be4 (Crc.sumOf i (byt s (i*256) 252)))) w':=fun w'=>aAC _ _ (fA _ _ _) b9 (fun x hx=>xL _ _ _ x hx) (fun x hx=>by
    rcases aC9.1 hx with h | h
    ·exact xL _ _ _ x h
    ·simp only[Crc.be4,aF5,List.not_mem_nil,or_false]at h;omega) w'
   have hgu:Tryz.prog.eqGuardType Tryz.prog.depth 173=false:=by kernel_rfl
   have hu1:=Tryz.underlying173;have hu2:=Tryz.underlying176;have hi1:(Tryz.prog.info? 173).map (·.size)=some (valsB (byt s (i*256) 256)).length:=by rw[Tryz.infoPage,hv]
   have hi2:(Tryz.prog.info? 176).map (·.size)=some (valsB (byt s (i*256) 252)).length:=by rw[Tryz.infoBody,c7]
   generalize hPg:byt s (i*256) 256=Pg at *;generalize hCt:byt s (i*256) 252=Ct at *;go_wp2_with fail
   refine wp_region_held_drew (S:=fun w'=>w'.rangeAt wr.heap.size 0 (valsB Pg)∧w'.rangeAt (wr.heap.size+1) 0 (valsB Ct)) (by kernel_rfl) ⟨(World.rangeAt_drew _ _ _ _).2 hr1,(World.rangeAt_drew _ _ _ _).2 hr2⟩ (fun hHeld => ?_);refine wpAnyH_take (i:=0) rfl (by kernel_rfl) (by kernel_rfl) (by kernel_rfl) (fun _ _ _ h=>h) (yieldsIf_load_mid (by rfl) 173 _ rfl wr.heap.size 0 rfl (valsB Pg) _ (fun _ h=>h.1) hu1 rfl hi1) hHeld ?_;simp only[Act.put,List.setIfInBounds_toArray,List.set_cons_zero,List.set_cons_succ];refine wpAnyH_take (i:=1) (v:=.int .i64 (i:Int)) rfl (by kernel_rfl) (by kernel_rfl) (by kernel_rfl) (fun _ _ _ h=>h) (Or.inl ⟨by rfl,fun w _=>by go_simp⟩) hHeld ?_;simp only[Act.put,List.setIfInBounds_toArray,List.set_cons_zero,List.set_cons_succ];refine wpAnyH_take (i:=2) rfl (by kernel_rfl) (by kernel_rfl) (by kernel_rfl) (fun _ _ _ h=>h) (yieldsIf_load_mid (by rfl) 176 _ rfl (wr.heap.size+1) 0 rfl (valsB Ct) _ (fun _ h=>h.2) hu2 rfl hi2) hHeld ?_;simp only[Act.put,List.setIfInBounds_toArray,List.set_cons_zero,List.set_cons_succ];refine wpAnyH_ready (rs:=[3]) (by kernel_rfl) (by simp) ?_;refine AllReadyH.cons rfl (fun K hK => ?_) AllReadyH.nil;go_simp;refine(Calls.mono (HSe _).out ?_);rintro e w1 ⟨rfl,hB1⟩;refine hK.out _ _ ⟨fun j v hv=>cell_kept hB1 _ _ (by rw[World.cell?_drew];exact hr1 j v hv),fun j v hv=>cell_kept hB1 _ _ (by rw[World.cell?_drew];exact hr2 j v hv)⟩ (fun hHeld2 => ?_);clear hK K;generalize hsl:Ct++Crc.be4 (Crc.sumOf i Ct)=Sl at *;generalize hd:decide (Pg=Sl)=d at *;refine wpAnyH_take (i := 4) (oi := { dst := some 44, op := .binOp .neq 173 (.tmp 40) (.tmp 43) 173, type := 4, pos := "pages.go:45", after := #[{ on := 0, ground := .data }, { on := 3, ground := .data }], guard := none }) (v := .bool (!d)) rfl (by kernel_rfl) (by kernel_rfl) (by kernel_rfl) (fun _ _ _ h => h) (Or.inl ⟨by rfl, fun w _ => by go_simp⟩) hHeld2 ?_;dsimp only[Act.put];simp only[List.setIfInBounds_toArray,List.set_cons_zero,List.set_cons_succ];refine wpAnyH_done (by kernel_rfl) ?_ _;have HD:Hid _:=hd;have HSl:Hid _:=hsl;have HPg:Hid _:=hPg;have HCt:Hid _:=hCt;have HB1:Hid _:=hB1;have HH2:Hid _:=hHeld2;clear hd hsl hPg hCt hB1 hHeld2 hHeld hq hr1 hr2 hb2 HSe;cases d
   ·have HX:Hid ((∃ p<n,¬ eT s p)/\Below w.heap.size w w1):=(by
     refine⟨⟨i,hlt,fun hp => ?_⟩,HI.out.2.2.1.trans ((HBW.out.trans ((YQ _ _).drew.trans (HB1.out.mono (by simp;omega)))).mono HI.out.2.2.1.size)⟩;have h:=HD.out;rw[decide_eq_false_iff_not]at h;refine h ?_;rw[cA.out,<-HSl.out];unfold eT at hp;rw[Nat.mul_comm 256 i]at hp;rw[hp,HCt.out]:_/\_)
    go_wp2;go_ret2;exact⟨.inl ⟨HX.out.1,rfl⟩,HX.out.2⟩
   ·have HY:Hid (eT s i):=(by
     have h:=of_decide_eq_true HD.out;rw[cA.out,<-HSl.out]at h;unfold eT;rw[Nat.mul_comm 256 i,HCt.out];exact List.append_cancel_left h:eT s i)
    have b2:Below wr.heap.size wr w1:=HBW.out.trans ((YQ _ _).drew.trans (HB1.out.mono (by simp;omega)));have hbb:=JO HI.out.1;have hU:=KZ Ct (by rw[<-HCt.out,fA]) (fun x hx=>xL _ _ _ x (by rw[HCt.out];exact hx)) (w.heap.size+1) (w.heap.size+1) (bH s i) w1 (nD HI.out.1 b2) (by have:=b2.size;omega) (by rw[kH];omega);have HU:Hid (Calls Tryz.prog 98 _ w1 _):=hU;clear hU;go_wp2_with fail
    refine wp_load_mid 176 _ rfl (wr.heap.size+1) 0 rfl _ _ HH2.out.2 hu2 rfl hi2 ?_;go_wp2_with fail
    refine(aC0 HU.out ?_);rintro e w2 ⟨rfl,hb9,hl9⟩;have HI2:Hid (Bu (w.heap.size+1) (w.heap.size+1) (aX (bH s (i+1))) w2/\w2.heap[w.heap.size]?=some (.cells (bytesRow s cap) 5 fz)/\Below w.heap.size w w2/\∀ p<i+1,eT s p):=(by
     refine⟨?_,?_,HI.out.2.2.1.trans ((b2.mono HI.out.2.2.1.size).trans (hl9.mono (by omega))),fun p hp => ?_⟩
     ·show Bu _ _ (aX (bH s i++nums 8 (byt s (256*i) 252))) w2;rw[Nat.mul_comm 256 i,HCt.out];exact hb9
     ·rw[hl9.block _ (by omega),b2.block _ (by omega)];exact HI.out.2.1
     ·rcases Nat.lt_succ_iff_lt_or_eq.1 hp with h | h
      ·exact HI.out.2.2.2 p h
      ·rw[h];exact HY.out:_/\_)
    clear hb9 hl9 b2;go_wp2;go_roundw;case rel=>exact⟨i+1,by omega,by go_num,HI2.out⟩
    case measure=>simp[intOf];omega
  ·obtain rfl:i=n:=by omega
   have hv:=lC (bH s i);have hI:=HI.out.1;rw[hv]at hI;have HSt:Hid (Calls Tryz.prog 87 _ wr _):=Tryz.Builder_String_any_k (w.heap.size+1) (w.heap.size+1) _ wr hI (by have:=JO HI.out.1;omega);clear hv hI;go_wp2_with fail
   refine(aC0 HSt.out ?_);rintro e w3 ⟨rfl,hb3,hl3,ho3⟩;have HE:Hid (Below w.heap.size w w3):=HI.out.2.2.1.trans (hl3.mono (by omega));clear hb3 hl3 ho3;go_wp2;go_ret2;exact⟨.inr ⟨HI.out.2.2.2,rfl⟩,HE.out⟩
end Go.Proofs.YtphjbbbnbmafnaaGreatDoor.G
