/- Parts: Ask8 Least8. -/
import Derived.Test.YtphjbbbnbmafnaaGreatDoorAsk16
set_option maxHeartbeats 8000000
namespace Go.Proofs.YtphjbbbnbmafnaaGreatDoor.S8
open Go.RowKit
variable {w:World} {b c d g x:Nat} {l:List Nat}
theorem jA(c d:Nat)(hc:c<2 ^ 8)(hd:d<8):(bits .and .u8 (c:Int) (kN 8 d) != 0)=c.testBit (8-1-d):=by
 unfold kN;rw[u8_and_nat c _ hc (aH7 (by decide) (show 8-1-d<8 by omega))];exact WX c _
theorem dC(hs:bB 8 w b g l)(d:Nat)(hd:d<8):
 Calls Tryz.prog 153 #[.pointer (some ⟨b,0,none⟩),.int .i64 (d:Int)] w fun e w'=>e = .returned (.int .u8 (kN 8 d))/\w'=w:=by
 have h1:=hs.levels;go_enter Tryz.func153,Tryz.ntmps153
 go_wp2;go_ret;refine⟨iN ?_,rfl⟩;have hp:2 ^ (8-1-d)<2 ^ 8:=aH7 (by decide) (by omega);unfold kN;rw[<-gD];try rw[IntKind.wrap_u8]
 simp only[Nat.reducePow,Nat.reduceSub]at hp ⊢;generalize 2 ^ _=m at *;omega
theorem fK{t:Nat}(o:Bool)(ho:o=c.testBit (8-1-d)):down (fU (lev 8 l d) (8-1-d)) l.length o (led 8 l c d t)=led 8 l c (d+1) t:=by
 rw[ho];rfl
theorem kZ{X:Nat}{y:Nat}{o:Bool}(ho:o=c.testBit (8-1-d))
 (h:oP w X (.int .i64 (down (fU (lev 8 l d) (8-1-d)) l.length o (led 8 l c d x):Int)) (.int .i64 (down (fU (lev 8 l d) (8-1-d)) l.length o (led 8 l c d y):Int))) :
 oP w X (.int .i64 (led 8 l c (d+1) x:Int)) (.int .i64 (led 8 l c (d+1) y:Int)):=by
 rw[fK o ho,fK o ho]at h;exact h
theorem gH(hs:bB 8 w b g l)(c:Nat)(hc:c<2 ^ 8)(x y:Nat)(hxy:x<=y)(hy:y<=l.length):
 Calls Tryz.prog 163 #[.pointer (some ⟨b,0,none⟩),.int .u8 (c:Int),.agg #[.int .i64 (x:Int),.int .i64 (y:Int)]] w fun e w'=>e = .returned (.agg #[.int .i64 (led 8 l c 8 x:Int),.int .i64 (led 8 l c 8 y:Int)])/\Below w.heap.size w w':=by
 have hB:=tC w (.cells #[.int .i64 (x:Int),.int .i64 (y:Int)] 40) (.cells #[.int .i64 0,.int .i64 0] 40);have hX:oP ((w.alloc (.cells #[.int .i64 (x:Int),.int .i64 (y:Int)] 40)).alloc (.cells #[.int .i64 0,.int .i64 0] 40)) w.heap.size (.int .i64 (x:Int)) (.int .i64 (y:Int)):=(gT w _ _ _).below ((YQ _ _).alloc (V7 _) _);have hR:oP ((w.alloc (.cells #[.int .i64 (x:Int),.int .i64 (y:Int)] 40)).alloc (.cells #[.int .i64 0,.int .i64 0] 40)) (w.heap.size+1) (.int .i64 0) (.int .i64 0):=by
  have:=gT (w.alloc (.cells #[.int .i64 (x:Int),.int .i64 (y:Int)] 40)) (.int .i64 0) (.int .i64 0) 40;simpa using this
 have h1:=(hs.below hB).levels;have HS:Hid _:=hs;clear hs;go_enter Tryz.func163,Tryz.ntmps163
 go_wp2;go_loopw [14] (fun cc wr=>∃ d:Nat,d<=8/\cc = .int .i64 d/\oP wr w.heap.size (.int .i64 (led 8 l c d x:Int)) (.int .i64 (led 8 l c d y:Int))/\oP wr (w.heap.size+1) (.int .i64 0) (.int .i64 0)/\Below w.heap.size w wr) (fun cc _=>8-(intOf cc).toNat)
 case atStart=>exact⟨0,aC6 _,rfl,hX,hR,hB⟩
 case round =>
  clear hX hR hB h1;obtain⟨d,hd,rfl,hX,hR,a1⟩:=hrel;by_cases a2:d<8
  ·have a4:=HS.out.below a1;obtain⟨bb,bw,ba,W,a8,a0⟩:=a4.level d a2;have cA:=tO c hc a4.lt hxy hy d (by omega);have HN:=jA c d hc a2;have b7:(d:Int)<8:=by omega
   have hbn:=a0.hn;have k0:=hX.c0;have k1:=hX.c1;have HX:Hid _:=hX;have HR:Hid _:=hR;have aE:Hid _:=a1;have aG:Hid _:=a4;have a9:Hid _:=a0;have HA:Hid _:=HN;clear hX hR a1 a4 a0 HN;go_wp2;go_region_with (first
    | (go_at_call 153;refine(dC (l:=l) (g:=g) ?_ d a2).mono ?_;exact(aG.out.kept (fun _ _ h=>h));rintro e w' ⟨rfl,rfl⟩)
    | (go_at_call 119;refine(bD (bw:=bw) (ba:=ba) (W:=W) (f:=fU (lev 8 l d) (8-1-d)) (n:=l.length) ?_ _ (led 8 l c d x) (led 8 l c d y) ?_ ?_ _ _ rfl rfl).mono ?_;exact(a9.out.kept (fun _ _ h=>h));omega;omega;rintro e w' ⟨rfl,hB⟩;have a3:=(HX.out.drew).below hB;have f0:=a3.f0;have f1:=a3.f1;have g0:=a3.c0;have g1:=a3.c1))
   all_goals
    go_wp2;go_roundw;case rel=>exact⟨d+1,by omega,by go_num,kZ HA.out (a3.set _ _),((HR.out.drew).below hB).far (by omega) _ _,own2 (chain (aE.out.drew) hB) (V7 _) _ _⟩
    case measure=>simp[intOf];omega
  ·obtain rfl:d=8:=by omega
   have k0:=hX.c0;have k1:=hX.c1;have r0:=hR.c0;have r1:=hR.c1;have rf0:=hR.f0;have rf1:=hR.f1;go_wp2;refine bodyPost_ret (v:=.agg #[.int .i64 (led 8 l c 8 x:Int),.int .i64 (led 8 l c 8 y:Int)]) (by simp[results,Tryz.results163,go_sem, *]) rfl ?_;exact⟨rfl,own2 a1 (by omega) _ _⟩
theorem len_any(hs:bB 8 w b g l):
 Calls Tryz.prog 162 #[.pointer (some ⟨b,0,none⟩)] w fun e w'=>e = .returned (.int .i64 (l.length:Int))/\w'=w:=by
 have h0:=hs.len;go_enter Tryz.func162,Tryz.ntmps162
 go_wp2;go_ret;exact⟨rfl,rfl⟩
theorem rank_yes(hs:bB 8 w b g l)(c:Nat)(hc:c<2 ^ 8)(i:Nat)(hi:i<=l.length):
 Calls Tryz.prog 131 #[.pointer (some ⟨b,0,none⟩),.int .u8 (c:Int),.int .i64 (i:Int)] w fun e w'=>e = .returned (.tuple #[.int .i64 (cnt (eqf l c) i:Int),.int .i64 0])/\Below w.heap.size w w':=by
 have h0:=hs.len;have h1:¬(i:Int)<0:=by omega
 have hn:=hs.hn;have cA:=tO c hc hs.lt (aC6 i) hi 8 (V7 _);have HE:Hid _:=oV c hc hs.lt i hi;go_enter Tryz.func131,Tryz.ntmps131
 go_wp2_with fail
 refine(gH hs c hc 0 i (aC6 _) hi).mono ?_;rintro e w1 ⟨rfl,hB1⟩;go_wp2_with fail
 refine(iH _ _ (by omega) (by omega) _).mono ?_;rintro e w2 ⟨rfl,hB2⟩;go_wp2;go_ret2;exact⟨U1 (by rw[HE.out];omega),chain hB1 hB2⟩
theorem or_bit{P:Nat}(hd:d<8)(hP:P<2 ^ d):bits .or .u8 (acc 8 d P) (kN 8 d)=acc 8 (d+1) (2*P+1):=by
 unfold acc kN;rw[u8_or_nat _ _ (WI (by omega) hP) (aH7 (by decide) (show 8-1-d<8 by omega)),P8 hd]
theorem FI(x:Nat):acc 8 8 (x / 2 ^ (8-8))=(x:Int):=by unfold acc;simp
theorem zJ(hx:x<2 ^ 8):acc 8 0 (x / 2 ^ (8-0))=0:=by unfold acc;rw[Nat.sub_zero,Nat.div_eq_of_lt hx];simp
theorem vP(hd:d<8)(h:x.testBit (8-1-d)=false):acc 8 d (x / 2 ^ (8-d))=acc 8 (d+1) (x / 2 ^ (8-(d+1))):=by
 have:=iJ x (8-(d+1));rw[show 8-(d+1)+1=8-d by omega,show x.testBit (8-(d+1))=false by rw[<-h];congr 1;omega]at this;rw[this,sG hd];rfl
theorem yQ(hd:d<8)(hx:x<2 ^ 8)(h:x.testBit (8-1-d)=true):bits .or .u8 (acc 8 d (x / 2 ^ (8-d))) (kN 8 d)=acc 8 (d+1) (x / 2 ^ (8-(d+1))):=by
 have:=iJ x (8-(d+1));rw[show 8-(d+1)+1=8-d by omega,show x.testBit (8-(d+1))=true by rw[<-h];congr 1;omega]at this;rw[this,or_bit hd (XA (by omega) hx)];rfl
theorem at_yes(hs:bB 8 w b g l)(i x:Nat)(hx:l[i]?=some x):
 Calls Tryz.prog 111 #[.pointer (some ⟨b,0,none⟩),.int .i64 (i:Int)] w fun e w'=>e = .returned (.tuple #[.int .u8 (x:Int),.int .i64 0])/\Below w.heap.size w w':=by
 have h0:=hs.len;have h1:=hs.levels;have hn:=hs.hn;have hi:i<l.length:=by
  have:=(rH hx hs.lt 0 (by decide)).2;exact this
 have hxB:x<2 ^ 8:=hs.lt x (aC3 hx);have hi0:¬(i:Int)<0:=by omega
 have HS:Hid _:=hs;have HX:Hid (l[i]?=some x):=hx;clear hs hx;go_enter Tryz.func111,Tryz.ntmps111
 go_wp2;go_loopw [1,6,25] (fun si sc sd wr=>∃ d q:Nat,d<=8/\sd = .int .i64 d/\si = .int .i64 (led 8 l x d i:Int)/\sc = .int .u8 (acc 8 d (x / 2 ^ (8-d)))/\wr=w.drewN q) (fun _ _ sd _=>8-(intOf sd).toNat)
 case atStart=>exact⟨0,0,aC6 _,rfl,rfl,by rw[zJ hxB],rfl⟩
 case round =>
  obtain⟨d,q,hd,rfl,rfl,rfl,rfl⟩:=hrel;by_cases a2:d<8
  ·obtain⟨bb,bw,ba,W,a8,a0⟩:=HS.out.level d a2;obtain⟨b3,hle⟩:=rH HX.out HS.out.lt d (by omega);have b7:(d:Int)<8:=by omega
   have ho:=D6 (a0.drewN q) (led 8 l x d i) (by omega);rw[qI b3]at ho;have HO:Hid (Calls Tryz.prog 159 _ _ _):=ho;have HB:Hid _:=a0;clear ho a0 b3;cases hbit:x.testBit (8-1-d)
   ·rw[hbit]at HO;have HA:Hid _:=vP a2 hbit;have HL:Hid _:=fK (l:=l) (t:=i) false hbit.symm;clear hbit;go_wp2_with fail
    refine HO.out.mono ?_;rintro e w1 ⟨rfl,rfl⟩;go_wp2_with fail
    refine(pF (HB.out.drewN q) false _ (by omega) _ rfl).mono ?_;rintro e w1 ⟨rfl,q2,rfl⟩;go_wp2;go_roundw;case rel=>exact⟨d+1,q+q2,by omega,by go_num,by rw[HL.out],by rw[HA.out],rfl⟩
    case measure=>simp[intOf];omega
   ·rw[hbit]at HO;have HA:Hid _:=yQ a2 hxB hbit;have HL:Hid _:=fK (l:=l) (t:=i) true hbit.symm;clear hbit;go_wp2_with fail
    refine HO.out.mono ?_;rintro e w1 ⟨rfl,rfl⟩;go_wp2_with fail
    refine(dC (HS.out.drewN q) d a2).mono ?_;rintro e w1 ⟨rfl,rfl⟩;go_wp2_with fail
    refine(pF (HB.out.drewN q) true _ (by omega) _ rfl).mono ?_;rintro e w1 ⟨rfl,q2,rfl⟩;go_wp2;go_roundw;case rel=>exact⟨d+1,q+q2,by omega,by go_num,by rw[HL.out],by rw[HA.out],rfl⟩
    case measure=>simp[intOf];omega
  ·obtain rfl:d=8:=by omega
   have HA:Hid _:=FI x;go_wp2;go_ret2;exact⟨by rw[<-HA.out];rfl,below_drewN (YQ _ _) _⟩
end Go.Proofs.YtphjbbbnbmafnaaGreatDoor.S8
namespace Go.Proofs.YtphjbbbnbmafnaaGreatDoor.S8
open Go.RowKit
theorem uP{w:World}{b g:Nat}{l:List Nat}(hs:bB 8 w b g l)(c t:Nat)(ht:l[t]?=some c)(k:Int)(hk:k=(cnt (eqf l c) t:Int)):
 Calls Tryz.prog 124 #[.pointer (some ⟨b,0,none⟩),.int .u8 (c:Int),.int .i64 k] w fun e w'=>e = .returned (.tuple #[.int .i64 (t:Int),.int .i64 0])/\Below w.heap.size w w':=by
 have h0:=hs.len;have hn:=hs.hn;have hc:c<2 ^ 8:=hs.lt c (aC3 ht);have htl:t<l.length:=(rH ht hs.lt 0 (by decide)).2;have cA:=tO c hc hs.lt (aC6 l.length) (V7 _) 8 (V7 _);have hr:=oV c hc hs.lt l.length (V7 _);have hrt:=oV c hc hs.lt t (by omega);have cB:=cnt_mono (eqf l c) (show t+1<=l.length by omega);rw[bL,show eqf l c t=true by unfold eqf;rw[ht];simp]at cB;simp only[Bool.toNat_true]at cB;have hk0:¬ k<0:=by omega
 have hk1:k<(led 8 l c 8 l.length:Int)-(led 8 l c 8 0:Int):=by omega
 have hkt:(led 8 l c 8 0:Int)+k=(led 8 l c 8 t:Int):=by omega
 have hkb:k<=100000:=by omega
 have HS:Hid _:=hs;have HT:Hid (l[t]?=some c):=ht;have HKT:Hid _:=hkt;clear hs ht hkt hr hrt cB hk;go_enter Tryz.func124,Tryz.ntmps124
 go_wp2_with fail
 refine(gH HS.out c hc 0 l.length (aC6 _) (V7 _)).mono ?_;rintro e w1 ⟨rfl,hB1⟩;go_wp2_with fail
 refine(iH _ _ (by omega) (by omega) _).mono ?_;rintro e w2 ⟨rfl,hB2⟩;have hX:=(gT w1 (.int .i64 (led 8 l c 8 0:Int)) (.int .i64 (led 8 l c 8 l.length:Int)) 40).below hB2;have c7:=chain (hB1.alloc hB1.size _) hB2;have k0:=hX.c0;have k1:=(HS.out.below c7).levels;clear hX hB1 hB2;go_wp2;go_loopw [9,10] (fun si sd wr=>∃ d:Nat,d<=8/\sd = .int .i64 ((d:Int)-1)/\si = .int .i64 (led 8 l c d t:Int)/\Below w.heap.size w wr) (fun _ sd _=>(intOf sd+1).toNat)
 case atStart=>exact⟨8,V7 _,by go_num,by rw[HKT.out],c7⟩
 case round =>
  clear k0 k1 c7;obtain⟨d1,hd,rfl,rfl,a1⟩:=hrel;rcases d1 with _ | d
  ·go_wp2;go_ret2;exact⟨rfl,a1⟩
  ·have a2:d<8:=by omega
   have a4:=HS.out.below a1;obtain⟨bb,bw,ba,W,a8,a0⟩:=a4.level d a2;obtain⟨b3,hle⟩:=rH HT.out a4.lt d (by omega);have b7:(d:Int)<8:=by omega
   have hd1:((d+1:Nat):Int)-1=(d:Int):=by omega
   have k1:=a4.levels;have HA:Hid _:=jA c d hc a2;have HF:Hid _:=qI (b:=8-1-d) b3;have aE:Hid _:=a1;have aG:Hid _:=a4;have a9:Hid _:=a0;have HUP:Hid (∀ w2,aT w2 bb bw ba (fU (lev 8 l d) (8-1-d)) l.length W->Calls Tryz.prog 164 #[.pointer (some ⟨bb,0,none⟩),.int .i64 (led 8 l c (d+1) t:Int),.bool (bits .and .u8 (c:Int) (kN 8 d) != 0)] w2 fun e w'=>e = .returned (.int .i64 (led 8 l c d t:Int))/\Below w2.heap.size w2 w') :=
    fun w2 h2=>WN h2 _ _ hle (HF.out.trans HA.out.symm) _ (congrArg Nat.cast (fK (l:=l) (t:=t) _ HA.out).symm)
   clear a1 a4 a0 b3;rw[hd1];go_wp2;go_region_held (fun w'=>w'.cell? ⟨b,1,none⟩=some (.slice (some ⟨g,0,none⟩) 8 8)/\w'.cell? ⟨g,d,none⟩=some (.pointer (some ⟨bb,0,none⟩))) (go_keep) (first
    | (go_at_call 153;refine(dC (l:=l) (g:=g) ?_ d a2).mono ?_;exact(aG.out.kept (fun _ _ h=>h));rintro e w' ⟨rfl,rfl⟩)
    | (go_at_call 164;refine(HUP.out _ ?_).mono ?_;exact(a9.out.kept (fun _ _ h=>h));rintro e w' ⟨rfl,hB⟩;have q1:=cell_kept hB ⟨b,1,none⟩ (.slice (some ⟨g,0,none⟩) 8 8) k1;have q2:=cell_kept hB ⟨g,d,none⟩ (.pointer (some ⟨bb,0,none⟩)) a8))
   all_goals
    go_wp2;go_roundw;case rel=>exact⟨d,by omega,by go_num,rfl,chain (aE.out.drew) hB⟩
    case measure=>simp[intOf]
end Go.Proofs.YtphjbbbnbmafnaaGreatDoor.S8
namespace Go.Proofs.YtphjbbbnbmafnaaGreatDoor.S8
open Go.RowKit
variable {b:Nat}
theorem tF(s:List Nat)(c:Nat)(hc:c<2 ^ 8):(s.filter (fun z=>decide (z / 2 ^ (8-0)<c / 2 ^ (8-0)))).length=0:=by
 rw[Nat.sub_zero,Nat.div_eq_of_lt hc];simp
theorem yZ(l:List Nat)(x y c:Nat):(((l.take y).drop x).filter (fun z=>decide (z / 2 ^ (8-8)<c / 2 ^ (8-8)))).length=bel l x y c:=by
 unfold bel;simp
theorem pG{s:List Nat}{c d:Nat}(hd:d<8)(o:Bool)(ho:c.testBit (8-1-d)=o):(s.filter (fun z=>decide (z / 2 ^ (8-(d+1))<c / 2 ^ (8-(d+1))))).length=(s.filter (fun z=>decide (z / 2 ^ (8-d)<c / 2 ^ (8-d)))).length+(if o then ((s.filter (fun z=>z / 2 ^ (8-d) == c / 2 ^ (8-d))).filter (fun z=>z.testBit (8-1-d) == false)).length else 0):=by
 have h:=nE s (c / 2 ^ (8-d)) (8-1-d) o;rw[show 8-1-d+1=8-d by omega]at h;rw[<-h,show 8-(d+1)=8-1-d by omega,iJ c (8-1-d),ho,show 8-1-d+1=8-d by omega]
theorem FZ{N a m:Nat}(h:b=a+m):Value.int .i64 ((N:Int)+((b:Int)-(a:Int))) = .int .i64 ((N+m:Nat):Int):=by
 congr 1;omega
theorem below_yes{w:World}{g:Nat}{l:List Nat}(hs:bB 8 w b g l)(c x y:Nat)(hc:c<2 ^ 8)(hxy:x<=y)(hy:y<=l.length):
 Calls Tryz.prog 123 #[.pointer (some ⟨b,0,none⟩),.agg #[.int .i64 (x:Int),.int .i64 (y:Int)],.int .u8 (c:Int)] w fun e w'=>e = .returned (.tuple #[.int .i64 (bel l x y c:Int),.int .i64 0])/\Below w.heap.size w w':=by
 have a5:Below w.heap.size w (w.alloc (.cells #[.int .i64 (x:Int),.int .i64 (y:Int)] 40)):=(YQ _ _).alloc (V7 _) _;have h0:=(hs.below a5).len;have h1:=(hs.below a5).levels;have hn:=hs.hn;have b1:Hid (∀ w2,Calls Tryz.prog 39 _ w2 _):=fun w2=>bO (x:Int) (y:Int) (l.length:Int) w2;rw[decide_eq_true (show(0:Int)<=(x:Int)/\(x:Int)<=(y:Int)/\(y:Int)<=(l.length:Int) by omega)]at b1;have HB:Hid _:=a5;have bX:Hid _:=gT w (.int .i64 (x:Int)) (.int .i64 (y:Int)) 40;have HS:Hid _:=hs;have hsl:((l.take y).drop x).length<=l.length:=by simp;omega
 have HF:Hid _:=tF ((l.take y).drop x) c hc;clear a5 hs;go_enter Tryz.func123,Tryz.ntmps123
 go_wp2;go_region_held (fun w'=>w'.cell? ⟨w.heap.size,0,none⟩=some (.int .i64 (x:Int))/\w'.cell? ⟨w.heap.size,1,none⟩=some (.int .i64 (y:Int))/\w'.cell? ⟨b,0,none⟩=some (.int .i64 (l.length:Int))) (go_keep) (first
  | (go_at_call 39;refine(b1.out _).mono ?_;rintro e w' ⟨rfl,hB⟩;have q0:=cell_kept hB ⟨w.heap.size,0,none⟩ (.int .i64 (x:Int)) (by simp);have q1:=cell_kept hB ⟨w.heap.size,1,none⟩ (.int .i64 (y:Int)) (by simp);have q2:=cell_kept hB ⟨b,0,none⟩ (.int .i64 (l.length:Int)) h0))
 have b8:=cell_kept hB ⟨b,1,none⟩ (.slice (some ⟨g,0,none⟩) 8 8) h1;have b2:=(bX.out.drew).below hB;have b4:=chain (HB.out.drew) hB;clear q0 q1 q2 hB h0 h1;go_wp2;go_loopw [8,24] (fun sb sd wr=>∃ d:Nat,d<=8/\sd = .int .i64 d/\sb = .int .i64 ((((l.take y).drop x).filter (fun z=>decide (z / 2 ^ (8-d)<c / 2 ^ (8-d)))).length:Int)/\oP wr w.heap.size (.int .i64 (led 8 l c d x:Int)) (.int .i64 (led 8 l c d y:Int))/\Below w.heap.size w wr) (fun _ sd _=>8-(intOf sd).toNat)
 case atStart=>exact⟨0,aC6 _,rfl,by rw[HF.out];rfl,b2,b4⟩
 case round =>
  clear b8 b2 b4;obtain⟨d,hd,rfl,rfl,hX,a1⟩:=hrel;by_cases a2:d<8
  ·have a4:=HS.out.below a1;obtain⟨bb,bw,ba,W,a8,a0⟩:=a4.level d a2;have cA:=tO c hc a4.lt hxy hy d (by omega);have b7:(d:Int)<8:=by omega
   have hA:=jA c d hc a2;have k0:=hX.c0;have k1:=hX.c1;have f0:=hX.f0;have f1:=hX.f1;have HX:Hid _:=hX;have aE:Hid _:=a1;have aG:Hid _:=a4;have a9:Hid _:=a0;have hsf:=aE8 (fun z=>decide (z / 2 ^ (8-d)<c / 2 ^ (8-d))) ((l.take y).drop x);generalize hN:(((l.take y).drop x).filter (fun z=>decide (z / 2 ^ (8-d)<c / 2 ^ (8-d)))).length=N0 at hsf ⊢;have HN:Hid (_=N0):=hN;clear hX a1 a4 a0 hN;cases hbit:c.testBit (8-1-d)
   ·rw[hbit]at hA;have bW:Hid _:=pG (s:=(l.take y).drop x) a2 false hbit;have bS:Hid _:=hbit;clear hbit;go_wp2_with fail
    refine(dC aG.out d a2).mono ?_;rintro e w1 ⟨rfl,rfl⟩;go_wp2_with fail
    refine(bD a9.out false _ _ (by omega) (by omega) _ _ rfl rfl).mono ?_;rintro e w1 ⟨rfl,hB⟩;have a3:=HX.out.below hB;have j0:=a3.c0;have j1:=a3.c1;have g0:=a3.f0;have g1:=a3.f1;go_wp2;go_roundw;case rel=>exact⟨d+1,by omega,by go_num,by rw[bW.out,HN.out];rfl,kZ bS.out.symm (a3.set _ _),own2 (chain aE.out hB) (V7 _) _ _⟩
    case measure=>simp[intOf];omega
   ·rw[hbit]at hA;have b6:=pG (s:=(l.take y).drop x) a2 true hbit;rw[if_pos rfl]at b6;have bS:Hid _:=hbit;have hz:=l9 (kP (8-1-d) (sU c (vI l x y hxy hy) hc aG.out.lt d (by omega)) false);rw[aQ,jC,aQ]at hz;simp only[Nat.reduceSub]at hz b6;obtain⟨b0,b5⟩:=hz;have hz3:=aD9 (Nat.le.intro b0.symm) b5;have HZ:Hid _:=b0;have bW:Hid _:=b6;clear hbit b0 b6;go_wp2_with fail
    refine(dC aG.out d a2).mono ?_;rintro e w1 ⟨rfl,rfl⟩;go_wp2_with fail
    refine(bD a9.out false _ _ (by omega) (by omega) _ _ rfl rfl).mono ?_;rintro e w1 ⟨rfl,hB⟩;go_wp2_with fail
    refine(iH _ _ (by omega) (by omega) _).mono ?_;rintro e w2 ⟨rfl,hB2⟩;have a6:=chain hB hB2;have a3:=HX.out.below a6;have j0:=a3.c0;have j1:=a3.c1;go_wp2_with fail
    refine(bD (a9.out.below a6) true _ _ (by omega) (by omega) _ _ rfl rfl).mono ?_;rintro e w3 ⟨rfl,hB4⟩;have a7:=a3.below hB4;have i0:=a7.c0;have i1:=a7.c1;have g0:=a7.f0;have g1:=a7.f1;go_wp2;go_roundw;case rel=>exact⟨d+1,by omega,by go_num,by simp only[bW.out,HN.out];exact FZ HZ.out,kZ bS.out.symm (a7.set _ _),own2 (chain (chain aE.out a6) hB4) (V7 _) _ _⟩
    case measure=>simp[intOf];omega
  ·obtain rfl:d=8:=by omega
   have HL:Hid _:=yZ l x y c;rw[HL.out];go_wp2;go_ret2;exact⟨rfl,a1⟩
end Go.Proofs.YtphjbbbnbmafnaaGreatDoor.S8
namespace Go.Proofs.YtphjbbbnbmafnaaGreatDoor.S8
open Go.RowKit
variable {l s:List Nat} {A P Z d k kd x y:Nat}
structure Left (l s:List Nat) (k d P kd A Z:Nat):Prop where
 seg:Seg (lev 8 l d) A Z (s.filter (fun z=>z / 2 ^ (8-d) == P))
 sum:(s.filter (fun z=>decide (z / 2 ^ (8-d)<P))).length+kd=k
 has:kd<(s.filter (fun z=>z / 2 ^ (8-d) == P)).length
 lt:P<2 ^ d
theorem Left.len(h:Left l s k d P kd A Z):A<=Z/\Z<=l.length:=by
 have:=l9 h.seg;rw[aQ]at this;omega
theorem qN(hl:∀ z∈l,z<2 ^ 8)(hxy:x<=y)(hy:y<=l.length)(hk:k<y-x):Left l ((l.take y).drop x) k 0 0 k x y:=by
 have e:((l.take y).drop x).filter (fun z=>z / 2 ^ (8-0) == 0)=(l.take y).drop x:=by
  rw[List.filter_eq_self];intro z hz;rw[Nat.sub_zero,Nat.div_eq_of_lt (hl z (List.mem_of_mem_take (List.mem_of_mem_drop hz)))];rfl
 refine⟨?_,?_,?_,by decide⟩
 ·rw[e];exact vI l x y hxy hy
 ·simp
 ·rw[e];simp;omega
theorem qG(h:Left l s k d P kd A Z):
 down (fU (lev 8 l d) (8-1-d)) l.length false Z=down (fU (lev 8 l d) (8-1-d)) l.length false A+((s.filter (fun z=>z / 2 ^ (8-d) == P)).filter (fun z=>z.testBit (8-1-d) == false)).length/\down (fU (lev 8 l d) (8-1-d)) l.length false Z<=l.length:=by
 have:=l9 (kP (8-1-d) h.seg false);rw[aQ,jC,aQ]at this;exact this
theorem lU(hd:d<8)(h:Left l s k d P kd A Z)(o:Bool)(kd':Nat)
 (ho:(o=false/\kd'=kd/\kd<((s.filter (fun z=>z / 2 ^ (8-d) == P)).filter (fun z=>z.testBit (8-1-d) == false)).length) \/
  (o=true/\kd=kd'+((s.filter (fun z=>z / 2 ^ (8-d) == P)).filter (fun z=>z.testBit (8-1-d) == false)).length)) :
 Left l s k (d+1) (2*P+o.toNat) kd' (down (fU (lev 8 l d) (8-1-d)) l.length o A) (down (fU (lev 8 l d) (8-1-d)) l.length o Z):=by
 have e1:8-(d+1)=8-1-d:=by omega
 have e2:8-d=8-1-d+1:=by omega
 have h1:=kP (8-1-d) h.seg o;have h2:=nE s P (8-1-d) o;have h3:=fD (8-1-d) (s.filter (fun z=>z / 2 ^ (8-d) == P));have h4:=h.sum;have h5:=h.has;have h6:=oK s P (8-1-d) o;rw[<-e2]at h2 h6;rw[h6,aQ]at h1;refine⟨by rw[e1];exact h1,?_,?_,?_⟩
 ·rw[e1,h2];rcases ho with ⟨rfl,rfl,_⟩ | ⟨rfl,e⟩
  ·simpa using h4
  ·rw[if_pos rfl];omega
 ·rw[e1,<-h6];rcases ho with ⟨rfl,rfl,e⟩ | ⟨rfl,e⟩
  ·exact e
  ·omega
 ·have:=h.lt;have:=Bool.toNat_le o;rw[Nat.pow_succ];omega
theorem uD(h:Left l ((l.take y).drop x) k 8 P kd A Z):bel l x y P<=k/\k<bel l x y P+eqn l x y P/\P<2 ^ 8:=by
 have h1:=h.sum;have h2:=h.has;simp only[aJ1,Nat.pow_zero,Nat.div_one]at h1 h2;unfold bel eqn;exact⟨by omega,by omega,h.lt⟩
theorem FY(P:Nat):acc 8 8 P=(P:Int):=by unfold acc;simp
theorem vH{w:World}{b g:Nat}(hs:bB 8 w b g l)(x y k:Nat)(hxy:x<=y)(hy:y<=l.length)(hk:k<y-x):
 Calls Tryz.prog 121 #[.pointer (some ⟨b,0,none⟩),.agg #[.int .i64 (x:Int),.int .i64 (y:Int)],.int .i64 (k:Int)] w fun e w'=>∃ c:Nat,e = .returned (.tuple #[.int .u8 (c:Int),.int .i64 0])/\(bel l x y c<=k/\k<bel l x y c+eqn l x y c/\c<2 ^ 8)/\Below w.heap.size w w':=by
 have a5:Below w.heap.size w (w.alloc (.cells #[.int .i64 (x:Int),.int .i64 (y:Int)] 40)):=(YQ _ _).alloc (V7 _) _;have h0:=(hs.below a5).len;have h1:=(hs.below a5).levels;have hn:=hs.hn;have b1:Hid (∀ w2,Calls Tryz.prog 39 _ w2 _):=fun w2=>bO (x:Int) (y:Int) (l.length:Int) w2;rw[decide_eq_true (show(0:Int)<=(x:Int)/\(x:Int)<=(y:Int)/\(y:Int)<=(l.length:Int) by omega)]at b1;have HB:Hid _:=a5;have bX:Hid _:=gT w (.int .i64 (x:Int)) (.int .i64 (y:Int)) 40;have HS:Hid _:=hs;have hk1:¬(y:Int)-(x:Int)<=(k:Int):=by omega
 clear a5 hs;go_enter Tryz.func121,Tryz.ntmps121
 go_wp2;have hkd:decide ((k:Int)<0)=false:=decide_eq_false (by omega);go_region_held (fun w'=>w'.cell? ⟨w.heap.size,0,none⟩=some (.int .i64 (x:Int))/\w'.cell? ⟨w.heap.size,1,none⟩=some (.int .i64 (y:Int))/\w'.cell? ⟨b,0,none⟩=some (.int .i64 (l.length:Int))) (go_keep) (first
  | (go_at_call 39;refine(b1.out _).mono ?_;rintro e w' ⟨rfl,hB⟩;have q0:=cell_kept hB ⟨w.heap.size,0,none⟩ (.int .i64 (x:Int)) (by simp);have q1:=cell_kept hB ⟨w.heap.size,1,none⟩ (.int .i64 (y:Int)) (by simp);have q2:=cell_kept hB ⟨b,0,none⟩ (.int .i64 (l.length:Int)) h0)
  | (go_at_call 73;refine(iH _ _ ?_ ?_ _).mono ?_;omega;omega;rintro e w2 ⟨rfl,hB2⟩;have r0:=cell_kept hB2 ⟨w.heap.size,0,none⟩ (.int .i64 (x:Int)) q0;have r1:=cell_kept hB2 ⟨w.heap.size,1,none⟩ (.int .i64 (y:Int)) q1;have r2:=cell_kept hB2 ⟨b,0,none⟩ (.int .i64 (l.length:Int)) q2))
 have a6:=chain hB hB2;have b8:=cell_kept a6 ⟨b,1,none⟩ (.slice (some ⟨g,0,none⟩) 8 8) h1;have b2:=(bX.out.drew).below a6;have b4:=chain (HB.out.drew) a6;have HL0:Hid _:=qN HS.out.lt hxy hy hk;clear q0 q1 q2 r0 r1 r2 hB hB2 a6 h0 h1 hkd;go_wp2;go_loopw [2,8,35] (fun sk sc sd wr=>∃ d P kd A Z:Nat,d<=8/\sd = .int .i64 d/\sk = .int .i64 (kd:Int)/\sc = .int .u8 (acc 8 d P)/\Hid (Left l ((l.take y).drop x) k d P kd A Z)/\oP wr w.heap.size (.int .i64 (A:Int)) (.int .i64 (Z:Int))/\Below w.heap.size w wr) (fun _ _ sd _=>8-(intOf sd).toNat)
 case atStart=>exact⟨0,0,k,x,y,aC6 _,rfl,rfl,by unfold acc;simp,HL0.out,b2,b4⟩
 case round =>
  clear b8 b2 b4;obtain⟨d,P,kd,A,Z,hd,rfl,rfl,rfl,HL,hX,a1⟩:=hrel;by_cases a2:d<8
  ·have a4:=HS.out.below a1;obtain⟨bb,bw,ba,W,a8,a0⟩:=a4.level d a2;obtain⟨hA,hZ⟩:=HL.out.len;obtain⟨b0,b5⟩:=qG HL.out;have hkd:kd<y:=by have:=HL.out.sum;omega
   have b7:(d:Int)<8:=by omega
   have b8:=a4.levels;generalize hm:((((l.take y).drop x).filter (fun z=>z / 2 ^ (8-d) == P)).filter (fun z=>z.testBit (8-1-d) == false)).length=m at b0;have HM:Hid (_=m):=hm;simp only[Nat.reduceSub]at b0 b5;have hz3:=aD9 (Nat.le.intro b0.symm) b5;have b9:(down (fU (lev 8 l d) (8-1-d)) l.length false Z:Int)-(down (fU (lev 8 l d) (8-1-d)) l.length false A:Int)=(m:Int):=by simp only[Nat.reduceSub];omega
   simp only[Nat.reduceSub]at b9;have k0:=hX.c0;have k1:=hX.c1;have HX:Hid _:=hX;have aE:Hid _:=a1;have aG:Hid _:=a4;have a9:Hid _:=a0;have aL:∀ w2,Calls Tryz.prog 73 #[.agg #[.int .i64 (down (fU (lev 8 l d) (8-1-d)) l.length false A:Int),.int .i64 (down (fU (lev 8 l d) (8-1-d)) l.length false Z:Int)]] w2 fun e w'=>e = .returned (.int .i64 (m:Int))/\Below w2.heap.size w2 w':=fun w2=>by
    have:=iH (down (fU (lev 8 l d) (8-1-d)) l.length false A:Int) (down (fU (lev 8 l d) (8-1-d)) l.length false Z:Int) (by simp only[Nat.reduceSub];omega) (by simp only[Nat.reduceSub];omega) w2;simp only[Nat.reduceSub]at this b9 ⊢;rw[b9]at this;exact this
   have HLG:Hid (∀ w2,Calls Tryz.prog 73 _ w2 _):=aL;have hmb:m<=l.length:=by omega
   clear hX a1 a4 a0 hm b0 b9 aL b5 hz3;by_cases hkm:m<=kd
   ·have HO:Hid _:=or_bit a2 HL.out.lt;have c8:(m:Int)<=(kd:Int):=by omega
    go_wp2_with fail
    refine(bD a9.out false _ _ (by omega) hZ _ _ rfl rfl).mono ?_;rintro e w1 ⟨rfl,hB⟩;go_wp2_with fail
    refine(HLG.out _).mono ?_;rintro e w2 ⟨rfl,hB2⟩;have a6:=chain hB hB2;have a3:=HX.out.below a6;have j0:=a3.c0;have j1:=a3.c1;go_wp2_with fail
    refine(dC (aG.out.below a6) d a2).mono ?_;rintro e w3 ⟨rfl,rfl⟩;go_wp2_with fail
    refine(bD (a9.out.below a6) true _ _ (by omega) hZ _ _ rfl rfl).mono ?_;rintro e w3 ⟨rfl,hB4⟩;have a7:=a3.below hB4;have i0:=a7.c0;have i1:=a7.c1;have g0:=a7.f0;have g1:=a7.f1;go_wp2;go_roundw;case rel=>exact⟨d+1,2*P+1,kd-m,_,_,by omega,by go_num,by rw[show((kd-m:Nat):Int)=(kd:Int)-(m:Int) by omega],by rw[HO.out],lU a2 HL.out true (kd-m) (.inr ⟨rfl,by rw[HM.out];omega⟩),a7.set _ _,own2 (chain (chain aE.out a6) hB4) (V7 _) _ _⟩
    case measure=>simp[intOf];omega
   ·have HO:Hid _:=sG (P:=P) a2;have c8:¬(m:Int)<=(kd:Int):=by omega
    go_wp2_with fail
    refine(bD a9.out false _ _ (by omega) hZ _ _ rfl rfl).mono ?_;rintro e w1 ⟨rfl,hB⟩;go_wp2_with fail
    refine(HLG.out _).mono ?_;rintro e w2 ⟨rfl,hB2⟩;have a6:=chain hB hB2;have a3:=HX.out.below a6;have j0:=a3.c0;have j1:=a3.c1;go_wp2_with fail
    refine(bD (a9.out.below a6) false _ _ (by omega) hZ _ _ rfl rfl).mono ?_;rintro e w3 ⟨rfl,hB4⟩;have a7:=a3.below hB4;have i0:=a7.c0;have i1:=a7.c1;have g0:=a7.f0;have g1:=a7.f1;go_wp2;go_roundw;case rel=>exact⟨d+1,2*P,kd,_,_,by omega,by go_num,rfl,by rw[HO.out],lU a2 HL.out false kd (.inl ⟨rfl,rfl,by rw[HM.out];omega⟩),a7.set _ _,own2 (chain (chain aE.out a6) hB4) (V7 _) _ _⟩
    case measure=>simp[intOf];omega
  ·obtain rfl:d=8:=by omega
   have HE:Hid _:=FY P;have HF:Hid _:=uD HL.out;rw[HE.out];go_wp2;go_ret2;exact⟨P,rfl,HF.out,a1⟩
end Go.Proofs.YtphjbbbnbmafnaaGreatDoor.S8
