/- Parts: Least16 NewSeq16 NumsOf16. -/
import Derived.Test.YtphjbbbnbmafnaaGreatDoorAsk16
import Derived.Test.YtphjbbbnbmafnaaGreatDoorExt
import Derived.Test.YtphjbbbnbmafnaaGreatDoorOwnM
set_option maxHeartbeats 8000000
set_option maxRecDepth 100000
namespace Go.Proofs.YtphjbbbnbmafnaaGreatDoor.S16
open Go.RowKit
theorem uP{w:World}{b g:Nat}{l:List Nat}(hs:bB 16 w b g l)(c t:Nat)(ht:l[t]?=some c)(k:Int)(hk:k=(cnt (eqf l c) t:Int)):
 Calls Tryz.prog 126 #[.pointer (some ⟨b,0,none⟩),.int .u16 (c:Int),.int .i64 k] w fun e w'=>e = .returned (.tuple #[.int .i64 (t:Int),.int .i64 0])/\Below w.heap.size w w':=by
 have h0:=hs.len;have hn:=hs.hn;have hc:c<2 ^ 16:=hs.lt c (aC3 ht);have htl:t<l.length:=(rH ht hs.lt 0 (by decide)).2;have hll:=tO c hc hs.lt (aC6 l.length) (V7 _) 16 (V7 _);have hr:=oV c hc hs.lt l.length (V7 _);have hrt:=oV c hc hs.lt t (by omega);have cT:=cnt_mono (eqf l c) (show t+1<=l.length by omega);rw[bL,show eqf l c t=true by unfold eqf;rw[ht];simp]at cT;simp only[Bool.toNat_true]at cT;have hk0:¬ k<0:=by omega
 have hk1:k<(led 16 l c 16 l.length:Int)-(led 16 l c 16 0:Int):=by omega
 have hkt:(led 16 l c 16 0:Int)+k=(led 16 l c 16 t:Int):=by omega
 have hkb:k<=100000:=by omega
 have HS:Hid _:=hs;have HT:Hid (l[t]?=some c):=ht;have HKT:Hid _:=hkt;clear hs ht hkt hr hrt cT hk;go_enter Tryz.func126,Tryz.ntmps126
 go_wp2_with fail
 refine(gH HS.out c hc 0 l.length (aC6 _) (V7 _)).mono ?_;rintro e w1 ⟨rfl,hB1⟩;go_wp2_with fail
 refine(iH _ _ (by omega) (by omega) _).mono ?_;rintro e w2 ⟨rfl,hB2⟩;have hX:=(gT w1 (.int .i64 (led 16 l c 16 0:Int)) (.int .i64 (led 16 l c 16 l.length:Int)) 40).below hB2;have cQ:=chain (hB1.alloc hB1.size _) hB2;have k0:=hX.c0;have k1:=(HS.out.below cQ).levels;clear hX hB1 hB2;go_wp2;go_loopw [9,10] (fun si sd wr=>∃ d:Nat,d<=16/\sd = .int .i64 ((d:Int)-1)/\si = .int .i64 (led 16 l c d t:Int)/\Below w.heap.size w wr) (fun _ sd _=>(intOf sd+1).toNat)
 case atStart=>exact⟨16,V7 _,by go_num,by rw[HKT.out],cQ⟩
 case round =>
  clear k0 k1 cQ;obtain⟨d1,hd,rfl,rfl,a3⟩:=hrel;rcases d1 with _ | d
  ·go_wp2;go_ret2;exact⟨rfl,a3⟩
  ·have a4:d<16:=by omega
   have b4:=HS.out.below a3;obtain⟨bb,bw,ba,W,b5,a2⟩:=b4.level d a4;obtain⟨hat,hle⟩:=rH HT.out b4.lt d (by omega);have cR:(d:Int)<16:=by omega
   have hd1:((d+1:Nat):Int)-1=(d:Int):=by omega
   have k1:=b4.levels;have HA:Hid _:=jA c d hc a4;have HF:Hid _:=qI (b:=16-1-d) hat;have bS:Hid _:=a3;have bW:Hid _:=b4;have b6:Hid _:=a2;have HUP:Hid (∀ w2,aT w2 bb bw ba (fU (lev 16 l d) (16-1-d)) l.length W->Calls Tryz.prog 164 #[.pointer (some ⟨bb,0,none⟩),.int .i64 (led 16 l c (d+1) t:Int),.bool (bits .and .u16 (c:Int) (kN 16 d) != 0)] w2 fun e w'=>e = .returned (.int .i64 (led 16 l c d t:Int))/\Below w2.heap.size w2 w') :=
    fun w2 h2=>WN h2 _ _ hle (HF.out.trans HA.out.symm) _ (congrArg Nat.cast (fK (l:=l) (t:=t) _ HA.out).symm)
   clear a3 b4 a2 hat;rw[hd1];go_wp2;go_region_held (fun w'=>w'.cell? ⟨b,1,none⟩=some (.slice (some ⟨g,0,none⟩) 16 16)/\w'.cell? ⟨g,d,none⟩=some (.pointer (some ⟨bb,0,none⟩))) (go_keep) (first
    | (go_at_call 118;refine(dC (l:=l) (g:=g) ?_ d a4).mono ?_;exact(bW.out.kept (fun _ _ h=>h));rintro e w' ⟨rfl,rfl⟩)
    | (go_at_call 164;refine(HUP.out _ ?_).mono ?_;exact(b6.out.kept (fun _ _ h=>h));rintro e w' ⟨rfl,hB⟩;have q1:=cell_kept hB ⟨b,1,none⟩ (.slice (some ⟨g,0,none⟩) 16 16) k1;have q2:=cell_kept hB ⟨g,d,none⟩ (.pointer (some ⟨bb,0,none⟩)) b5))
   all_goals
    go_wp2;go_roundw;case rel=>exact⟨d,by omega,by go_num,rfl,chain (bS.out.drew) hB⟩
    case measure=>simp[intOf]
end Go.Proofs.YtphjbbbnbmafnaaGreatDoor.S16
namespace Go.Proofs.YtphjbbbnbmafnaaGreatDoor.S16
open Go.RowKit
variable {b:Nat}
theorem tF(s:List Nat)(c:Nat)(hc:c<2 ^ 16):(s.filter (fun z=>decide (z / 2 ^ (16-0)<c / 2 ^ (16-0)))).length=0:=by
 rw[Nat.sub_zero,Nat.div_eq_of_lt hc];simp
theorem yZ(l:List Nat)(x y c:Nat):(((l.take y).drop x).filter (fun z=>decide (z / 2 ^ (16-16)<c / 2 ^ (16-16)))).length=bel l x y c:=by
 unfold bel;simp
theorem pG{s:List Nat}{c d:Nat}(hd:d<16)(o:Bool)(ho:c.testBit (16-1-d)=o):(s.filter (fun z=>decide (z / 2 ^ (16-(d+1))<c / 2 ^ (16-(d+1))))).length=(s.filter (fun z=>decide (z / 2 ^ (16-d)<c / 2 ^ (16-d)))).length+(if o then ((s.filter (fun z=>z / 2 ^ (16-d) == c / 2 ^ (16-d))).filter (fun z=>z.testBit (16-1-d) == false)).length else 0):=by
 have h:=nE s (c / 2 ^ (16-d)) (16-1-d) o;rw[show 16-1-d+1=16-d by omega]at h;rw[<-h,show 16-(d+1)=16-1-d by omega,iJ c (16-1-d),ho,show 16-1-d+1=16-d by omega]
theorem FZ{N a m:Nat}(h:b=a+m):Value.int .i64 ((N:Int)+((b:Int)-(a:Int))) = .int .i64 ((N+m:Nat):Int):=by
 congr 1;omega
theorem below_yes{w:World}{g:Nat}{l:List Nat}(hs:bB 16 w b g l)(c x y:Nat)(hc:c<2 ^ 16)(hxy:x<=y)(hy:y<=l.length):
 Calls Tryz.prog 67 #[.pointer (some ⟨b,0,none⟩),.agg #[.int .i64 (x:Int),.int .i64 (y:Int)],.int .u16 (c:Int)] w fun e w'=>e = .returned (.tuple #[.int .i64 (bel l x y c:Int),.int .i64 0])/\Below w.heap.size w w':=by
 have a5:Below w.heap.size w (w.alloc (.cells #[.int .i64 (x:Int),.int .i64 (y:Int)] 40)):=(YQ _ _).alloc (V7 _) _;have h0:=(hs.below a5).len;have h1:=(hs.below a5).levels;have hn:=hs.hn;have c8:Hid (∀ w2,Calls Tryz.prog 39 _ w2 _):=fun w2=>bO (x:Int) (y:Int) (l.length:Int) w2;rw[decide_eq_true (show(0:Int)<=(x:Int)/\(x:Int)<=(y:Int)/\(y:Int)<=(l.length:Int) by omega)]at c8;have HB:Hid _:=a5;have cN:Hid _:=gT w (.int .i64 (x:Int)) (.int .i64 (y:Int)) 40;have HS:Hid _:=hs;have cH:((l.take y).drop x).length<=l.length:=by simp;omega
 have HF:Hid _:=tF ((l.take y).drop x) c hc;clear a5 hs;go_enter Tryz.func67,Tryz.ntmps67
 go_wp2;go_region_held (fun w'=>w'.cell? ⟨w.heap.size,0,none⟩=some (.int .i64 (x:Int))/\w'.cell? ⟨w.heap.size,1,none⟩=some (.int .i64 (y:Int))/\w'.cell? ⟨b,0,none⟩=some (.int .i64 (l.length:Int))) (go_keep) (first
  | (go_at_call 39;refine(c8.out _).mono ?_;rintro e w' ⟨rfl,hB⟩;have q0:=cell_kept hB ⟨w.heap.size,0,none⟩ (.int .i64 (x:Int)) (by simp);have q1:=cell_kept hB ⟨w.heap.size,1,none⟩ (.int .i64 (y:Int)) (by simp);have q2:=cell_kept hB ⟨b,0,none⟩ (.int .i64 (l.length:Int)) h0))
 have cG:=cell_kept hB ⟨b,1,none⟩ (.slice (some ⟨g,0,none⟩) 16 16) h1;have cA:=(cN.out.drew).below hB;have a9:=chain (HB.out.drew) hB;clear q0 q1 q2 hB h0 h1;go_wp2;go_loopw [8,24] (fun sb sd wr=>∃ d:Nat,d<=16/\sd = .int .i64 d/\sb = .int .i64 ((((l.take y).drop x).filter (fun z=>decide (z / 2 ^ (16-d)<c / 2 ^ (16-d)))).length:Int)/\oP wr w.heap.size (.int .i64 (led 16 l c d x:Int)) (.int .i64 (led 16 l c d y:Int))/\Below w.heap.size w wr) (fun _ sd _=>16-(intOf sd).toNat)
 case atStart=>exact⟨0,aC6 _,rfl,by rw[HF.out];rfl,cA,a9⟩
 case round =>
  clear cG cA a9;obtain⟨d,hd,rfl,rfl,hX,a3⟩:=hrel;by_cases a4:d<16
  ·have b4:=HS.out.below a3;obtain⟨bb,bw,ba,W,b5,a2⟩:=b4.level d a4;have hll:=tO c hc b4.lt hxy hy d (by omega);have cR:(d:Int)<16:=by omega
   have hA:=jA c d hc a4;have k0:=hX.c0;have k1:=hX.c1;have f0:=hX.f0;have f1:=hX.f1;have HX:Hid _:=hX;have bS:Hid _:=a3;have bW:Hid _:=b4;have b6:Hid _:=a2;have hsf:=aE8 (fun z=>decide (z / 2 ^ (16-d)<c / 2 ^ (16-d))) ((l.take y).drop x);generalize hN:(((l.take y).drop x).filter (fun z=>decide (z / 2 ^ (16-d)<c / 2 ^ (16-d)))).length=N0 at hsf ⊢;have HN:Hid (_=N0):=hN;clear hX a3 b4 a2 hN;cases hbit:c.testBit (16-1-d)
   ·rw[hbit]at hA;have cM:Hid _:=pG (s:=(l.take y).drop x) a4 false hbit;have cL:Hid _:=hbit;clear hbit;go_wp2_with fail
    refine(dC bW.out d a4).mono ?_;rintro e w1 ⟨rfl,rfl⟩;go_wp2_with fail
    refine(bD b6.out false _ _ (by omega) (by omega) _ _ rfl rfl).mono ?_;rintro e w1 ⟨rfl,hB⟩;have aE:=HX.out.below hB;have j0:=aE.c0;have j1:=aE.c1;have g0:=aE.f0;have g1:=aE.f1;go_wp2;go_roundw;case rel=>exact⟨d+1,by omega,by go_num,by rw[cM.out,HN.out];rfl,kZ cL.out.symm (aE.set _ _),own2 (chain bS.out hB) (V7 _) _ _⟩
    case measure=>simp[intOf];omega
   ·rw[hbit]at hA;have cF:=pG (s:=(l.take y).drop x) a4 true hbit;rw[if_pos rfl]at cF;have cL:Hid _:=hbit;have hz:=l9 (kP (16-1-d) (sU c (vI l x y hxy hy) hc bW.out.lt d (by omega)) false);rw[aQ,jC,aQ]at hz;simp only[Nat.reduceSub]at hz cF;obtain⟨a8,aL⟩:=hz;have hz3:=aD9 (Nat.le.intro a8.symm) aL;have HZ:Hid _:=a8;have cM:Hid _:=cF;clear hbit a8 cF;go_wp2_with fail
    refine(dC bW.out d a4).mono ?_;rintro e w1 ⟨rfl,rfl⟩;go_wp2_with fail
    refine(bD b6.out false _ _ (by omega) (by omega) _ _ rfl rfl).mono ?_;rintro e w1 ⟨rfl,hB⟩;go_wp2_with fail
    refine(iH _ _ (by omega) (by omega) _).mono ?_;rintro e w2 ⟨rfl,hB2⟩;have a6:=chain hB hB2;have aE:=HX.out.below a6;have j0:=aE.c0;have j1:=aE.c1;go_wp2_with fail
    refine(bD (b6.out.below a6) true _ _ (by omega) (by omega) _ _ rfl rfl).mono ?_;rintro e w3 ⟨rfl,hB4⟩;have aG:=aE.below hB4;have i0:=aG.c0;have i1:=aG.c1;have g0:=aG.f0;have g1:=aG.f1;go_wp2;go_roundw;case rel=>exact⟨d+1,by omega,by go_num,by simp only[cM.out,HN.out];exact FZ HZ.out,kZ cL.out.symm (aG.set _ _),own2 (chain (chain bS.out a6) hB4) (V7 _) _ _⟩
    case measure=>simp[intOf];omega
  ·obtain rfl:d=16:=by omega
   have HL:Hid _:=yZ l x y c;rw[HL.out];go_wp2;go_ret2;exact⟨rfl,a3⟩
end Go.Proofs.YtphjbbbnbmafnaaGreatDoor.S16
namespace Go.Proofs.YtphjbbbnbmafnaaGreatDoor.S16
open Go.RowKit
variable {l s:List Nat} {A P Z d k kd x y:Nat}
structure Left (l s:List Nat) (k d P kd A Z:Nat):Prop where
 seg:Seg (lev 16 l d) A Z (s.filter (fun z=>z / 2 ^ (16-d) == P))
 sum:(s.filter (fun z=>decide (z / 2 ^ (16-d)<P))).length+kd=k
 has:kd<(s.filter (fun z=>z / 2 ^ (16-d) == P)).length
 lt:P<2 ^ d
theorem Left.len(h:Left l s k d P kd A Z):A<=Z/\Z<=l.length:=by
 have:=l9 h.seg;rw[aQ]at this;omega
theorem qN(hl:∀ z∈l,z<2 ^ 16)(hxy:x<=y)(hy:y<=l.length)(hk:k<y-x):Left l ((l.take y).drop x) k 0 0 k x y:=by
 have e:((l.take y).drop x).filter (fun z=>z / 2 ^ (16-0) == 0)=(l.take y).drop x:=by
  rw[List.filter_eq_self];intro z hz;rw[Nat.sub_zero,Nat.div_eq_of_lt (hl z (List.mem_of_mem_take (List.mem_of_mem_drop hz)))];rfl
 refine⟨?_,?_,?_,by decide⟩
 ·rw[e];exact vI l x y hxy hy
 ·simp
 ·rw[e];simp;omega
theorem qG(h:Left l s k d P kd A Z):
 down (fU (lev 16 l d) (16-1-d)) l.length false Z=down (fU (lev 16 l d) (16-1-d)) l.length false A+((s.filter (fun z=>z / 2 ^ (16-d) == P)).filter (fun z=>z.testBit (16-1-d) == false)).length/\down (fU (lev 16 l d) (16-1-d)) l.length false Z<=l.length:=by
 have:=l9 (kP (16-1-d) h.seg false);rw[aQ,jC,aQ]at this;exact this
theorem lU(hd:d<16)(h:Left l s k d P kd A Z)(o:Bool)(kd':Nat)
 (ho:(o=false/\kd'=kd/\kd<((s.filter (fun z=>z / 2 ^ (16-d) == P)).filter (fun z=>z.testBit (16-1-d) == false)).length) \/
  (o=true/\kd=kd'+((s.filter (fun z=>z / 2 ^ (16-d) == P)).filter (fun z=>z.testBit (16-1-d) == false)).length)) :
 Left l s k (d+1) (2*P+o.toNat) kd' (down (fU (lev 16 l d) (16-1-d)) l.length o A) (down (fU (lev 16 l d) (16-1-d)) l.length o Z):=by
 have e1:16-(d+1)=16-1-d:=by omega
 have e2:16-d=16-1-d+1:=by omega
 have h1:=kP (16-1-d) h.seg o;have h2:=nE s P (16-1-d) o;have h3:=fD (16-1-d) (s.filter (fun z=>z / 2 ^ (16-d) == P));have h4:=h.sum;have h5:=h.has;have h6:=oK s P (16-1-d) o;rw[<-e2]at h2 h6;rw[h6,aQ]at h1;refine⟨by rw[e1];exact h1,?_,?_,?_⟩
 ·rw[e1,h2];rcases ho with ⟨rfl,rfl,_⟩ | ⟨rfl,e⟩
  ·simpa using h4
  ·rw[if_pos rfl];omega
 ·rw[e1,<-h6];rcases ho with ⟨rfl,rfl,e⟩ | ⟨rfl,e⟩
  ·exact e
  ·omega
 ·have:=h.lt;have:=Bool.toNat_le o;rw[Nat.pow_succ];omega
theorem uD(h:Left l ((l.take y).drop x) k 16 P kd A Z):bel l x y P<=k/\k<bel l x y P+eqn l x y P/\P<2 ^ 16:=by
 have h1:=h.sum;have h2:=h.has;simp only[aJ1,Nat.pow_zero,Nat.div_one]at h1 h2;unfold bel eqn;exact⟨by omega,by omega,h.lt⟩
theorem FY(P:Nat):acc 16 16 P=(P:Int):=by unfold acc;simp
theorem vH{w:World}{b g:Nat}(hs:bB 16 w b g l)(x y k:Nat)(hxy:x<=y)(hy:y<=l.length)(hk:k<y-x):
 Calls Tryz.prog 125 #[.pointer (some ⟨b,0,none⟩),.agg #[.int .i64 (x:Int),.int .i64 (y:Int)],.int .i64 (k:Int)] w fun e w'=>∃ c:Nat,e = .returned (.tuple #[.int .u16 (c:Int),.int .i64 0])/\(bel l x y c<=k/\k<bel l x y c+eqn l x y c/\c<2 ^ 16)/\Below w.heap.size w w':=by
 have a5:Below w.heap.size w (w.alloc (.cells #[.int .i64 (x:Int),.int .i64 (y:Int)] 40)):=(YQ _ _).alloc (V7 _) _;have h0:=(hs.below a5).len;have h1:=(hs.below a5).levels;have hn:=hs.hn;have c8:Hid (∀ w2,Calls Tryz.prog 39 _ w2 _):=fun w2=>bO (x:Int) (y:Int) (l.length:Int) w2;rw[decide_eq_true (show(0:Int)<=(x:Int)/\(x:Int)<=(y:Int)/\(y:Int)<=(l.length:Int) by omega)]at c8;have HB:Hid _:=a5;have cN:Hid _:=gT w (.int .i64 (x:Int)) (.int .i64 (y:Int)) 40;have HS:Hid _:=hs;have hk1:¬(y:Int)-(x:Int)<=(k:Int):=by omega
 clear a5 hs;go_enter Tryz.func125,Tryz.ntmps125
 go_wp2;have hkd:decide ((k:Int)<0)=false:=decide_eq_false (by omega);go_region_held (fun w'=>w'.cell? ⟨w.heap.size,0,none⟩=some (.int .i64 (x:Int))/\w'.cell? ⟨w.heap.size,1,none⟩=some (.int .i64 (y:Int))/\w'.cell? ⟨b,0,none⟩=some (.int .i64 (l.length:Int))) (go_keep) (first
  | (go_at_call 39;refine(c8.out _).mono ?_;rintro e w' ⟨rfl,hB⟩;have q0:=cell_kept hB ⟨w.heap.size,0,none⟩ (.int .i64 (x:Int)) (by simp);have q1:=cell_kept hB ⟨w.heap.size,1,none⟩ (.int .i64 (y:Int)) (by simp);have q2:=cell_kept hB ⟨b,0,none⟩ (.int .i64 (l.length:Int)) h0)
  | (go_at_call 73;refine(iH _ _ ?_ ?_ _).mono ?_;omega;omega;rintro e w2 ⟨rfl,hB2⟩;have r0:=cell_kept hB2 ⟨w.heap.size,0,none⟩ (.int .i64 (x:Int)) q0;have r1:=cell_kept hB2 ⟨w.heap.size,1,none⟩ (.int .i64 (y:Int)) q1;have r2:=cell_kept hB2 ⟨b,0,none⟩ (.int .i64 (l.length:Int)) q2))
 have a6:=chain hB hB2;have cG:=cell_kept a6 ⟨b,1,none⟩ (.slice (some ⟨g,0,none⟩) 16 16) h1;have cA:=(cN.out.drew).below a6;have a9:=chain (HB.out.drew) a6;have cE:Hid _:=qN HS.out.lt hxy hy hk;clear q0 q1 q2 r0 r1 r2 hB hB2 a6 h0 h1 hkd;go_wp2;go_loopw [2,8,35] (fun sk sc sd wr=>∃ d P kd A Z:Nat,d<=16/\sd = .int .i64 d/\sk = .int .i64 (kd:Int)/\sc = .int .u16 (acc 16 d P)/\Hid (Left l ((l.take y).drop x) k d P kd A Z)/\oP wr w.heap.size (.int .i64 (A:Int)) (.int .i64 (Z:Int))/\Below w.heap.size w wr) (fun _ _ sd _=>16-(intOf sd).toNat)
 case atStart=>exact⟨0,0,k,x,y,aC6 _,rfl,rfl,by unfold acc;simp,cE.out,cA,a9⟩
 case round =>
  clear cG cA a9;obtain⟨d,P,kd,A,Z,hd,rfl,rfl,rfl,HL,hX,a3⟩:=hrel;by_cases a4:d<16
  ·have b4:=HS.out.below a3;obtain⟨bb,bw,ba,W,b5,a2⟩:=b4.level d a4;obtain⟨hA,hZ⟩:=HL.out.len;obtain⟨a8,aL⟩:=qG HL.out;have hkd:kd<y:=by have:=HL.out.sum;omega
   have cR:(d:Int)<16:=by omega
   have cG:=b4.levels;generalize hm:((((l.take y).drop x).filter (fun z=>z / 2 ^ (16-d) == P)).filter (fun z=>z.testBit (16-1-d) == false)).length=m at a8;have HM:Hid (_=m):=hm;simp only[Nat.reduceSub]at a8 aL;have hz3:=aD9 (Nat.le.intro a8.symm) aL;have cJ:(down (fU (lev 16 l d) (16-1-d)) l.length false Z:Int)-(down (fU (lev 16 l d) (16-1-d)) l.length false A:Int)=(m:Int):=by simp only[Nat.reduceSub];omega
   simp only[Nat.reduceSub]at cJ;have k0:=hX.c0;have k1:=hX.c1;have HX:Hid _:=hX;have bS:Hid _:=a3;have bW:Hid _:=b4;have b6:Hid _:=a2;have b9:∀ w2,Calls Tryz.prog 73 #[.agg #[.int .i64 (down (fU (lev 16 l d) (16-1-d)) l.length false A:Int),.int .i64 (down (fU (lev 16 l d) (16-1-d)) l.length false Z:Int)]] w2 fun e w'=>e = .returned (.int .i64 (m:Int))/\Below w2.heap.size w2 w':=fun w2=>by
    have:=iH (down (fU (lev 16 l d) (16-1-d)) l.length false A:Int) (down (fU (lev 16 l d) (16-1-d)) l.length false Z:Int) (by simp only[Nat.reduceSub];omega) (by simp only[Nat.reduceSub];omega) w2;simp only[Nat.reduceSub]at this cJ ⊢;rw[cJ]at this;exact this
   have HLG:Hid (∀ w2,Calls Tryz.prog 73 _ w2 _):=b9;have hmb:m<=l.length:=by omega
   clear hX a3 b4 a2 hm a8 cJ b9 aL hz3;by_cases hkm:m<=kd
   ·have HO:Hid _:=or_bit a4 HL.out.lt;have cS:(m:Int)<=(kd:Int):=by omega
    go_wp2_with fail
    refine(bD b6.out false _ _ (by omega) hZ _ _ rfl rfl).mono ?_;rintro e w1 ⟨rfl,hB⟩;go_wp2_with fail
    refine(HLG.out _).mono ?_;rintro e w2 ⟨rfl,hB2⟩;have a6:=chain hB hB2;have aE:=HX.out.below a6;have j0:=aE.c0;have j1:=aE.c1;go_wp2_with fail
    refine(dC (bW.out.below a6) d a4).mono ?_;rintro e w3 ⟨rfl,rfl⟩;go_wp2_with fail
    refine(bD (b6.out.below a6) true _ _ (by omega) hZ _ _ rfl rfl).mono ?_;rintro e w3 ⟨rfl,hB4⟩;have aG:=aE.below hB4;have i0:=aG.c0;have i1:=aG.c1;have g0:=aG.f0;have g1:=aG.f1;go_wp2;go_roundw;case rel=>exact⟨d+1,2*P+1,kd-m,_,_,by omega,by go_num,by rw[show((kd-m:Nat):Int)=(kd:Int)-(m:Int) by omega],by rw[HO.out],lU a4 HL.out true (kd-m) (.inr ⟨rfl,by rw[HM.out];omega⟩),aG.set _ _,own2 (chain (chain bS.out a6) hB4) (V7 _) _ _⟩
    case measure=>simp[intOf];omega
   ·have HO:Hid _:=sG (P:=P) a4;have cS:¬(m:Int)<=(kd:Int):=by omega
    go_wp2_with fail
    refine(bD b6.out false _ _ (by omega) hZ _ _ rfl rfl).mono ?_;rintro e w1 ⟨rfl,hB⟩;go_wp2_with fail
    refine(HLG.out _).mono ?_;rintro e w2 ⟨rfl,hB2⟩;have a6:=chain hB hB2;have aE:=HX.out.below a6;have j0:=aE.c0;have j1:=aE.c1;go_wp2_with fail
    refine(bD (b6.out.below a6) false _ _ (by omega) hZ _ _ rfl rfl).mono ?_;rintro e w3 ⟨rfl,hB4⟩;have aG:=aE.below hB4;have i0:=aG.c0;have i1:=aG.c1;have g0:=aG.f0;have g1:=aG.f1;go_wp2;go_roundw;case rel=>exact⟨d+1,2*P,kd,_,_,by omega,by go_num,rfl,by rw[HO.out],lU a4 HL.out false kd (.inl ⟨rfl,rfl,by rw[HM.out];omega⟩),aG.set _ _,own2 (chain (chain bS.out a6) hB4) (V7 _) _ _⟩
    case measure=>simp[intOf];omega
  ·obtain rfl:d=16:=by omega
   have HE:Hid _:=FY P;have HF:Hid _:=uD HL.out;rw[HE.out];go_wp2;go_ret2;exact⟨P,rfl,HF.out,a3⟩
end Go.Proofs.YtphjbbbnbmafnaaGreatDoor.S16
namespace Go.Proofs.YtphjbbbnbmafnaaGreatDoor.S16
open Go.RowKit
variable {l:List Nat} {h k x:Nat} {w:World} {v:Value}
theorem Tryz.infoW:(Tryz.prog.info? 121).map (fun i=>(i.zero,i.size,i.bytes))=some (some (.int .u16 0),1,16 / 8):=by kernel_rfl
theorem xW(hx:l[k]?=some x):fU l h k=x.testBit h:=qI hx
theorem EU(hl:∀ x∈l,x<2 ^ 16)(hx:l[k]?=some x):x<2 ^ 16:=hl x (aC3 hx)
theorem GG(hv:bA .u16 w v l)(hl:∀ x∈l,x<2 ^ 16)(hn:l.length<=100000)(d:Nat)(hd:d<16):
 Calls Tryz.prog 157 #[v,.int .u16 (kN 16 d)] w fun e w'=>∃ b bw ba W,e = .returned (.pointer (some ⟨b,0,none⟩))/\aT w' b bw ba (fU l (16-1-d)) l.length W/\Below w.heap.size w w':=by
 obtain⟨a0,cap,rfl,hc⟩:=hv.open;have HC:Hid _:=hc;have HL:Hid _:=hl;clear hc hv hl;obtain⟨i0,hi,b8,a8,aL⟩:=info_parts Tryz.info133;go_enter Tryz.func157,Tryz.ntmps157
 go_wp2_with (at_make;refine wpList_make_full _ rfl _ _ 242 rfl w.heap.size 133 i0 (.int .u64 0) 1 Tryz.underlying242 hi b8 a8 _ _ _ _ (l.length / 64+1) rfl rfl (by omega) (by omega) (by rw[aL];omega) (by unfold maxLen;omega) (V7 _) ?_;intro w1 a1 hgrow)
 have a9:Below w.heap.size w w1:=(YQ _ _).grown hgrow (V7 _) (fun k hk=>by cases hk);have cC:=nT (fU l (16-1-d)) (l.length / 64+1);generalize (madeCells (Value.int IntKind.u64 0).cells ((l.length / 64+1)*1)).toList=xs0 at a1 cC;clear hgrow;go_loopw [15] (fun c wr=>RelW (fU l (16-1-d)) l.length w c wr) (fun c _=>l.length-(intOf c).toNat)
 case atStart=>exact⟨0,xs0,aC6 _,rfl,a1,a9,cC⟩
 case round =>
  clear a1 cC a9;obtain⟨k,xs,hk,rfl,a1,a3,cI⟩:=hrel;have HO:Hid _:=a1;have HW:Hid _:=cI;have HB:Hid _:=a3;by_cases a4:k<l.length
  ·obtain⟨X,b5,hfr,HX⟩:=DF a4 a1 cI;obtain⟨x,hx⟩:=jI a4;obtain⟨g,off,rfl,b7⟩:=HC.out k x hx;have cD:=cell_kept a3 _ _ b7;have hA:=jA x d (EU HL.out hx) hd;have HF:Hid _:=xW (h:=16-1-d) hx;clear a1 cI a3 b7 hx;have hk1:(k:Int) / 64<((l.length / 64+1:Nat):Int):=by omega
   have hk2:(k:Int) / 64<(l.length:Int) / 64+1:=by omega
   have hk3:(k:Int)<(l.length:Int):=by omega
   cases hbit:x.testBit (16-1-d)
   ·rw[hbit]at hA HF;clear hbit;go_wp2;go_roundw;case rel=>exact⟨k+1,xs,by omega,by go_num,HO.out,HB.out,qD HW.out HF.out⟩
    case measure=>simp[intOf];omega
   ·rw[hbit]at hA HF;clear hbit;go_wp2;go_region;go_wp2;go_roundw;case rel=>exact IE a4 HF.out HO.out HW.out HB.out HX.out
    case measure=>simp[intOf];omega
  ·obtain rfl:k=l.length:=by omega
   clear a1 cI a3;go_wp2_with (go_at_call 151;refine(WW hn (JS l _) HO.out HW.out).mono ?_;rintro e w' ⟨b,ba,rfl,a2,a5⟩)
   go_ret;exact⟨b,_,ba,_,rfl,a2,HB.out.trans (a5.mono HB.out.size)⟩
theorem GA(c d:Nat)(hc:c<2 ^ 16)(hd:d<16):(bits .and .u16 (c:Int) (kN 16 d) == 0)=(c.testBit (16-1-d) == false):=by
 have h:=jA c d hc hd;rw[bne]at h;rw[<-h];cases (bits .and .u16 (c:Int) (kN 16 d) == 0) <;> rfl
theorem EX(c d:Nat)(hc:c<2 ^ 16)(hd:d<16):(bits .and .u16 (c:Int) (kN 16 d) == kN 16 d)=(c.testBit (16-1-d) == true):=by
 unfold kN;rw[u16_and_nat c _ hc (aH7 (by decide) (show 16-1-d<16 by omega))];have hp:0<2 ^ (16-1-d):=Nat.two_pow_pos _;have e:c &&& 2 ^ (16-1-d)=(c.testBit (16-1-d)).toNat*2 ^ (16-1-d):=by
  rw[nat_bit,aJ0];have:c / 2 ^ (16-1-d) % 2<2:=Nat.mod_lt _ (by decide);rcases(show c / 2 ^ (16-1-d) % 2=0\/c / 2 ^ (16-1-d) % 2=1 by omega)with e | e <;> rw[e] <;> simp
 rw[e];generalize 2 ^ (16-1-d)=m at *;cases c.testBit (16-1-d)
 ·simp;omega
 ·simp
def fB(l:List Nat)(h:Nat)(s:Bool)(k:Nat):List Nat:=(if s then l.filter (fun x=>x.testBit h == false)else [])++(l.take k).filter (fun x=>x.testBit h == s)
theorem kM{s:Bool}(hx:l[k]?=some x):fB l h s (k+1)=fB l h s k++(if x.testBit h == s then [x]else []):=by
 unfold fB;rw[aE0,hx,aF7,<-aD3];congr 1;simp only[aH4,aG8,List.filter_nil]
theorem lY(l:List Nat)(h:Nat)(s:Bool)(k:Nat):(fB l h s k).length<=2*l.length:=by
 unfold fB;rw[WT];have h1:=aE8 (fun x=>x.testBit h == false) l;have h2:=aE8 (fun x=>x.testBit h == s) (l.take k);have h3:(l.take k).length<=l.length:=by simp;omega
 cases s
 ·simp only[aG7,if_false,aI3];omega
 ·simp only[if_true];omega
theorem qW(l:List Nat)(h:Nat):fB l h false l.length=fB l h true 0:=by unfold fB;simp
theorem uF(l:List Nat)(h:Nat):fB l h true l.length=part h l:=by unfold fB part;simp
theorem oG(l:List Nat)(h:Nat):fB l h false 0=[]:=by unfold fB;simp
def stage(l:List Nat)(h s:Nat):List Nat:=if s=0 then []else if s=1 then fB l h true 0 else part h l
def AX(w wr:World)(v:Value)(l:List Nat):Prop:=wr.ownsRow w.heap.size 121 1 v l.length (vals .u16 l)/\Below w.heap.size w wr
theorem kY{wr w2:World}{v':Value}{o:Obj}(h:AX w wr v l)(a1:w2.ownsRow w.heap.size 121 1 v' (l.length+1) (vals .u16 l++[.int .u16 (x:Int)]))(hg:(wr.alloc o).grownBy w2 v.ownBlock):AX w w2 v' (l++[x]):=by
 refine⟨by rw[pU,WT];exact a1,?_⟩;exact(h.2.alloc h.2.size o).grown hg (by have:=h.2.size;simp;omega) (fun j hj=>(h.1.lt j hj).1)
theorem OD(hv:bA .u16 w v l)(hl:∀ x∈l,x<2 ^ 16)(hn:l.length<=100000)(d:Nat)(hd:d<16):
 Calls Tryz.prog 158 #[v,.int .u16 (kN 16 d)] w fun e w'=>∃ v',e = .returned v'/\bA .u16 w' v' (part (16-1-d) l)/\Below w.heap.size w w':=by
 obtain⟨a0,cap,rfl,hc⟩:=hv.open;have HC:Hid _:=hc;have HL:Hid _:=hl;clear hc hv hl;obtain⟨i0,hi,b8,a8,aL⟩:=info_parts Tryz.infoW;have x0:∀ w,(Instr.index 281 (.agg #[.int .u16 0,.int .u16 (kN 16 d)]) (.int .i64 0)).run Tryz.prog w = .ok (.int .u16 0) w:=fun _=>by kernel_rfl
 have x1:∀ w,(Instr.index 281 (.agg #[.int .u16 0,.int .u16 (kN 16 d)]) (.int .i64 1)).run Tryz.prog w = .ok (.int .u16 (kN 16 d)) w:=fun _=>by kernel_rfl
 go_enter Tryz.func158,Tryz.ntmps158
 go_wp2_with (at_make;refine wpList_make_own _ rfl _ _ 203 rfl w.heap.size 121 i0 (.int .u16 0) 1 Tryz.underlying203 hi b8 a8 _ _ _ l.length rfl rfl (by omega) (by rw[aL];omega) (by unfold maxLen;omega) (V7 _) ?_;intro w1 a1 hgrow)
 have a9:Below w.heap.size w w1:=(YQ _ _).grown hgrow (V7 _) (fun k hk=>by cases hk);clear hgrow;go_loopw [5,15] (fun v c wr=>∃ s:Nat,s<=2/\c = .int .i64 s/\AX w wr v (stage l (16-1-d) s)) (fun _ c _=>2-(intOf c).toNat)
 case atStart=>exact⟨0,aC6 _,rfl,a1,a9⟩
 case round =>
  clear a1 a9;obtain⟨s,hs,rfl,a1⟩:=hrel;rcases(show s=0\/s=1\/s=2 by omega)with rfl | rfl | rfl
  ·have bX:Hid _:=a1;rw[show((0:Nat):Int)=0 from rfl];go_wp2;go_loopw [5,20] (fun v c wr=>∃ k:Nat,k<=l.length/\c = .int .i64 k/\AX w wr v (fB l (16-1-d) false k)) (fun _ c _=>l.length-(intOf c).toNat)
   case atStart=>exact⟨0,aC6 _,rfl,by rw[oG];exact bX.out⟩
   case round =>
    clear a1;obtain⟨k,hk,rfl,a1⟩:=hrel;by_cases a4:k<l.length
    ·obtain⟨x,hx⟩:=jI a4;obtain⟨g,off,rfl,b7⟩:=HC.out k x hx;have cD:=cell_kept a1.2 _ _ b7;have hA:=GA x d (EU HL.out hx) hd;have hN:=kM (h:=16-1-d) (s:=false) hx;have hk3:(k:Int)<(l.length:Int):=by omega
     have cH:=lY l (16-1-d) false k;cases hbit:(x.testBit (16-1-d) == false)
     ·rw[hbit]at hA hN;rw[if_neg (by decide),aE4]at hN;have HN:Hid _:=hN;have HO:Hid _:=a1;clear hbit hN hx b7 a1 cH;go_wp2;go_roundw;case rel=>exact⟨k+1,by omega,by go_num,by rw[HN.out];exact HO.out⟩
      case measure=>simp[intOf];omega
     ·rw[hbit]at hA hN;rw[if_pos rfl]at hN;have HN:Hid _:=hN;have HO:Hid _:=a1;have a7:=a1.1;have hsz:=a1.2.size;clear hbit hN hx b7 a1;go_wp2_with (at_builtin;refine wpList_append_own _ rfl _ _ 203 rfl w.heap.size 121 i0 (.int .u16 0) 1 (16 / 8) Tryz.underlying203 hi b8 a8 aL rfl (by decide) _ _ _ rfl (a7.alloc _) ⟨wr.heap.size,0,none⟩ 1 1 [.int .u16 (x:Int)] rfl rfl ?c1 ?c2 ?c3 ?c4 ?c5 ?_)
      case c1 =>
       intro j u hj
       match j,hj with
       | 0,hj=>simp at hj;subst hj;simp[Addr.add]
      case c2=>intro u hu;simp at hu;subst hu;rfl
      case c3=>unfold maxLen;omega
      case c4=>omega
      case c5=>simp;omega
      intro v' w2 hown' hgrow _;have c7:Hid _:=kY HO.out hown' hgrow;clear hown' hgrow a7;go_wp2;go_roundw;case rel=>exact⟨k+1,by omega,by go_num,by rw[HN.out];exact c7.out⟩
      case measure=>simp[intOf];omega
    ·obtain rfl:k=l.length:=by omega
     have HO:Hid _:=a1;clear a1;go_wp2;go_roundw;case rel=>exact⟨1,by omega,by go_num,by rw[qW]at HO;exact HO.out⟩
     case measure=>simp[intOf]
  ·have bX:Hid _:=a1;rw[show((1:Nat):Int)=1 from rfl];go_wp2;go_loopw [5,20] (fun v c wr=>∃ k:Nat,k<=l.length/\c = .int .i64 k/\AX w wr v (fB l (16-1-d) true k)) (fun _ c _=>l.length-(intOf c).toNat)
   case atStart=>exact⟨0,aC6 _,rfl,bX.out⟩
   case round =>
    clear a1;obtain⟨k,hk,rfl,a1⟩:=hrel;by_cases a4:k<l.length
    ·obtain⟨x,hx⟩:=jI a4;obtain⟨g,off,rfl,b7⟩:=HC.out k x hx;have cD:=cell_kept a1.2 _ _ b7;have hA:=EX x d (EU HL.out hx) hd;have hN:=kM (h:=16-1-d) (s:=true) hx;have hk3:(k:Int)<(l.length:Int):=by omega
     have cH:=lY l (16-1-d) true k;cases hbit:(x.testBit (16-1-d) == true)
     ·rw[hbit]at hA hN;rw[if_neg (by decide),aE4]at hN;have HN:Hid _:=hN;have HO:Hid _:=a1;clear hbit hN hx b7 a1 cH;go_wp2;go_roundw;case rel=>exact⟨k+1,by omega,by go_num,by rw[HN.out];exact HO.out⟩
      case measure=>simp[intOf];omega
     ·rw[hbit]at hA hN;rw[if_pos rfl]at hN;have HN:Hid _:=hN;have HO:Hid _:=a1;have a7:=a1.1;have hsz:=a1.2.size;clear hbit hN hx b7 a1;go_wp2_with (at_builtin;refine wpList_append_own _ rfl _ _ 203 rfl w.heap.size 121 i0 (.int .u16 0) 1 (16 / 8) Tryz.underlying203 hi b8 a8 aL rfl (by decide) _ _ _ rfl (a7.alloc _) ⟨wr.heap.size,0,none⟩ 1 1 [.int .u16 (x:Int)] rfl rfl ?c1 ?c2 ?c3 ?c4 ?c5 ?_)
      case c1 =>
       intro j u hj
       match j,hj with
       | 0,hj=>simp at hj;subst hj;simp[Addr.add]
      case c2=>intro u hu;simp at hu;subst hu;rfl
      case c3=>unfold maxLen;omega
      case c4=>omega
      case c5=>simp;omega
      intro v' w2 hown' hgrow _;have c7:Hid _:=kY HO.out hown' hgrow;clear hown' hgrow a7;go_wp2;go_roundw;case rel=>exact⟨k+1,by omega,by go_num,by rw[HN.out];exact c7.out⟩
      case measure=>simp[intOf];omega
    ·obtain rfl:k=l.length:=by omega
     have HO:Hid _:=a1;clear a1;go_wp2;go_roundw;case rel=>exact⟨2,by omega,by go_num,by rw[uF]at HO;exact HO.out⟩
     case measure=>simp[intOf]
  ·have HO:Hid _:=a1;clear a1;go_wp2;go_ret;exact⟨_,rfl,mQ HO.out.1,HO.out.2⟩
end Go.Proofs.YtphjbbbnbmafnaaGreatDoor.S16
namespace Go.Proofs.YtphjbbbnbmafnaaGreatDoor.S16
open Go.RowKit
variable {w w' w2 wr:World} {b ba bw d g n:Nat} {W:Nat->Nat} {v:Value} {l:List Nat}
theorem Tryz.infoP:(Tryz.prog.info? 79).map (fun i=>(i.zero,i.size,i.bytes))=some (some (.pointer none),1,8):=by kernel_rfl
theorem vD{q0:Option Addr}(h:w.cell? ⟨g,d,none⟩=some (.pointer q0))(u:Value)(p:Addr)(v:Value)(hp:w.cell? p=some v)(hv:∀ q,v≠.pointer q):(w.setCell ⟨g,d,none⟩ u).cell? p=some v:=by
 rw[aI9 w ⟨g,d,none⟩ p u (fun e=>by subst e;rw[h]at hp;cases hp;exact hv _ rfl)];exact hp
theorem tZ{f:Nat->Bool}(hb:aT w b bw ba f n W)(h:∀ p v,w.cell? p=some v->(∀ q,v≠.pointer q)->w'.cell? p=some v):aT w' b bw ba f n W :=
 ⟨hb.hn,h _ _ hb.len (by simp),h _ _ hb.ones (by simp),h _ _ hb.words (by simp),h _ _ hb.ahead (by simp),fun j hj=>h _ _ (hb.word j hj) (by simp),fun j hj=>h _ _ (hb.ahd j hj) (by simp),hb.wlt,hb.wbit,hb.out⟩
theorem F5{K:IntKind}(h:bA K w v l)(hk:∀ p v,w.cell? p=some v->(∀ q,v≠.pointer q)->w'.cell? p=some v):bA K w' v l:=by
 obtain⟨a0,cap,hv,h⟩:=h;refine⟨a0,cap,hv,?_⟩;rcases h with h | ⟨g,off,hg,hc⟩
 ·exact .inl h
 ·exact .inr ⟨g,off,hg,fun j x hj=>hk _ _ (hc j x hj) (by simp)⟩
theorem own_below{B:Nat}{e:TypeId}{xs:List Value}(h:w.ownsRow B e 1 v n xs)(hB:Below w.heap.size w w'):w'.ownsRow B e 1 v n xs:=by
 refine⟨h.1,?_⟩;rcases h.2 with h0 | ⟨g,cap,cur,hv,hb,hg,r⟩
 ·exact .inl h0
 ·refine .inr ⟨g,cap,cur,hv,hb,?_,r⟩;rw[hB.block g (by
   rcases aG5 g w.heap.size with h | h
   ·exact h
   ·rw[Array.getElem?_eq_none h]at hg;cases hg)]
  exact hg
structure bV (w wr:World) (l:List Nat) (g b:Nat) (d:Nat) (v:Value):Prop where
 bel:Below w.heap.size w wr
 len:wr.cell? ⟨b,0,none⟩=some (.int .i64 (l.length:Int))
 levels:wr.cell? ⟨b,1,none⟩=some (.slice (some ⟨g,0,none⟩) 16 16)
 nums:bA .u16 wr v (lev 16 l d)
 row:∃ xs,wr.ownsRow w.heap.size 79 1 (.slice (some ⟨g,0,none⟩) 16 16) 16 xs/\(∀ j,j<16->∃ q,xs[j]?=some (.pointer q)) /\
  ∀ j,j<d->∃ bb bw ba W,xs[j]?=some (.pointer (some ⟨bb,0,none⟩))/\aT wr bb bw ba (fU (lev 16 l j) (16-1-j)) l.length W
theorem bV.cell(h:bV w wr l g b d v)(hd:d<16):∃ q,wr.cell? ⟨g,d,none⟩=some (.pointer q)/\wr.frozen? ⟨g,d,none⟩=false:=by
 obtain⟨xs,h1,h2,_⟩:=h.row;obtain⟨q,hq⟩:=h2 d hd;exact⟨q,(h1.cellAt d (by omega)).trans hq,h1.frozenAt d⟩
theorem bV.below(h:bV w wr l g b d v)(hB:Below wr.heap.size wr w2):bV w w2 l g b d v:=by
 refine⟨chain h.bel hB,cell_kept hB _ _ h.len,cell_kept hB _ _ h.levels,h.nums.below hB,?_⟩;obtain⟨xs,h1,h2,h3⟩:=h.row;refine⟨xs,own_below h1 hB,h2,fun j hj => ?_⟩;obtain⟨bb,bw,ba,W,h4,h5⟩:=h3 j hj;exact⟨bb,bw,ba,W,h4,h5.below hB⟩
theorem bV.stored(h:bV w wr l g b d v)(hd:d<16)(hg:w.heap.size<=g){bb:Nat}(hb:aT wr bb bw ba (fU (lev 16 l d) (16-1-d)) l.length W){v2:Value}
 (hB:Below (wr.setCell ⟨g,d,none⟩ (.pointer (some ⟨bb,0,none⟩))).heap.size (wr.setCell ⟨g,d,none⟩ (.pointer (some ⟨bb,0,none⟩))) w2) (hv2:bA .u16 w2 v2 (lev 16 l (d+1))):bV w w2 l g b (d+1) v2:=by
 obtain⟨q,hq,_⟩:=h.cell hd;have hk:=vD hq (.pointer (some ⟨bb,0,none⟩));obtain⟨xs,h1,h2,h3⟩:=h.row;have cC:=(h1.stored d (.pointer (some ⟨bb,0,none⟩))).1;have hxl:xs.length=16:=by have:=h1.1;omega
 refine⟨chain (h.bel.setCell (p:=⟨g,d,none⟩) hg _) hB,cell_kept hB _ _ (hk _ _ h.len (by simp)),cell_kept hB _ _ (hk _ _ h.levels (by simp)),hv2,xs.set d (.pointer (some ⟨bb,0,none⟩)),own_below cC hB,?_,?_⟩
 ·intro j hj;by_cases e:j=d
  ·subst e;exact⟨_,aE5 (by omega)⟩
  ·rw[aF4 (by omega)];exact h2 j hj
 ·intro j hj;by_cases e:j=d
  ·subst e;exact⟨bb,bw,ba,W,aE5 (by omega),(tZ hb hk).below hB⟩
  ·rw[aF4 (by omega)];obtain⟨b1,b2,b3,W1,h4,h5⟩:=h3 j (by omega);exact⟨b1,b2,b3,W1,h4,(tZ h5 hk).below hB⟩
theorem bV.done(h:bV w wr l g b 16 v)(hn:l.length<=100000)(hl:∀ x∈l,x<2 ^ 16):bB 16 wr b g l:=by
 obtain⟨xs,h1,_,h3⟩:=h.row;refine⟨hn,hl,h.len,h.levels,fun d hd => ?_⟩;obtain⟨bb,bw,ba,W,h4,h5⟩:=h3 d hd;exact⟨bb,bw,ba,W,(h1.cellAt d (by omega)).trans h4,h5⟩
theorem sM(h1:w.cell? ⟨b,1,none⟩=some (.slice (some ⟨g,0,none⟩) 16 16))(d:Nat)(hd:d<16):
 Calls Tryz.prog 118 #[.pointer (some ⟨b,0,none⟩),.int .i64 (d:Int)] w fun e w'=>e = .returned (.int .u16 (kN 16 d))/\w'=w:=by
 go_enter Tryz.func118,Tryz.ntmps118
 go_wp2;go_ret;refine⟨iN ?_,rfl⟩;have hp:2 ^ (16-1-d)<2 ^ 16:=aH7 (by decide) (by omega);unfold kN;rw[<-gD];try rw[IntKind.wrap_u16]
 simp only[Nat.reducePow,Nat.reduceSub]at hp ⊢;generalize 2 ^ _=m at *;omega
theorem sK(w:World):Calls Tryz.prog 152 #[.int .u16 65535] w fun e w'=>e = .returned (.int .i64 16)/\w'=w:=by
 go_enter Tryz.func152,Tryz.ntmps152
 go_wp2;go_ret;exact⟨by kernel_rfl,rfl⟩
theorem xS(j:Nat)(hj:j<16):∃ q,(madeCells (Value.pointer none).cells (16*1)).toList[j]?=some (.pointer q):=by
 refine⟨none,?_⟩;show(madeCells #[Value.pointer none] (16*1)).toList[j]?=_;rw[toList_madeCells_one,aE9,if_pos (by omega)]
theorem newseq_any(hv:bA .u16 w v l)(hl:∀ x∈l,x<2 ^ 16)(hn:l.length<=100000):
 Calls Tryz.prog 107 #[v] w fun e w'=>∃ b g,e = .returned (.tuple #[.pointer (some ⟨b,0,none⟩),.int .i64 0])/\bB 16 w' b g l/\Below w.heap.size w w':=by
 obtain⟨a0,cap,rfl,cB⟩:=hv.open;clear cB;have HV:Hid (bA .u16 w (.slice a0 l.length cap) l):=hv;have HL:Hid _:=hl;clear hv hl;obtain⟨i0,hi,b8,a8,aL⟩:=info_parts Tryz.infoP;go_enter Tryz.func107,Tryz.ntmps107
 go_wp2_with fail
 refine(sK _).mono ?_;rintro e w0 ⟨rfl,hw⟩;rw[hw];clear hw w0;go_wp2_with (at_make;refine wpList_make_full _ rfl _ _ 212 rfl w.heap.size 79 i0 (.pointer none) 1 Tryz.underlying212 hi b8 a8 _ _ _ _ 16 rfl rfl (by omega) (by omega) (by rw[aL];omega) (by unfold maxLen;omega) (V7 _) ?_;intro w1 a1 hgrow)
 have a9:Below w.heap.size w w1:=(YQ _ _).grown hgrow (V7 _) (fun k hk=>by cases hk);have a5:Below w1.heap.size w1 (w1.alloc (.cells #[.int .i64 (l.length:Int),.slice (some ⟨w.heap.size,0,none⟩) 16 16] 214)):=(YQ _ _).alloc (V7 _) _;have cE:Hid (bV w (w1.alloc (.cells #[.int .i64 (l.length:Int),.slice (some ⟨w.heap.size,0,none⟩) 16 16] 214)) l w.heap.size w1.heap.size 0 (.slice a0 l.length cap)) :=
  ⟨chain a9 a5,by simp,by simp,(HV.out.below a9).below a5,_,own_below a1 a5,xS,fun j hj=>absurd hj (Nat.not_lt_zero _)⟩
 clear a5 a1 hgrow a9;go_loopw [0,23] (fun v c wr=>∃ d:Nat,d<=16/\c = .int .i64 d/\Hid (bV w wr l w.heap.size w1.heap.size d v)) (fun _ c _=>16-(intOf c).toNat)
 case atStart=>exact⟨0,aC6 _,rfl,cE.out⟩
 case round =>
  clear cE;obtain⟨d,hd,rfl,HI⟩:=hrel;by_cases a4:d<16
  ·have cR:(d:Int)<16:=by omega
   have h1:=HI.out.levels;obtain⟨q0,cU,hf0⟩:=HI.out.cell a4;have HBO:Hid (∀ w2,bA .u16 w2 u0 (lev 16 l d)->Calls Tryz.prog 157 _ w2 _):=fun w2 h2=>GG h2 (fun x hx=>HL.out x (yN hx)) (by rw[aQ];exact hn) d a4;have HZF:Hid (∀ w2,bA .u16 w2 u0 (lev 16 l d)->Calls Tryz.prog 158 _ w2 _):=fun w2 h2=>OD h2 (fun x hx=>HL.out x (yN hx)) (by rw[aQ];exact hn) d a4;go_wp2_with fail
   refine(sM h1 d a4).mono ?_;rintro e w2 ⟨rfl,hw⟩;rw[hw];clear hw w2;go_wp2;go_region_held (fun w'=>w'.cell? ⟨w1.heap.size,1,none⟩=some (.slice (some ⟨w.heap.size,0,none⟩) 16 16)) (go_keep) (first
    | (go_at_call 157;refine(HBO.out _ ?_).mono ?_;exact(HI.out.nums.kept (fun _ _ h=>h));rintro e w' ⟨bb,bw,ba,W,rfl,a2,hB⟩;have q1:=cell_kept hB ⟨w1.heap.size,1,none⟩ (.slice (some ⟨w.heap.size,0,none⟩) 16 16) h1;have q2:=cell_kept hB ⟨w.heap.size,d,none⟩ (.pointer q0) cU;have q3:=(hB.frozen (p:=⟨w.heap.size,d,none⟩) (aE6 _ _ cU)).trans hf0;have q4:=vD q2 (.pointer (some ⟨bb,0,none⟩)) ⟨w1.heap.size,1,none⟩ _ q1 (by simp)))
   have cP:=HI.out.below ((YQ wr.heap.size wr).drew.trans hB);have HNN:Hid _:=F5 cP.nums (vD q2 (.pointer (some ⟨bb,0,none⟩)));have HL2:Hid (bV w w' l w.heap.size w1.heap.size d u0):=cP;have HBT:Hid _:=a2;clear cP hB a2 q1 q2 q3 q4 h1 cU hf0;go_wp2_with fail
   refine(HZF.out _ HNN.out).mono ?_;rintro e w3 ⟨v3,rfl,hnums,a6⟩;have HE:Hid (bV w w3 l w.heap.size w1.heap.size (d+1) v3):=HL2.out.stored a4 (V7 _) (by have:=HBT.out;rw[aQ]at this;exact this) a6 hnums;clear hnums a6;go_wp2;go_roundw;case rel=>exact⟨d+1,by omega,by go_num,HE.out⟩
   case measure=>simp[intOf];omega
  ·obtain rfl:d=16:=by omega
   go_wp2;go_ret2;exact⟨_,_,rfl,HI.out.done hn HL.out,HI.out.bel⟩
end Go.Proofs.YtphjbbbnbmafnaaGreatDoor.S16
namespace Go.Proofs.YtphjbbbnbmafnaaGreatDoor.S16
open Go.RowKit
def numE(e:G.E3):Int:=e.2.2
theorem TU(w:World)(a b c:Value)(t:TypeId):(w.alloc (.cells #[a,b,c] t)).cell? ⟨w.heap.size,0,none⟩=some a/\(w.alloc (.cells #[a,b,c] t)).cell? ⟨w.heap.size,1,none⟩=some b/\(w.alloc (.cells #[a,b,c] t)).cell? ⟨w.heap.size,2,none⟩=some c:=by
 refine⟨?_,?_,?_⟩ <;> simp
theorem EQ(e:G.E3)(x:Nat)(hx:numE e=(x:Int))(h1:x<2 ^ 16)(w:World):
 Calls Tryz.prog 109 #[.agg #[.int .i64 e.1,.int .i64 e.2.1,.int .i64 e.2.2]] w fun r w'=>r = .returned (.int .u16 (x:Int))/\Below w.heap.size w w':=by
 obtain⟨e1,e2,e3⟩:=e;have hx2:e3=(x:Int):=hx;subst hx2;clear hx;go_enter Tryz.func109,Tryz.ntmps109
 go_wp2;go_ret;exact⟨rfl,(YQ _ _).alloc (V7 _) _⟩
theorem numsof_any(l:List G.E3)(v:Value)(w:World)(he:G.aI w v l)(hl:l.length<=100000)(h:∀ e∈l,0<=numE e/\numE e<(2 ^ 16:Nat)):
 Calls Tryz.prog 108 #[v,.func (.func 109) #[] #[]] w fun e w'=>∃ v',e = .returned v'/\bA .u16 w' v' (G.tos l)/\Below w.heap.size w w':=by
 obtain⟨a0,cap,rfl,hc⟩:=he;have HC:Hid _:=hc;have HL:Hid _:=h;clear hc h;obtain⟨i0,hi,b8,a8,aL⟩:=info_parts Tryz.infoW;go_enter Tryz.func108,Tryz.ntmps108
 go_wp2_with (at_make;refine wpList_make_own _ rfl _ _ 203 rfl w.heap.size 121 i0 (.int .u16 0) 1 Tryz.underlying203 hi b8 a8 _ _ _ l.length rfl rfl (by omega) (by rw[aL];omega) (by unfold maxLen;omega) (V7 _) ?_;intro w1 a1 hgrow)
 have a9:Below w.heap.size w w1:=(YQ _ _).grown hgrow (V7 _) (fun k hk=>by cases hk);have bX:Hid (AX w w1 _ []):=⟨a1,a9⟩;clear hgrow a1 a9;go_loopw [5,13] (fun v c wr=>∃ k:Nat,k<=l.length/\c = .int .i64 k/\Hid (AX w wr v (G.tos (l.take k)))) (fun _ c _=>l.length-(intOf c).toNat)
 case atStart=>exact⟨0,aC6 _,rfl,bX.out⟩
 case round =>
  clear bX;obtain⟨k,hk,rfl,HO⟩:=hrel;by_cases a4:k<l.length
  ·obtain⟨x,hx⟩:∃ x,l[k]?=some x:=⟨_,A7 a4⟩;obtain⟨g,off,rfl,c0,c1,c2⟩:=HC.out k x hx;have d0:=cell_kept HO.out.2 _ _ c0;have d1:=cell_kept HO.out.2 _ _ c1;have d2:=cell_kept HO.out.2 _ _ c2;have hkI:(k:Int)<(l.length:Int):=by omega
   have hlk:(G.tos (l.take k)).length=k:=by simp[G.tos];omega
   obtain⟨h1,h2⟩:=HL.out x (aC3 hx);obtain⟨y,hy⟩:∃ y:Nat,numE x=(y:Int):=⟨(numE x).toNat,by omega⟩;have HN:Hid (G.tos (l.take (k+1))=G.tos (l.take k)++[y]):=(by
    rw[aE0,hx];unfold G.tos;rw[aJ3];simp only[aH4,aJ4,List.map_nil];have e:x.2.2=(y:Int):=hy;rw[e];rfl:_=_)
   have HF:Hid (Calls Tryz.prog 109 _ (wr.alloc (.cells #[.int .i64 x.1,.int .i64 x.2.1,.int .i64 x.2.2] 38)) _):=EQ x y hy (by omega) _;obtain⟨x1,x2,x3⟩:=x;simp only at d0 d1 d2 HF;obtain⟨b0,b1,b2⟩:=TU wr (.int .i64 x1) (.int .i64 x2) (.int .i64 x3) 38;have HBa:Hid _:=HO.out.2.alloc HO.out.2.size (.cells #[.int .i64 x1,.int .i64 x2,.int .i64 x3] 38);have HRa:Hid _:=HO.out.1.alloc (.cells #[.int .i64 x1,.int .i64 x2,.int .i64 x3] 38);clear hx c0 c1 c2 hy h1 h2;go_wp2_with fail
   refine(aC0 HF.out ?_);rintro e w3 ⟨rfl,a6⟩;have a7:=own_below HRa.out a6;have HO3:Hid (AX w w3 _ (G.tos (l.take k))):=⟨a7,HBa.out.trans (a6.mono (by have:=HO.out.2.size;simp;omega))⟩;have hsz:=HO3.out.2.size;clear a6;go_wp2_with (at_builtin;refine wpList_append_own _ rfl _ _ 203 rfl w.heap.size 121 i0 (.int .u16 0) 1 (16 / 8) Tryz.underlying203 hi b8 a8 aL rfl (by decide) _ _ _ rfl (a7.alloc _) ⟨w3.heap.size,0,none⟩ 1 1 [.int .u16 (y:Int)] rfl rfl ?c1 ?c2 ?c3 ?c4 ?c5 ?_)
   case c1 =>
    intro j u hj
    match j,hj with
    | 0,hj=>simp at hj;subst hj;simp[Addr.add]
   case c2=>intro u hu;simp at hu;subst hu;rfl
   case c3=>unfold maxLen;omega
   case c4=>omega
   case c5=>simp;omega
   intro v' w2 hown' hgrow _;have c7:Hid _:=kY (v':=v') (x:=y) HO3.out (by rw[hlk];exact hown') hgrow;clear hown' hgrow a7;go_wp2;go_roundw;case rel=>exact⟨k+1,by omega,by go_num,by rw[HN.out];exact c7.out⟩
   case measure=>simp[intOf];omega
  ·obtain rfl:k=l.length:=by omega
   have HE:Hid _:=mQ (K:=.u16) HO.out.1;have HB:Hid _:=HO.out.2;clear HO;go_wp2;go_ret;exact⟨_,rfl,by have h:=HE.out;rwa [aE3]at h,HB.out⟩
end Go.Proofs.YtphjbbbnbmafnaaGreatDoor.S16
