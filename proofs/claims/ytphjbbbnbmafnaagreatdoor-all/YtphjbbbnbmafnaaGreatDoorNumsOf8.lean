/- Parts: NewSeq8 NumsOf8. -/
import Derived.Test.YtphjbbbnbmafnaaGreatDoorAsk16
import Derived.Test.YtphjbbbnbmafnaaGreatDoorLeast8
import Derived.Test.YtphjbbbnbmafnaaGreatDoorExt
import Derived.Test.YtphjbbbnbmafnaaGreatDoorOwnM
set_option maxHeartbeats 4000000
set_option maxRecDepth 100000
namespace Go.Proofs.YtphjbbbnbmafnaaGreatDoor.S8
open Go.RowKit
variable {l:List Nat} {h k x:Nat} {w:World} {v:Value}
theorem Tryz.infoW:(Tryz.prog.info? 5).map (fun i=>(i.zero,i.size,i.bytes))=some (some (.int .u8 0),1,8 / 8):=by kernel_rfl
theorem xW(hx:l[k]?=some x):fU l h k=x.testBit h:=qI hx
theorem EU(hl:∀ x∈l,x<2 ^ 8)(hx:l[k]?=some x):x<2 ^ 8:=hl x (aC3 hx)
theorem GG(hv:bA .u8 w v l)(hl:∀ x∈l,x<2 ^ 8)(hn:l.length<=100000)(d:Nat)(hd:d<8):
 Calls Tryz.prog 154 #[v,.int .u8 (kN 8 d)] w fun e w'=>∃ b bw ba W,e = .returned (.pointer (some ⟨b,0,none⟩))/\aT w' b bw ba (fU l (8-1-d)) l.length W/\Below w.heap.size w w':=by
 obtain⟨a0,cap,rfl,hc⟩:=hv.open;have HC:Hid _:=hc;have HL:Hid _:=hl;clear hc hv hl;obtain⟨i0,hi,a6,a7,a8⟩:=info_parts Tryz.info133;go_enter Tryz.func154,Tryz.ntmps154
 go_wp2_with (at_make;refine wpList_make_full _ rfl _ _ 242 rfl w.heap.size 133 i0 (.int .u64 0) 1 Tryz.underlying242 hi a6 a7 _ _ _ _ (l.length / 64+1) rfl rfl (by omega) (by omega) (by rw[a8];omega) (by unfold maxLen;omega) (V7 _) ?_;intro w1 a1 hgrow)
 have a4:Below w.heap.size w w1:=(YQ _ _).grown hgrow (V7 _) (fun k hk=>by cases hk);have b4:=nT (fU l (8-1-d)) (l.length / 64+1);generalize (madeCells (Value.int IntKind.u64 0).cells ((l.length / 64+1)*1)).toList=xs0 at a1 b4;clear hgrow;go_loopw [15] (fun c wr=>RelW (fU l (8-1-d)) l.length w c wr) (fun c _=>l.length-(intOf c).toNat)
 case atStart=>exact⟨0,xs0,aC6 _,rfl,a1,a4,b4⟩
 case round =>
  clear a1 b4 a4;obtain⟨k,xs,hk,rfl,a1,a9,b6⟩:=hrel;have HO:Hid _:=a1;have HW:Hid _:=b6;have HB:Hid _:=a9;by_cases hlt:k<l.length
  ·obtain⟨X,hcell,hfr,HX⟩:=DF hlt a1 b6;obtain⟨x,hx⟩:=jI hlt;obtain⟨g,off,rfl,a5⟩:=HC.out k x hx;have b5:=cell_kept a9 _ _ a5;have hA:=jA x d (EU HL.out hx) hd;have HF:Hid _:=xW (h:=8-1-d) hx;clear a1 b6 a9 a5 hx;have hk1:(k:Int) / 64<((l.length / 64+1:Nat):Int):=by omega
   have hk2:(k:Int) / 64<(l.length:Int) / 64+1:=by omega
   have hk3:(k:Int)<(l.length:Int):=by omega
   cases hbit:x.testBit (8-1-d)
   ·rw[hbit]at hA HF;clear hbit;go_wp2;go_roundw;case rel=>exact⟨k+1,xs,by omega,by go_num,HO.out,HB.out,qD HW.out HF.out⟩
    case measure=>simp[intOf];omega
   ·rw[hbit]at hA HF;clear hbit;go_wp2;go_region;go_wp2;go_roundw;case rel=>exact IE hlt HF.out HO.out HW.out HB.out HX.out
    case measure=>simp[intOf];omega
  ·obtain rfl:k=l.length:=by omega
   clear a1 b6 a9;go_wp2_with (go_at_call 151;refine(WW hn (JS l _) HO.out HW.out).mono ?_;rintro e w' ⟨b,ba,rfl,hbits,a3⟩)
   go_ret;exact⟨b,_,ba,_,rfl,hbits,HB.out.trans (a3.mono HB.out.size)⟩
theorem GA(c d:Nat)(hc:c<2 ^ 8)(hd:d<8):(bits .and .u8 (c:Int) (kN 8 d) == 0)=(c.testBit (8-1-d) == false):=by
 have h:=jA c d hc hd;rw[bne]at h;rw[<-h];cases (bits .and .u8 (c:Int) (kN 8 d) == 0) <;> rfl
theorem EX(c d:Nat)(hc:c<2 ^ 8)(hd:d<8):(bits .and .u8 (c:Int) (kN 8 d) == kN 8 d)=(c.testBit (8-1-d) == true):=by
 unfold kN;rw[u8_and_nat c _ hc (aH7 (by decide) (show 8-1-d<8 by omega))];have hp:0<2 ^ (8-1-d):=Nat.two_pow_pos _;have e:c &&& 2 ^ (8-1-d)=(c.testBit (8-1-d)).toNat*2 ^ (8-1-d):=by
  rw[nat_bit,aJ0];have:c / 2 ^ (8-1-d) % 2<2:=Nat.mod_lt _ (by decide);rcases(show c / 2 ^ (8-1-d) % 2=0\/c / 2 ^ (8-1-d) % 2=1 by omega)with e | e <;> rw[e] <;> simp
 rw[e];generalize 2 ^ (8-1-d)=m at *;cases c.testBit (8-1-d)
 ·simp;omega
 ·simp
def fB(l:List Nat)(h:Nat)(s:Bool)(k:Nat):List Nat:=(if s then l.filter (fun x=>x.testBit h == false)else [])++(l.take k).filter (fun x=>x.testBit h == s)
theorem kM{s:Bool}(hx:l[k]?=some x):fB l h s (k+1)=fB l h s k++(if x.testBit h == s then [x]else []):=by
 unfold fB;rw[aE0,hx,aF7,<-aD3];congr 1;simp only[aH4,aG8,List.filter_nil]
theorem lY(l:List Nat)(h:Nat)(s:Bool)(k:Nat):(fB l h s k).length<=2*l.length:=by
 unfold fB;rw[WT];have h1:=aE8 (fun x=>x.testBit h == false) l;have h2:=aE8 (fun x=>x.testBit h == s) (l.take k);have h3:(l.take k).length<=l.length:=by simp;omega
 cases s
 ·simp only[aG7,if_false,aI3];omega
 ·simp only[if_true];omega
theorem qW(l:List Nat)(h:Nat):fB l h false l.length=fB l h true 0:=by unfold fB;simp
theorem uF(l:List Nat)(h:Nat):fB l h true l.length=part h l:=by unfold fB part;simp
theorem oG(l:List Nat)(h:Nat):fB l h false 0=[]:=by unfold fB;simp
def stage(l:List Nat)(h s:Nat):List Nat:=if s=0 then []else if s=1 then fB l h true 0 else part h l
def AX(w wr:World)(v:Value)(l:List Nat):Prop:=wr.ownsRow w.heap.size 5 1 v l.length (vals .u8 l)/\Below w.heap.size w wr
theorem kY{wr w2:World}{v':Value}{o:Obj}(h:AX w wr v l)(a1:w2.ownsRow w.heap.size 5 1 v' (l.length+1) (vals .u8 l++[.int .u8 (x:Int)]))(hg:(wr.alloc o).grownBy w2 v.ownBlock):AX w w2 v' (l++[x]):=by
 refine⟨by rw[pU,WT];exact a1,?_⟩;exact(h.2.alloc h.2.size o).grown hg (by have:=h.2.size;simp;omega) (fun j hj=>(h.1.lt j hj).1)
theorem OD(hv:bA .u8 w v l)(hl:∀ x∈l,x<2 ^ 8)(hn:l.length<=100000)(d:Nat)(hd:d<8):
 Calls Tryz.prog 155 #[v,.int .u8 (kN 8 d)] w fun e w'=>∃ v',e = .returned v'/\bA .u8 w' v' (part (8-1-d) l)/\Below w.heap.size w w':=by
 obtain⟨a0,cap,rfl,hc⟩:=hv.open;have HC:Hid _:=hc;have HL:Hid _:=hl;clear hc hv hl;obtain⟨i0,hi,a6,a7,a8⟩:=info_parts Tryz.infoW;have x0:∀ w,(Instr.index 279 (.agg #[.int .u8 0,.int .u8 (kN 8 d)]) (.int .i64 0)).run Tryz.prog w = .ok (.int .u8 0) w:=fun _=>by kernel_rfl
 have x1:∀ w,(Instr.index 279 (.agg #[.int .u8 0,.int .u8 (kN 8 d)]) (.int .i64 1)).run Tryz.prog w = .ok (.int .u8 (kN 8 d)) w:=fun _=>by kernel_rfl
 go_enter Tryz.func155,Tryz.ntmps155
 go_wp2_with (at_make;refine wpList_make_own _ rfl _ _ 113 rfl w.heap.size 5 i0 (.int .u8 0) 1 Tryz.underlying113 hi a6 a7 _ _ _ l.length rfl rfl (by omega) (by rw[a8];omega) (by unfold maxLen;omega) (V7 _) ?_;intro w1 a1 hgrow)
 have a4:Below w.heap.size w w1:=(YQ _ _).grown hgrow (V7 _) (fun k hk=>by cases hk);clear hgrow;go_loopw [5,15] (fun v c wr=>∃ s:Nat,s<=2/\c = .int .i64 s/\AX w wr v (stage l (8-1-d) s)) (fun _ c _=>2-(intOf c).toNat)
 case atStart=>exact⟨0,aC6 _,rfl,a1,a4⟩
 case round =>
  clear a1 a4;obtain⟨s,hs,rfl,a1⟩:=hrel;rcases(show s=0\/s=1\/s=2 by omega)with rfl | rfl | rfl
  ·have aE:Hid _:=a1;rw[show((0:Nat):Int)=0 from rfl];go_wp2;go_loopw [5,20] (fun v c wr=>∃ k:Nat,k<=l.length/\c = .int .i64 k/\AX w wr v (fB l (8-1-d) false k)) (fun _ c _=>l.length-(intOf c).toNat)
   case atStart=>exact⟨0,aC6 _,rfl,by rw[oG];exact aE.out⟩
   case round =>
    clear a1;obtain⟨k,hk,rfl,a1⟩:=hrel;by_cases hlt:k<l.length
    ·obtain⟨x,hx⟩:=jI hlt;obtain⟨g,off,rfl,a5⟩:=HC.out k x hx;have b5:=cell_kept a1.2 _ _ a5;have hA:=GA x d (EU HL.out hx) hd;have hN:=kM (h:=8-1-d) (s:=false) hx;have hk3:(k:Int)<(l.length:Int):=by omega
     have b9:=lY l (8-1-d) false k;cases hbit:(x.testBit (8-1-d) == false)
     ·rw[hbit]at hA hN;rw[if_neg (by decide),aE4]at hN;have HN:Hid _:=hN;have HO:Hid _:=a1;clear hbit hN hx a5 a1 b9;go_wp2;go_roundw;case rel=>exact⟨k+1,by omega,by go_num,by rw[HN.out];exact HO.out⟩
      case measure=>simp[intOf];omega
     ·rw[hbit]at hA hN;rw[if_pos rfl]at hN;have HN:Hid _:=hN;have HO:Hid _:=a1;have a2:=a1.1;have hsz:=a1.2.size;clear hbit hN hx a5 a1;go_wp2_with (at_builtin;refine wpList_append_own _ rfl _ _ 113 rfl w.heap.size 5 i0 (.int .u8 0) 1 (8 / 8) Tryz.underlying113 hi a6 a7 a8 rfl (by decide) _ _ _ rfl (a2.alloc _) ⟨wr.heap.size,0,none⟩ 1 1 [.int .u8 (x:Int)] rfl rfl ?c1 ?c2 ?c3 ?c4 ?c5 ?_)
      case c1 =>
       intro j u hj
       match j,hj with
       | 0,hj=>simp at hj;subst hj;simp[Addr.add]
      case c2=>intro u hu;simp at hu;subst hu;rfl
      case c3=>unfold maxLen;omega
      case c4=>omega
      case c5=>simp;omega
      intro v' w2 hown' hgrow _;have aG:Hid _:=kY HO.out hown' hgrow;clear hown' hgrow a2;go_wp2;go_roundw;case rel=>exact⟨k+1,by omega,by go_num,by rw[HN.out];exact aG.out⟩
      case measure=>simp[intOf];omega
    ·obtain rfl:k=l.length:=by omega
     have HO:Hid _:=a1;clear a1;go_wp2;go_roundw;case rel=>exact⟨1,by omega,by go_num,by rw[qW]at HO;exact HO.out⟩
     case measure=>simp[intOf]
  ·have aE:Hid _:=a1;rw[show((1:Nat):Int)=1 from rfl];go_wp2;go_loopw [5,20] (fun v c wr=>∃ k:Nat,k<=l.length/\c = .int .i64 k/\AX w wr v (fB l (8-1-d) true k)) (fun _ c _=>l.length-(intOf c).toNat)
   case atStart=>exact⟨0,aC6 _,rfl,aE.out⟩
   case round =>
    clear a1;obtain⟨k,hk,rfl,a1⟩:=hrel;by_cases hlt:k<l.length
    ·obtain⟨x,hx⟩:=jI hlt;obtain⟨g,off,rfl,a5⟩:=HC.out k x hx;have b5:=cell_kept a1.2 _ _ a5;have hA:=EX x d (EU HL.out hx) hd;have hN:=kM (h:=8-1-d) (s:=true) hx;have hk3:(k:Int)<(l.length:Int):=by omega
     have b9:=lY l (8-1-d) true k;cases hbit:(x.testBit (8-1-d) == true)
     ·rw[hbit]at hA hN;rw[if_neg (by decide),aE4]at hN;have HN:Hid _:=hN;have HO:Hid _:=a1;clear hbit hN hx a5 a1 b9;go_wp2;go_roundw;case rel=>exact⟨k+1,by omega,by go_num,by rw[HN.out];exact HO.out⟩
      case measure=>simp[intOf];omega
     ·rw[hbit]at hA hN;rw[if_pos rfl]at hN;have HN:Hid _:=hN;have HO:Hid _:=a1;have a2:=a1.1;have hsz:=a1.2.size;clear hbit hN hx a5 a1;go_wp2_with (at_builtin;refine wpList_append_own _ rfl _ _ 113 rfl w.heap.size 5 i0 (.int .u8 0) 1 (8 / 8) Tryz.underlying113 hi a6 a7 a8 rfl (by decide) _ _ _ rfl (a2.alloc _) ⟨wr.heap.size,0,none⟩ 1 1 [.int .u8 (x:Int)] rfl rfl ?c1 ?c2 ?c3 ?c4 ?c5 ?_)
      case c1 =>
       intro j u hj
       match j,hj with
       | 0,hj=>simp at hj;subst hj;simp[Addr.add]
      case c2=>intro u hu;simp at hu;subst hu;rfl
      case c3=>unfold maxLen;omega
      case c4=>omega
      case c5=>simp;omega
      intro v' w2 hown' hgrow _;have aG:Hid _:=kY HO.out hown' hgrow;clear hown' hgrow a2;go_wp2;go_roundw;case rel=>exact⟨k+1,by omega,by go_num,by rw[HN.out];exact aG.out⟩
      case measure=>simp[intOf];omega
    ·obtain rfl:k=l.length:=by omega
     have HO:Hid _:=a1;clear a1;go_wp2;go_roundw;case rel=>exact⟨2,by omega,by go_num,by rw[uF]at HO;exact HO.out⟩
     case measure=>simp[intOf]
  ·have HO:Hid _:=a1;clear a1;go_wp2;go_ret;exact⟨_,rfl,mQ HO.out.1,HO.out.2⟩
end Go.Proofs.YtphjbbbnbmafnaaGreatDoor.S8
namespace Go.Proofs.YtphjbbbnbmafnaaGreatDoor.S8
open Go.RowKit
variable {w w' w2 wr:World} {b ba bw d g n:Nat} {W:Nat->Nat} {v:Value} {l:List Nat}
theorem Tryz.infoP:(Tryz.prog.info? 79).map (fun i=>(i.zero,i.size,i.bytes))=some (some (.pointer none),1,8):=by kernel_rfl
theorem vD{q0:Option Addr}(h:w.cell? ⟨g,d,none⟩=some (.pointer q0))(u:Value)(p:Addr)(v:Value)(hp:w.cell? p=some v)(hv:∀ q,v≠.pointer q):(w.setCell ⟨g,d,none⟩ u).cell? p=some v:=by
 rw[aI9 w ⟨g,d,none⟩ p u (fun e=>by subst e;rw[h]at hp;cases hp;exact hv _ rfl)];exact hp
theorem tZ{f:Nat->Bool}(hb:aT w b bw ba f n W)(h:∀ p v,w.cell? p=some v->(∀ q,v≠.pointer q)->w'.cell? p=some v):aT w' b bw ba f n W :=
 ⟨hb.hn,h _ _ hb.len (by simp),h _ _ hb.ones (by simp),h _ _ hb.words (by simp),h _ _ hb.ahead (by simp),fun j hj=>h _ _ (hb.word j hj) (by simp),fun j hj=>h _ _ (hb.ahd j hj) (by simp),hb.wlt,hb.wbit,hb.out⟩
theorem F5{K:IntKind}(h:bA K w v l)(hk:∀ p v,w.cell? p=some v->(∀ q,v≠.pointer q)->w'.cell? p=some v):bA K w' v l:=by
 obtain⟨a0,cap,hv,h⟩:=h;refine⟨a0,cap,hv,?_⟩;rcases h with h | ⟨g,off,hg,hc⟩
 ·exact .inl h
 ·exact .inr ⟨g,off,hg,fun j x hj=>hk _ _ (hc j x hj) (by simp)⟩
theorem own_below{B:Nat}{e:TypeId}{xs:List Value}(h:w.ownsRow B e 1 v n xs)(hB:Below w.heap.size w w'):w'.ownsRow B e 1 v n xs:=by
 refine⟨h.1,?_⟩;rcases h.2 with h0 | ⟨g,cap,cur,hv,hb,hg,r⟩
 ·exact .inl h0
 ·refine .inr ⟨g,cap,cur,hv,hb,?_,r⟩;rw[hB.block g (by
   rcases aG5 g w.heap.size with h | h
   ·exact h
   ·rw[Array.getElem?_eq_none h]at hg;cases hg)]
  exact hg
structure bV (w wr:World) (l:List Nat) (g b:Nat) (d:Nat) (v:Value):Prop where
 bel:Below w.heap.size w wr
 len:wr.cell? ⟨b,0,none⟩=some (.int .i64 (l.length:Int))
 levels:wr.cell? ⟨b,1,none⟩=some (.slice (some ⟨g,0,none⟩) 8 8)
 nums:bA .u8 wr v (lev 8 l d)
 row:∃ xs,wr.ownsRow w.heap.size 79 1 (.slice (some ⟨g,0,none⟩) 8 8) 8 xs/\(∀ j,j<8->∃ q,xs[j]?=some (.pointer q)) /\
  ∀ j,j<d->∃ bb bw ba W,xs[j]?=some (.pointer (some ⟨bb,0,none⟩))/\aT wr bb bw ba (fU (lev 8 l j) (8-1-j)) l.length W
theorem bV.cell(h:bV w wr l g b d v)(hd:d<8):∃ q,wr.cell? ⟨g,d,none⟩=some (.pointer q)/\wr.frozen? ⟨g,d,none⟩=false:=by
 obtain⟨xs,h1,h2,_⟩:=h.row;obtain⟨q,hq⟩:=h2 d hd;exact⟨q,(h1.cellAt d (by omega)).trans hq,h1.frozenAt d⟩
theorem bV.below(h:bV w wr l g b d v)(hB:Below wr.heap.size wr w2):bV w w2 l g b d v:=by
 refine⟨chain h.bel hB,cell_kept hB _ _ h.len,cell_kept hB _ _ h.levels,h.nums.below hB,?_⟩;obtain⟨xs,h1,h2,h3⟩:=h.row;refine⟨xs,own_below h1 hB,h2,fun j hj => ?_⟩;obtain⟨bb,bw,ba,W,h4,h5⟩:=h3 j hj;exact⟨bb,bw,ba,W,h4,h5.below hB⟩
theorem bV.stored(h:bV w wr l g b d v)(hd:d<8)(hg:w.heap.size<=g){bb:Nat}(hb:aT wr bb bw ba (fU (lev 8 l d) (8-1-d)) l.length W){v2:Value}
 (hB:Below (wr.setCell ⟨g,d,none⟩ (.pointer (some ⟨bb,0,none⟩))).heap.size (wr.setCell ⟨g,d,none⟩ (.pointer (some ⟨bb,0,none⟩))) w2) (hv2:bA .u8 w2 v2 (lev 8 l (d+1))):bV w w2 l g b (d+1) v2:=by
 obtain⟨q,hq,_⟩:=h.cell hd;have hk:=vD hq (.pointer (some ⟨bb,0,none⟩));obtain⟨xs,h1,h2,h3⟩:=h.row;have b4:=(h1.stored d (.pointer (some ⟨bb,0,none⟩))).1;have hxl:xs.length=8:=by have:=h1.1;omega
 refine⟨chain (h.bel.setCell (p:=⟨g,d,none⟩) hg _) hB,cell_kept hB _ _ (hk _ _ h.len (by simp)),cell_kept hB _ _ (hk _ _ h.levels (by simp)),hv2,xs.set d (.pointer (some ⟨bb,0,none⟩)),own_below b4 hB,?_,?_⟩
 ·intro j hj;by_cases e:j=d
  ·subst e;exact⟨_,aE5 (by omega)⟩
  ·rw[aF4 (by omega)];exact h2 j hj
 ·intro j hj;by_cases e:j=d
  ·subst e;exact⟨bb,bw,ba,W,aE5 (by omega),(tZ hb hk).below hB⟩
  ·rw[aF4 (by omega)];obtain⟨b1,b2,b3,W1,h4,h5⟩:=h3 j (by omega);exact⟨b1,b2,b3,W1,h4,(tZ h5 hk).below hB⟩
theorem bV.done(h:bV w wr l g b 8 v)(hn:l.length<=100000)(hl:∀ x∈l,x<2 ^ 8):bB 8 wr b g l:=by
 obtain⟨xs,h1,_,h3⟩:=h.row;refine⟨hn,hl,h.len,h.levels,fun d hd => ?_⟩;obtain⟨bb,bw,ba,W,h4,h5⟩:=h3 d hd;exact⟨bb,bw,ba,W,(h1.cellAt d (by omega)).trans h4,h5⟩
theorem sM(h1:w.cell? ⟨b,1,none⟩=some (.slice (some ⟨g,0,none⟩) 8 8))(d:Nat)(hd:d<8):
 Calls Tryz.prog 153 #[.pointer (some ⟨b,0,none⟩),.int .i64 (d:Int)] w fun e w'=>e = .returned (.int .u8 (kN 8 d))/\w'=w:=by
 go_enter Tryz.func153,Tryz.ntmps153
 go_wp2;go_ret;refine⟨iN ?_,rfl⟩;have hp:2 ^ (8-1-d)<2 ^ 8:=aH7 (by decide) (by omega);unfold kN;rw[<-gD];try rw[IntKind.wrap_u8]
 simp only[Nat.reducePow,Nat.reduceSub]at hp ⊢;generalize 2 ^ _=m at *;omega
theorem sK(w:World):Calls Tryz.prog 152 #[.int .u16 255] w fun e w'=>e = .returned (.int .i64 8)/\w'=w:=by
 go_enter Tryz.func152,Tryz.ntmps152
 go_wp2;go_ret;exact⟨by kernel_rfl,rfl⟩
theorem xS(j:Nat)(hj:j<8):∃ q,(madeCells (Value.pointer none).cells (8*1)).toList[j]?=some (.pointer q):=by
 refine⟨none,?_⟩;show(madeCells #[Value.pointer none] (8*1)).toList[j]?=_;rw[toList_madeCells_one,aE9,if_pos (by omega)]
theorem newseq_any(hv:bA .u8 w v l)(hl:∀ x∈l,x<2 ^ 8)(hn:l.length<=100000):
 Calls Tryz.prog 102 #[v] w fun e w'=>∃ b g,e = .returned (.tuple #[.pointer (some ⟨b,0,none⟩),.int .i64 0])/\bB 8 w' b g l/\Below w.heap.size w w':=by
 obtain⟨a0,cap,rfl,aL⟩:=hv.open;clear aL;have HV:Hid (bA .u8 w (.slice a0 l.length cap) l):=hv;have HL:Hid _:=hl;clear hv hl;obtain⟨i0,hi,a6,a7,a8⟩:=info_parts Tryz.infoP;go_enter Tryz.func102,Tryz.ntmps102
 go_wp2_with fail
 refine(sK _).mono ?_;rintro e w0 ⟨rfl,hw⟩;rw[hw];clear hw w0;go_wp2_with (at_make;refine wpList_make_full _ rfl _ _ 212 rfl w.heap.size 79 i0 (.pointer none) 1 Tryz.underlying212 hi a6 a7 _ _ _ _ 8 rfl rfl (by omega) (by omega) (by rw[a8];omega) (by unfold maxLen;omega) (V7 _) ?_;intro w1 a1 hgrow)
 have a4:Below w.heap.size w w1:=(YQ _ _).grown hgrow (V7 _) (fun k hk=>by cases hk);have a3:Below w1.heap.size w1 (w1.alloc (.cells #[.int .i64 (l.length:Int),.slice (some ⟨w.heap.size,0,none⟩) 8 8] 245)):=(YQ _ _).alloc (V7 _) _;have HL0:Hid (bV w (w1.alloc (.cells #[.int .i64 (l.length:Int),.slice (some ⟨w.heap.size,0,none⟩) 8 8] 245)) l w.heap.size w1.heap.size 0 (.slice a0 l.length cap)) :=
  ⟨chain a4 a3,by simp,by simp,(HV.out.below a4).below a3,_,own_below a1 a3,xS,fun j hj=>absurd hj (Nat.not_lt_zero _)⟩
 clear a3 a1 hgrow a4;go_loopw [0,24] (fun v c wr=>∃ d:Nat,d<=8/\c = .int .i64 d/\Hid (bV w wr l w.heap.size w1.heap.size d v)) (fun _ c _=>8-(intOf c).toNat)
 case atStart=>exact⟨0,aC6 _,rfl,HL0.out⟩
 case round =>
  clear HL0;obtain⟨d,hd,rfl,HI⟩:=hrel;by_cases hlt:d<8
  ·have hdI:(d:Int)<8:=by omega
   have h1:=HI.out.levels;obtain⟨q0,b8,hf0⟩:=HI.out.cell hlt;have HBO:Hid (∀ w2,bA .u8 w2 u0 (lev 8 l d)->Calls Tryz.prog 154 _ w2 _):=fun w2 h2=>GG h2 (fun x hx=>HL.out x (yN hx)) (by rw[aQ];exact hn) d hlt;have HZF:Hid (∀ w2,bA .u8 w2 u0 (lev 8 l d)->Calls Tryz.prog 155 _ w2 _):=fun w2 h2=>OD h2 (fun x hx=>HL.out x (yN hx)) (by rw[aQ];exact hn) d hlt;go_wp2_with fail
   refine(sM h1 d hlt).mono ?_;rintro e w2 ⟨rfl,hw⟩;rw[hw];clear hw w2;go_wp2;go_region_held (fun w'=>w'.cell? ⟨w1.heap.size,1,none⟩=some (.slice (some ⟨w.heap.size,0,none⟩) 8 8)) (go_keep) (first
    | (go_at_call 154;refine(HBO.out _ ?_).mono ?_;exact(HI.out.nums.kept (fun _ _ h=>h));rintro e w' ⟨bb,bw,ba,W,rfl,hbits,hB⟩;have q1:=cell_kept hB ⟨w1.heap.size,1,none⟩ (.slice (some ⟨w.heap.size,0,none⟩) 8 8) h1;have q2:=cell_kept hB ⟨w.heap.size,d,none⟩ (.pointer q0) b8;have q3:=(hB.frozen (p:=⟨w.heap.size,d,none⟩) (aE6 _ _ b8)).trans hf0;have q4:=vD q2 (.pointer (some ⟨bb,0,none⟩)) ⟨w1.heap.size,1,none⟩ _ q1 (by simp)))
   have b7:=HI.out.below ((YQ wr.heap.size wr).drew.trans hB);have HNN:Hid _:=F5 b7.nums (vD q2 (.pointer (some ⟨bb,0,none⟩)));have HL2:Hid (bV w w' l w.heap.size w1.heap.size d u0):=b7;have HBT:Hid _:=hbits;clear b7 hB hbits q1 q2 q3 q4 h1 b8 hf0;go_wp2_with fail
   refine(HZF.out _ HNN.out).mono ?_;rintro e w3 ⟨v3,rfl,hnums,hB3⟩;have HE:Hid (bV w w3 l w.heap.size w1.heap.size (d+1) v3):=HL2.out.stored hlt (V7 _) (by have:=HBT.out;rw[aQ]at this;exact this) hB3 hnums;clear hnums hB3;go_wp2;go_roundw;case rel=>exact⟨d+1,by omega,by go_num,HE.out⟩
   case measure=>simp[intOf];omega
  ·obtain rfl:d=8:=by omega
   go_wp2;go_ret2;exact⟨_,_,rfl,HI.out.done hn HL.out,HI.out.bel⟩
end Go.Proofs.YtphjbbbnbmafnaaGreatDoor.S8
namespace Go.Proofs.YtphjbbbnbmafnaaGreatDoor.S8
open Go.RowKit
def numE(e:G.E3):Int:=e.2.1
theorem TU(w:World)(a b c:Value)(t:TypeId):(w.alloc (.cells #[a,b,c] t)).cell? ⟨w.heap.size,0,none⟩=some a/\(w.alloc (.cells #[a,b,c] t)).cell? ⟨w.heap.size,1,none⟩=some b/\(w.alloc (.cells #[a,b,c] t)).cell? ⟨w.heap.size,2,none⟩=some c:=by
 refine⟨?_,?_,?_⟩ <;> simp
theorem EQ(e:G.E3)(x:Nat)(hx:numE e=(x:Int))(h1:x<2 ^ 8)(w:World):
 Calls Tryz.prog 104 #[.agg #[.int .i64 e.1,.int .i64 e.2.1,.int .i64 e.2.2]] w fun r w'=>r = .returned (.int .u8 (x:Int))/\Below w.heap.size w w':=by
 obtain⟨e1,e2,e3⟩:=e;have hx2:e2=(x:Int):=hx;subst hx2;clear hx;go_enter Tryz.func104,Tryz.ntmps104
 go_wp2;go_ret;exact⟨rfl,(YQ _ _).alloc (V7 _) _⟩
theorem numsof_any(l:List G.E3)(v:Value)(w:World)(he:G.aI w v l)(hl:l.length<=100000)(h:∀ e∈l,0<=numE e/\numE e<(2 ^ 8:Nat)):
 Calls Tryz.prog 103 #[v,.func (.func 104) #[] #[]] w fun e w'=>∃ v',e = .returned v'/\bA .u8 w' v' (G.aM l)/\Below w.heap.size w w':=by
 obtain⟨a0,cap,rfl,hc⟩:=he;have HC:Hid _:=hc;have HL:Hid _:=h;clear hc h;obtain⟨i0,hi,a6,a7,a8⟩:=info_parts Tryz.infoW;go_enter Tryz.func103,Tryz.ntmps103
 go_wp2_with (at_make;refine wpList_make_own _ rfl _ _ 113 rfl w.heap.size 5 i0 (.int .u8 0) 1 Tryz.underlying113 hi a6 a7 _ _ _ l.length rfl rfl (by omega) (by rw[a8];omega) (by unfold maxLen;omega) (V7 _) ?_;intro w1 a1 hgrow)
 have a4:Below w.heap.size w w1:=(YQ _ _).grown hgrow (V7 _) (fun k hk=>by cases hk);have aE:Hid (AX w w1 _ []):=⟨a1,a4⟩;clear hgrow a1 a4;go_loopw [5,13] (fun v c wr=>∃ k:Nat,k<=l.length/\c = .int .i64 k/\Hid (AX w wr v (G.aM (l.take k)))) (fun _ c _=>l.length-(intOf c).toNat)
 case atStart=>exact⟨0,aC6 _,rfl,aE.out⟩
 case round =>
  clear aE;obtain⟨k,hk,rfl,HO⟩:=hrel;by_cases hlt:k<l.length
  ·obtain⟨x,hx⟩:∃ x,l[k]?=some x:=⟨_,A7 hlt⟩;obtain⟨g,off,rfl,c0,c1,c2⟩:=HC.out k x hx;have d0:=cell_kept HO.out.2 _ _ c0;have d1:=cell_kept HO.out.2 _ _ c1;have d2:=cell_kept HO.out.2 _ _ c2;have hkI:(k:Int)<(l.length:Int):=by omega
   have hlk:(G.aM (l.take k)).length=k:=by simp[G.aM];omega
   obtain⟨h1,h2⟩:=HL.out x (aC3 hx);obtain⟨y,hy⟩:∃ y:Nat,numE x=(y:Int):=⟨(numE x).toNat,by omega⟩;have HN:Hid (G.aM (l.take (k+1))=G.aM (l.take k)++[y]):=(by
    rw[aE0,hx];unfold G.aM;rw[aJ3];simp only[aH4,aJ4,List.map_nil];have e:x.2.1=(y:Int):=hy;rw[e];rfl:_=_)
   have HF:Hid (Calls Tryz.prog 104 _ (wr.alloc (.cells #[.int .i64 x.1,.int .i64 x.2.1,.int .i64 x.2.2] 38)) _):=EQ x y hy (by omega) _;obtain⟨x1,x2,x3⟩:=x;simp only at d0 d1 d2 HF;obtain⟨b0,b1,b2⟩:=TU wr (.int .i64 x1) (.int .i64 x2) (.int .i64 x3) 38;have HBa:Hid _:=HO.out.2.alloc HO.out.2.size (.cells #[.int .i64 x1,.int .i64 x2,.int .i64 x3] 38);have HRa:Hid _:=HO.out.1.alloc (.cells #[.int .i64 x1,.int .i64 x2,.int .i64 x3] 38);clear hx c0 c1 c2 hy h1 h2;go_wp2_with fail
   refine(aC0 HF.out ?_);rintro e w3 ⟨rfl,hB3⟩;have a2:=own_below HRa.out hB3;have HO3:Hid (AX w w3 _ (G.aM (l.take k))):=⟨a2,HBa.out.trans (hB3.mono (by have:=HO.out.2.size;simp;omega))⟩;have hsz:=HO3.out.2.size;clear hB3;go_wp2_with (at_builtin;refine wpList_append_own _ rfl _ _ 113 rfl w.heap.size 5 i0 (.int .u8 0) 1 (8 / 8) Tryz.underlying113 hi a6 a7 a8 rfl (by decide) _ _ _ rfl (a2.alloc _) ⟨w3.heap.size,0,none⟩ 1 1 [.int .u8 (y:Int)] rfl rfl ?c1 ?c2 ?c3 ?c4 ?c5 ?_)
   case c1 =>
    intro j u hj
    match j,hj with
    | 0,hj=>simp at hj;subst hj;simp[Addr.add]
   case c2=>intro u hu;simp at hu;subst hu;rfl
   case c3=>unfold maxLen;omega
   case c4=>omega
   case c5=>simp;omega
   intro v' w2 hown' hgrow _;have aG:Hid _:=kY (v':=v') (x:=y) HO3.out (by rw[hlk];exact hown') hgrow;clear hown' hgrow a2;go_wp2;go_roundw;case rel=>exact⟨k+1,by omega,by go_num,by rw[HN.out];exact aG.out⟩
   case measure=>simp[intOf];omega
  ·obtain rfl:k=l.length:=by omega
   have HE:Hid _:=mQ (K:=.u8) HO.out.1;have HB:Hid _:=HO.out.2;clear HO;go_wp2;go_ret;exact⟨_,rfl,by have h:=HE.out;rwa [aE3]at h,HB.out⟩
end Go.Proofs.YtphjbbbnbmafnaaGreatDoor.S8
