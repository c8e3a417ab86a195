/- Parts: SortO AppSeq Comp Compact InOrd. -/
import Derived.Test.YtphjbbbnbmafnaaGreatDoorExt
import Derived.Test.YtphjbbbnbmafnaaGreatDoorBld
import Derived.Shelf.SlSortCmp.NoneTotal
import Derived.Deep.RegionHeld
import Derived.RangeFuncNested
import Derived.RangeFuncBox
import Derived.RangeFuncBound
import Derived.RangeFuncCalls
import Derived.RangeFuncLeaves
import Derived.Shelf.Abstract
import Derived.Shelf.RegionOpen
import Derived.WalkKit
import Derived.OwnWalkIn
import Derived.TacticsInMore
import Derived.LoopNIn
import Derived.LoopIn
import Derived.Laws.CopyRow
import Derived.BigQuiet
set_option maxHeartbeats 8000000
set_option maxRecDepth 100000
namespace Go.Proofs.YtphjbbbnbmafnaaGreatDoor.G
open Go.RowKit Go.Shelf Go.Lib Go.Sort
variable {W w w':World} {p:Addr} {v:Value}
def Gr(w w':World):Prop:=∃ q os,w'=grow (w.drewN q) os
theorem Gr.refl(w:World):Gr w w:=⟨0,#[],by simp;rfl⟩
theorem Gr.alloc(h:Gr w w')(o:Obj):Gr w (w'.alloc o):=by
 obtain⟨q,os,rfl⟩:=h;exact⟨q,os++#[o],by rw[alloc_eq_grow,grow_grow]⟩
theorem Gr.drew(h:Gr w w'):Gr w w'.drew:=by
 obtain⟨q,os,rfl⟩:=h;exact⟨q+1,os,rfl⟩
theorem dL{o:Obj}(h:W.cell? p=some v):(W.alloc o).cell? p=some v:=cell_kept (aA W o) p v h
theorem fZ(h:W.cell? p=some v):W.drew.cell? p=some v:=h
def orI(a b c:Int):Int:=if a≠0 then a else if b≠0 then b else c
def cfE(a b:E3):Int:=orI (compareInt a.1 b.1) (compareInt a.2.1 b.2.1) (compareInt a.2.2 b.2.2)
theorem cmpI(x y:Int):(compareInt x y = -1/\x<y)\/(compareInt x y=0/\x=y)\/(compareInt x y=1/\y<x):=by
 unfold compareInt;by_cases h1:x<y
 ·left;simp[h1]
 ·by_cases h2:y<x
  ·right;right;simp[h1,h2]
  ·right;left;simp[h1,h2];omega
theorem AQ(a b:E3):ltOf cfE a b=Gm.ltE a b:=by
 unfold ltOf cfE orI Gm.ltE;rcases cmpI a.1 b.1 with ⟨e1,h1⟩ | ⟨e1,h1⟩ | ⟨e1,h1⟩
 ·rw[e1,if_neg (by omega:¬ a.1=b.1)];simp[h1]
 ·rw[e1,if_pos h1];rcases cmpI a.2.1 b.2.1 with ⟨e2,h2⟩ | ⟨e2,h2⟩ | ⟨e2,h2⟩
  ·rw[e2,if_neg (by omega:¬ a.2.1=b.2.1)];simp[h2]
  ·rw[e2,if_pos h2];rcases cmpI a.2.2 b.2.2 with ⟨e3,h3⟩ | ⟨e3,h3⟩ | ⟨e3,h3⟩ <;> rw[e3] <;> simp <;> omega
  ·rw[e2,if_neg (by omega:¬ a.2.1=b.2.1)];simp;omega
 ·rw[e1,if_neg (by omega:¬ a.1=b.1)];simp;omega
theorem swoE:SWO (ltOf cfE) where
 irrefl x:=by rw[AQ];exact Gm.iW x
 trans x y z h1 h2:=by rw[AQ]at *;exact Gm.iD x y z h1 h2
 ntrans x y z h1 h2:=by rw[AQ]at *;exact Gm.KJ x y z h1 h2
theorem jY(f l t f' l' t':Int)(w:World):
 Calls Tryz.prog 106 #[.agg #[.int .i64 f,.int .i64 l,.int .i64 t],.agg #[.int .i64 f',.int .i64 l',.int .i64 t']] w fun e w'=>e = .returned (.int .i64 (compareInt l l'))/\w'=(w.alloc (.cells #[.int .i64 f,.int .i64 l,.int .i64 t] 38)).alloc (.cells #[.int .i64 f',.int .i64 l',.int .i64 t'] 38):=by
 obtain⟨k0,k1,k2,k3,k4,k5⟩:=two3 w (.int .i64 f) (.int .i64 l) (.int .i64 t) (.int .i64 f') (.int .i64 l') (.int .i64 t') 38;have HC:∀ W,Hid (Calls Tryz.prog 150 #[.int .i64 l,.int .i64 l'] W fun e w'=>e = .returned (.int .i64 (compareInt l l'))/\w'=W):=fun W=>Tryz.cmp_Compare_int l l' W;go_enter Tryz.func106,Tryz.ntmps106
 go_wp2_with (go_at_call 150;refine(aC0 (HC _).out ?_);rintro e w' ⟨rfl,rfl⟩)
 go_ret;exact⟨rfl,rfl⟩
theorem aB5(a b c:Int)(g:Nat)(w:World)(h0:w.cell? ⟨g,0,none⟩=some (.int .i64 a))(h1:w.cell? ⟨g,1,none⟩=some (.int .i64 b))(h2:w.cell? ⟨g,2,none⟩=some (.int .i64 c)):
 Calls Tryz.prog 149 #[.slice (some ⟨g,0,none⟩) 3 3] w fun e w'=>e = .returned (.int .i64 (orI a b c))/\w'=w:=by
 have HC:Hid (∀ j:Nat,j<3->w.cell? ⟨g,j,none⟩=some (.int .i64 ([a,b,c].getD j 0))):=(fun j hj=>by
  match j,hj with
  | 0,_=>exact h0
  | 1,_=>exact h1
  | 2,_=>exact h2:∀ j:Nat,j<3->w.cell? ⟨g,j,none⟩=some (.int .i64 ([a,b,c].getD j 0)))
 clear h0 h1 h2;go_enter Tryz.func149,Tryz.ntmps149
 go_wp2;go_loop [8] (fun si=>∃ i:Nat,i<=3/\si = .int .i64 (i:Int)/\Hid (∀ j<i,[a,b,c].getD j 0=0)) (fun si=>3-(intOf si).toNat)
 case atStart=>exact⟨0,aC6 _,rfl,(fun j hj=>absurd hj (Nat.not_lt_zero _):∀ j<0,[a,b,c].getD j 0=0)⟩
 case round =>
  obtain⟨i,hi,rfl,HI⟩:=hrel;by_cases hlt:i<3
  ·have hc:=HC.out i hlt;obtain⟨x,hx⟩:∃ x,[a,b,c].getD i 0=x:=⟨_,rfl⟩;rw[hx]at hc;have HX:Hid _:=hx;clear hx;by_cases hz:x=0
   ·have hzb:(x != 0)=false:=by simpa using hz
    have HZ:Hid _:=hz;clear hz;go_wp2;go_round;case rel=>exact⟨i+1,by omega,by go_num,(fun j hj=>by
     rcases aG5 j i with h | h
     ·exact HI.out j h
     ·rw[show j=i by omega,HX.out,HZ.out]:∀ j<i+1,[a,b,c].getD j 0=0)⟩
    case measure=>simp[intOf] <;> omega
   ·have hzb:(x != 0)=true:=by simpa using hz
    have HR:Hid (x=orI a b c):=(by
     unfold orI;have h0:=HI.out
     match i,hlt,HX.out,h0 with
     | 0,_,e,_=>rw[show a=x from e,if_pos hz]
     | 1,_,e,h0=>rw[if_neg (by rw[show a=0 from h0 0 (by decide)];simp),show b=x from e,if_pos hz]
     | 2,_,e,h0=>rw[if_neg (by rw[show a=0 from h0 0 (by decide)];simp),if_neg (by rw[show b=0 from h0 1 (by decide)];simp),show c=x from e]:x=_)
    clear hz;go_wp2;go_ret;exact⟨R7 (by rw[<-HR.out];rfl),rfl⟩
  ·obtain rfl:i=3:=by omega
   have HR:Hid (0=orI a b c):=(by
    unfold orI;have h0:=HI.out;rw[if_neg (by rw[show a=0 from h0 0 (by decide)];simp),if_neg (by rw[show b=0 from h0 1 (by decide)];simp),show c=0 from h0 2 (by decide)]:(0:Int)=_)
   go_wp2;go_ret;exact⟨R7 (by rw[<-HR.out];rfl),rfl⟩
theorem XK(a b c:Int)(W:World)(o1 o2:Obj):Calls Tryz.prog 149 #[.slice (some ⟨W.heap.size+1+1,0,none⟩) 3 3] (((W.alloc o1).alloc o2).alloc (.cells #[.int .i64 a,.int .i64 b,.int .i64 c] 3)).drew fun e w'=>e = .returned (.int .i64 (orI a b c))/\w'=(((W.alloc o1).alloc o2).alloc (.cells #[.int .i64 a,.int .i64 b,.int .i64 c] 3)).drew:=by
 have e:W.heap.size+1+1=((W.alloc o1).alloc o2).heap.size:=by simp
 rw[e];generalize (W.alloc o1).alloc o2=V;exact aB5 a b c V.heap.size _ (fZ (by simp)) (fZ (by simp)) (fZ (by simp))
theorem FC(f l t f' l' t':Int)(w:World):
 Calls Tryz.prog 95 #[.agg #[.int .i64 f,.int .i64 l,.int .i64 t],.agg #[.int .i64 f',.int .i64 l',.int .i64 t']] w fun e w'=>e = .returned (.int .i64 (orI (compareInt f f') (compareInt l l') (compareInt t t')))/\Gr w w':=by
 obtain⟨k0,k1,k2,k3,k4,k5⟩:=two3 w (.int .i64 f) (.int .i64 l) (.int .i64 t) (.int .i64 f') (.int .i64 l') (.int .i64 t') 38;have HG:Hid (Gr w ((w.alloc (.cells #[.int .i64 f,.int .i64 l,.int .i64 t] 38)).alloc (.cells #[.int .i64 f',.int .i64 l',.int .i64 t'] 38))):=((Gr.refl w).alloc _).alloc _;have HC1:∀ W,Hid (Calls Tryz.prog 150 #[.int .i64 f,.int .i64 f'] W fun e w'=>e = .returned (.int .i64 (compareInt f f'))/\w'=W):=fun W=>Tryz.cmp_Compare_int f f' W;have HC3:∀ W,Hid (Calls Tryz.prog 150 #[.int .i64 t,.int .i64 t'] W fun e w'=>e = .returned (.int .i64 (compareInt t t'))/\w'=W):=fun W=>Tryz.cmp_Compare_int t t' W;have HC2:∀ W,Hid (Calls Tryz.prog 106 #[.agg #[.int .i64 f,.int .i64 l,.int .i64 t],.agg #[.int .i64 f',.int .i64 l',.int .i64 t']] W fun e w'=>e = .returned (.int .i64 (compareInt l l'))/\w'=(W.alloc (.cells #[.int .i64 f,.int .i64 l,.int .i64 t] 38)).alloc (.cells #[.int .i64 f',.int .i64 l',.int .i64 t'] 38)):=fun W=>jY f l t f' l' t' W;generalize compareInt f f'=c1 at HC1 ⊢;generalize compareInt l l'=c2 at HC2 ⊢;generalize compareInt t t'=c3 at HC3 ⊢;go_enter Tryz.func95,Tryz.ntmps95
 go_wp2_with fail
 generalize hW:(w.alloc (.cells #[.int .i64 f,.int .i64 l,.int .i64 t] 38)).alloc (.cells #[.int .i64 f',.int .i64 l',.int .i64 t'] 38)=W at k0 k1 k2 k3 k4 k5 HG ⊢;clear hW;go_region_held (fun w'=>w'.cell? ⟨w.heap.size,0,none⟩=some (.int .i64 f)/\w'.cell? ⟨w.heap.size,1,none⟩=some (.int .i64 l)/\w'.cell? ⟨w.heap.size,2,none⟩=some (.int .i64 t)/\w'.cell? ⟨w.heap.size+1,0,none⟩=some (.int .i64 f')/\w'.cell? ⟨w.heap.size+1,1,none⟩=some (.int .i64 l')/\w'.cell? ⟨w.heap.size+1,2,none⟩=some (.int .i64 t')) (refine⟨?_,?_,?_,?_,?_,?_⟩ <;> (repeat (first | assumption | apply fZ | apply dL)))
  (first
   | (go_at_call_of 150 (Value.int IntKind.i64 f);refine(aC0 (HC1 _).out ?_);rintro e w' ⟨rfl,rfl⟩)
   | (go_at_call_of 150 (Value.int IntKind.i64 t);refine(aC0 (HC3 _).out ?_);rintro e w' ⟨rfl,rfl⟩)
   | (go_at_call 106;refine(aC0 (HC2 _).out ?_);rintro e w' ⟨rfl,rfl⟩)
   | (go_at_call 149;refine(XK c1 c2 c3 _ _ _).mono ?_;rintro e w' ⟨rfl,rfl⟩))
 go_wp2;go_ret;exact⟨rfl,((((HG.out).alloc _).alloc _).alloc _).drew⟩
end Go.Proofs.YtphjbbbnbmafnaaGreatDoor.G
namespace Go.Proofs.YtphjbbbnbmafnaaGreatDoor.G
open Go.RowKit Go.Shelf Go.Lib Go.Sort
variable {g n:Nat} {a1:Array Value} {w:World} {os:Array Obj}
def vS(x:E3):List Value:=[.int .i64 x.1,.int .i64 x.2.1,.int .i64 x.2.2]
theorem l6(e:E3)(l:List E3):flat (e::l)=vS e++flat l:=by unfold flat vS;rw[List.flatMap_cons]
theorem qO:∀(l:List E3) (t:Nat),t<l.length*3->(flat l)[t]?=some ((vS l[t / 3]!)[t % 3]!)
 | [],t,h=>by simp at h
 | e::l,t,h=>by
  rw[l6];by_cases ht:t<3
  ·rw[aD4 (by simpa[vS]using ht)]
   match t,ht with
   | 0,_=>rfl
   | 1,_=>rfl
   | 2,_=>rfl
  ·rw[aC8 (by simp[vS];omega)];have ih:=qO l (t-3) (by simp at h;omega);rw[show(vS e).length=3 from rfl,ih,show t / 3=(t-3) / 3+1 by omega,show(t-3) % 3=t % 3 by omega];simp
theorem wV(l:List E3):flatK vS 3 l.toArray=(flat l).toArray:=by
 apply Array.ext_getElem?;intro t;by_cases h:t<l.length*3
 ·have h1:(flatK vS 3 l.toArray)[t]?=some (flatK vS 3 l.toArray)[t]!:=by
   rw[getElem!_pos _ t (by simpa using h),aE2 (by simpa using h)]
  rw[h1,get_flatK _ _ _ _ (by simpa using h),List.getElem?_toArray,qO l t h];simp
 ·rw[Array.getElem?_eq_none (by simp;omega),List.getElem?_toArray,aC7 (by rw[bM];omega)]
theorem aAD{W:World}{t:TypeId}{l:List E3}(hb:W.heap[g]?=some (.cells a1 t (0,0)))(ht:a1.toList.take (l.length*3)=flat l):HoldsK vS 3 W g 0 l.toArray:=by
 unfold HoldsK;rw[wV];intro j hj;have c8:j<(flat l).length:=by simpa using hj
 have cA:=c8;rw[bM]at cA;refine⟨?_,by simp[World.frozen?,hb]⟩;rw[cell_of_row W g (0+j) a1 t (0,0) hb,aG1,<-aK5];have h1:(a1.toList.take (l.length*3))[j]?=(flat l)[j]?:=by rw[ht]
 rw[aI4 cA]at h1;rw[h1,A7 c8];simp[c8]
theorem J6{e:TypeId}{fr:Nat×Nat}(l:List E3)(hb:w.heap[g]?=some (.cells a1 e fr)):
 (sortWorldK vS 3 w g 0 n l.toArray os).heap[g]?=some (.cells (putCells id 0 (flat l).toArray a1) e fr):=by
 have hg:g<w.heap.size:=(aC2.1 hb).1;unfold sortWorldK putRowK;rw[wV,heap_grow_old _ _ (by simpa using hg)];simp[putRow,mapBlock,Sort.ahead,Array.getElem?_modify,hb,onCells]
theorem FT(d:Array E3):w.grownBy (sortWorldK vS 3 w g 0 n d os) (some g):=by
 refine⟨rfl,rfl,rfl,by simp[sortWorldK,putRowK],fun k hk a8 => ?_⟩;unfold sortWorldK putRowK;rw[heap_grow_old _ _ (by simpa using hk)];have:g≠k:=fun e=>a8 (by rw[e]);simp[putRow,mapBlock,Sort.ahead,Array.getElem?_modify,this]
theorem UJ(a1:Array Value)(ts:List Value)(h:ts.length<=a1.size):(putCells id 0 ts.toArray a1).toList.take ts.length=ts:=by
 apply aG6;intro j;by_cases hj:j<ts.length
 ·rw[aI4 hj,aK5];simp[putCells,hj,show j<a1.size by omega]
 ·rw[List.getElem?_take_eq_none (by omega),aC7 (by omega)]
theorem TY(blk off size:Nat)(w:World):CmpLays Tryz.prog 95 #[] vS 3 cfE blk off size w :=
 fun _ _ _ _ x y=>(FC x.1 x.2.1 x.2.2 y.1 y.2.1 y.2.2 _).mono fun _ _ h=>h
theorem OU(l:List E3)(base:Nat)(v:Value)(W:World)(hrow:W.ownsRow base 38 3 v l.length (flat l))(hl:l.length<=1000000):
 Calls Tryz.prog 147 #[v,.func (.func 95) #[] #[]] W fun e w'=>e = .returned (.tuple #[])/\w'.ownsRow base 38 3 v l.length (flat (l.mergeSort fun x y => !Gm.ltE y x))/\W.grownBy w' v.ownBlock:=by
 rcases hrow.2 with ⟨rfl,h0⟩ | ⟨g,cap,a1,rfl,a4,a7,r1,r2,r3,r4⟩
 ·obtain rfl:l=[]:=aD8 h0;refine(AnyF.slices_SortFunc_none { Tryz.sortE with } none 0 (.func (.func 95) #[] #[]) W).mono ?_;rintro e w' ⟨rfl,rfl⟩;exact⟨rfl,by simpa using hrow,⟨rfl,rfl,rfl,V7 _,fun _ _ _=>rfl⟩⟩
 ·have eg:∀ args w,(callFunc 95 args).run Tryz.prog w = .ok (.enter 95 args) w:=enters_of Tryz.func95 (by kernel_rfl) rfl;have a5:=AnyQ.slices_SortFunc_total Tryz.sortE 3 Tryz.isAgg38 Tryz.sizeOf38 vS (fun _=>rfl) (fun x v hv=>by simp[vS]at hv;rcases hv with rfl | rfl | rfl <;> rfl) cfE swoE 95 #[] g 0 cap l.toArray W eg (TY g 0 _ W) (aAD a7 r4) (aC2.1 a7).1 (by simp;omega) (fun x y h1 h2=>by rw[AQ]at h1 h2;exact Gm.OI x y h1 h2);change Calls Tryz.prog 147 _ _ _ at a5;simp only[aL4]at a5;refine a5.mono ?_;rintro e w' ⟨rfl,n,os,rfl⟩;have hs:(l.toArray.toList.mergeSort fun x y => !ltOf cfE y x)=l.mergeSort fun x y => !Gm.ltE y x:=by
   simp only[AQ]
  rw[hs];have hm:(l.mergeSort fun x y => !Gm.ltE y x).length=l.length:=List.length_mergeSort _;refine⟨rfl,⟨by rw[bM,hm],.inr ⟨g,cap,_,rfl,a4,J6 _ a7,r1,r2,by simp[putCells,r3],?_⟩⟩,FT _⟩;have h2:=UJ a1 (flat (l.mergeSort fun x y => !Gm.ltE y x)) (by rw[bM,hm,r3];exact Nat.mul_le_mul_right _ r1);rw[bM,hm]at h2;exact h2
end Go.Proofs.YtphjbbbnbmafnaaGreatDoor.G
namespace Go.Proofs.YtphjbbbnbmafnaaGreatDoor.G
open Go.RowKit Go.Shelf
attribute [local go_sem] Oper.semAt_some
theorem QE{l:List E3}{k:Nat}{x:E3}(h:l[k]?=some x):l.take (k+1)=l.take k++[x]:=by rw[aE0,h];rfl
theorem M5(F:Fence)(n:Nat)(h7:F.fn 148)(hro:F.round=none)(hn:1<=n)(l Bs n₀ g off cap:Nat)(zs:List E3)(hz:zs.length<=1000000)(hb:g<n₀)(J Jx:List E3->World->Prop)
 (W:World) (hn₀:n₀<=W.heap.size) (hJ:AbidesFrom W.heap.size J)
 (hY:∀ pre x W,J pre W->pre.length<zs.length->YieldAt F (n-1) Tryz.prog l #[.agg #[.int .i64 x.1,.int .i64 x.2.1,.int .i64 x.2.2]] W fun e W' =>
  (e = .returned (.bool true)/\J (pre++[x]) W'/\Below n₀ W W')\/(e = .returned (.bool false)/\Jx (pre++[x]) W'))
 (hBs:W.cell? ⟨Bs,0,none⟩=some (.slice (some ⟨g,off,none⟩) zs.length cap)) (hc:∀(j:Nat) (e:E3),zs[j]?=some e->W.cell? ⟨g,off+j*3,none⟩=some (.int .i64 e.1)/\W.cell? ⟨g,off+j*3+1,none⟩=some (.int .i64 e.2.1)/\W.cell? ⟨g,off+j*3+2,none⟩=some (.int .i64 e.2.2)) (h0:J [] W) :
 CallsIn F n Tryz.prog 148 #[.func (.yield l) #[] #[],.pointer (some ⟨Bs,0,none⟩)] W fun e W'=>(∃ v,e = .returned v) /\
  ((∃ ys,ys=zs/\J ys W')\/(∃ pre,(∃ k,pre=zs.take k)/\Jx pre W')):=by
 have HC:Hid _:=hc;clear hc;refine callsIn_of_wp Tryz.func148 rfl h7 ?_ hro;simp only[Tryz.ntmps148,aL4,aE7,aI3,Nat.reduceAdd,Nat.reduceSub,aI8,Array.replicate_zero,List.push_toArray,List.append_toArray,aJ2,aG9];gi_wp2;gi_loopw [7] (fun i wr=>∃ k:Nat,k<=zs.length/\i = .int .i64 k/\J (zs.take k) wr/\Below n₀ W wr)
  (fun i _=>zs.length-(intOf i).toNat)
 case atStart=>exact⟨0,aC6 _,rfl,h0,YQ _ _⟩
 case round =>
  obtain⟨k,hk,rfl,aE,b1⟩:=hrel;by_cases hlt:k<zs.length
  ·obtain⟨x,hx⟩:∃ x,zs[k]?=some x:=⟨_,A7 hlt⟩;obtain⟨c0,c1,c2⟩:=HC.out k x hx;have d0:=(b1.cell (p:=⟨g,off+k*3,none⟩) hb).trans c0;have d1:=(b1.cell (p:=⟨g,off+k*3+1,none⟩) hb).trans c1;have d2:=(b1.cell (p:=⟨g,off+k*3+2,none⟩) hb).trans c2;have HT:Hid _:=QE hx;obtain⟨x1,x2,x3⟩:=x;simp only at d0 d1 d2;have hns:=b1.size;have hJ2:J (zs.take k) (wr.alloc (.cells #[.int .i64 x1,.int .i64 x2,.int .i64 x3] 38)):=hJ _ wr _ none aE (aF9 wr _ none) (fun r e=>by cases e);obtain⟨fn,tmps,assign,a9,hy,hR⟩:=hY _ (x1,x2,x3) _ hJ2 (by simp;omega);clear c0 c1 c2 hx;gi_wp2;refine hR.mono ?_;rintro e W3 (⟨rfl,hJ3,hk3⟩ | ⟨rfl,hJx3⟩)
   ·gi_wp2;go_roundw;case rel=>exact⟨k+1,by omega,by simp,by rw[HT.out];exact hJ3,(b1.alloc (by omega) _).trans hk3⟩
    case measure=>simp[intOf];omega
   ·gi_wp2;refine bodyPost_ret (results_none rfl _ _ _) rfl ?_;exact⟨⟨_,rfl⟩,.inr ⟨_,⟨k+1,HT.out.symm⟩,hJx3⟩⟩
  ·obtain rfl:k=zs.length:=by omega
   rw[aE3]at aE;gi_wp2;go_end0;exact⟨⟨_,rfl⟩,.inl ⟨_,rfl,aE⟩⟩
theorem GJ(F:Fence)(n:Nat)(h7:F.fn 148)(hro:F.round=none)(l Bs cap:Nat)(a0:Option Addr)(J:List E3->World->Prop)(W:World)(hBs:W.cell? ⟨Bs,0,none⟩=some (.slice a0 0 cap))(h0:J [] W):
 CallsIn F n Tryz.prog 148 #[.func (.yield l) #[] #[],.pointer (some ⟨Bs,0,none⟩)] W fun e W'=>(∃ v,e = .returned v)/\J [] W':=by
 refine callsIn_of_wp Tryz.func148 rfl h7 ?_ hro;simp only[Tryz.ntmps148,aL4,aE7,aI3,Nat.reduceAdd,Nat.reduceSub,aI8,Array.replicate_zero,List.push_toArray,List.append_toArray,aJ2,aG9];gi_wp2;gi_loopw [7] (fun i wr=>i = .int .i64 0/\J [] wr) (fun _ _=>0)
 case atStart=>exact⟨rfl,h0⟩
 case round =>
  obtain⟨rfl,aE⟩:=hrel;gi_wp2;go_end0;exact⟨⟨_,rfl⟩,aE⟩
theorem values_in(F:Fence)(n:Nat)(h5:F.fn 94)(hro:F.round=none)(a:Option Addr)(len cap:Nat)(w:World):
 CallsIn F n Tryz.prog 94 #[.slice a len cap] w fun e w'=>e = .returned (.func (.func 148) #[] #[.pointer (some ⟨w.heap.size,0,none⟩)])/\w'=w.alloc (.cells #[.slice a len cap] 24):=by
 refine callsIn_of_wp Tryz.func94 rfl h5 ?_ hro;simp only[Tryz.ntmps94,aL4,aE7,aI3,Nat.reduceAdd,Nat.reduceSub,aI8,Array.replicate_zero,List.push_toArray,List.append_toArray,aJ2,aG9];gi_wp2;go_ret;exact⟨rfl,rfl⟩
theorem values_stops(F:Fence)(n:Nat)(h7:F.fn 148)(hro:F.round=none)(hn:1<=n)(Bs n₀:Nat)(v:Value)(zs:List E3)(hz:zs.length<=1000000)(w:World)(hBs:Bs<w.heap.size)(hn₀:n₀<=w.heap.size)
 (hc:w.cell? ⟨Bs,0,none⟩=some v) (hI:aI w v zs) (hlow:∀ a0 len cap,v = .slice (some a0) len cap->zs≠[]->a0.block<n₀) :
 SeqStopsK F n Tryz.prog 148 #[.pointer (some ⟨Bs,0,none⟩)] (fun x:E3=>#[.agg #[.int .i64 x.1,.int .i64 x.2.1,.int .i64 x.2.2]]) (Below n₀) (fun ys=>ys=zs) (fun pre=>∃ k,pre=zs.take k) zs.length w:=fun l J Jx W hW hJ _ hY h0=>by
 have hc':=(hW.cell (p:=⟨Bs,0,none⟩) hBs).trans hc;obtain⟨a0,cap,rfl,hcs⟩:=hI.below hW;cases zs with
 | nil=>exact(GJ F n h7 hro l Bs cap a0 J W hc' h0).mono fun e W' ⟨he,hj⟩=>⟨he,.inl ⟨_,rfl,hj⟩⟩
 | cons z zs =>
  obtain⟨g,off,rfl,_⟩:=hcs 0 z rfl;refine M5 F n h7 hro hn l Bs n₀ g off cap (z::zs) hz (hlow _ _ _ rfl (by simp)) J Jx W (aD9 hn₀ hW.size) hJ hY hc' (fun j e hj => ?_) h0;obtain⟨g2,off2,e2,r⟩:=hcs j e hj;cases e2;exact r
end Go.Proofs.YtphjbbbnbmafnaaGreatDoor.G
namespace Go.Proofs.YtphjbbbnbmafnaaGreatDoor.G
open Go.RowKit Go.Shelf
variable {B:Nat} {t:TypeId}
attribute [local go_sem] Oper.semAt_some
theorem LP{X Y:World}{row:Option Nat}{cs:Array Value}(h:X.heap[B]?=some (.cells cs t (0,0)))(hg:X.grownBy Y row)(hr:∀ r,row=some r->∃ o:Obj,X.heap[r]?=some o/\o.isCells=false):Y.heap[B]?=some (.cells cs t (0,0)):=by
 rw[hg.block B (aC2.1 h).1 (fun e=>by
  obtain⟨o,ho,hc⟩:=hr B e.symm;rw[h]at ho;cases ho;cases hc)]
 exact h
theorem cells3{W:World}{a b c:Value}(h:W.heap[B]?=some (.cells #[a,b,c] t (0,0))):W.cell? ⟨B,0,none⟩=some a/\W.cell? ⟨B,1,none⟩=some b/\W.cell? ⟨B,2,none⟩=some c:=by
 refine⟨?_,?_,?_⟩
 ·rw[cell_of_row W B 0 _ t (0,0) h];rfl
 ·rw[cell_of_row W B 1 _ t (0,0) h];rfl
 ·rw[cell_of_row W B 2 _ t (0,0) h];rfl
theorem appendSeq_in(F:Fence)(n:Nat)(h11:F.fn 183)(h7:F.fn 148)(hro:F.round=none)(hn:4<=n)(Bs:Nat)(v0:Value)(zs:List E3)(hz:zs.length<=1000000)(w:World)(hBs:Bs<w.heap.size)
 (hc:w.cell? ⟨Bs,0,none⟩=some v0) (hI:aI w v0 zs) (hlow:∀ a0 len cap,v0 = .slice (some a0) len cap->zs≠[]->a0.block<w.heap.size) :
 CallsIn F n Tryz.prog 183 #[.slice none 0 0,.func (.func 148) #[] #[.pointer (some ⟨Bs,0,none⟩)]] w fun e w'=>∃ v,e = .returned v/\w'.ownsRow w.heap.size 38 3 v zs.length (flat zs)/\Below w.heap.size w w':=by
 have h1:1<=n:=by omega
 obtain⟨i0,hi,hz0,hz1,hz2⟩:=info_parts Tryz.infoE;refine callsIn_of_wp_marks Tryz.func183 rfl h11 ?_ hro;simp only[Tryz.ntmps183,aL4,aE7,aI3,Nat.reduceAdd,Nat.reduceSub,aI8,Array.replicate_zero,List.push_toArray,List.append_toArray,aJ2,aG9];gi_wp2;have bS:=Boxed.new w 24 (.slice none 0 0);have b7:Below w.heap.size w (w.alloc (.cells #[.slice none 0 0] 24)):=aA _ _;refine wpIn_rangeFunc_ownH hro h1 (gf:=148) (lb:=#[.pointer (some ⟨Bs,0,none⟩)]) rfl h7 (enters_of Tryz.func148 (by kernel_rfl) rfl)
  (values_stops F (n-1) h7 hro (by omega) Bs w.heap.size v0 zs hz _ (by simp;omega) (by simp) ((b7.cell (p:=⟨Bs,0,none⟩) hBs).trans hc) (hI.below b7) hlow) belowK_t (belowK_b (by simp)) (YQ _ _) (fun _=>rfl)
  (fun pre W=>(∃ v,Boxed W w.heap.size 24 v/\W.ownsRow w.heap.size 38 3 v pre.length (flat pre)/\True)/\Below w.heap.size w W)
  (fun _ _ _=>False)
  (OwnFrom.and (Own.from (holdsRow_own w.heap.size w.heap.size 24 38 3 (fun pre:List E3=>pre.length) (fun pre=>flat pre) (fun _ _=>True)) _) (ownFrom_below (V7 _) (by simp)))
  (fun _ _ _ _ _ hs _ _=>hs)
  ⟨⟨_,bS,aG2 _ _ _ _,trivial⟩,b7⟩
  (fun x a' W=>∃ Bx,w.heap.size<Bx/\W.heap[Bx]?=some (.cells #[.int .i64 x.1,.int .i64 x.2.1,.int .i64 x.2.2] 38 (0,0))/\a'={ tmps:=#[.slice none 0 0,.func (.func 148) #[] #[.pointer (some ⟨Bs,0,none⟩)],.pointer (some ⟨w.heap.size,0,none⟩),undef,.slice none 0 0,.pointer (some ⟨Bx,0,none⟩),.func (.func 148) #[] #[.pointer (some ⟨Bs,0,none⟩)],.agg #[.int .i64 x.1,.int .i64 x.2.1,.int .i64 x.2.2],undef,undef,undef,undef,undef],defers:=[] })
  (fun x a' _ X Y row hs hg hr=>by obtain⟨Bx,h1,h2,h3⟩:=hs;exact⟨Bx,h1,LP h2 hg (fun r e=>(hr r e).2),h3⟩)
  ?assign ?a9 ?done ?stop
 case assign =>
  rintro l pre x W K ⟨⟨v,bS1,hr1,_⟩,a3⟩ hK;gi_wp2;exact hK _ _ ((KeepsOthers.alloc _ _).from _) ((YQ _ W).alloc a3.size _) ⟨⟨v,bS1.alloc _,hr1.alloc _,trivial⟩,a3.alloc a3.size _⟩ ⟨W.heap.size,bS1.lt,heap_alloc_new W _,rfl⟩
 case a9 =>
  rintro l pre x a' W hl ⟨r,hr⟩ ⟨⟨v,bS1,hrow,_⟩,a3⟩ ⟨Bx,hBx,bX,rfl⟩ hlt;obtain⟨x1,x2,x3⟩:=x;simp only at bX;obtain⟨k0,k1,k2⟩:=cells3 bX;have cS:=bS1.cell;have hsz:=a3.size;simp only;gi_wp2_with (gi_at_builtin;refine wpListIn_append_own _ rfl _ _ 24 rfl w.heap.size 38 i0 (.agg #[.int .i64 0,.int .i64 0,.int .i64 0]) 3 24 Tryz.underlying24 hi hz0 hz1 hz2 rfl (by decide) _ _ _ rfl (hrow.alloc _) ⟨W.heap.size,0,none⟩ 1 1 [.int .i64 x1,.int .i64 x2,.int .i64 x3] rfl rfl (SK _ _ _ _ _) (ED _ _ _) (by unfold maxLen;omega) (by omega) (uQ hsz) ?_;intro v' w1 hown' hgrow _;obtain⟨g',cap',rfl⟩:=ownsRow_succ hown';obtain⟨hv1,hv2,hr2,hk2,aG⟩:=bS1.appended (by decide) hrow a3.size (V7 _) hown' hgrow;have hc1:=hv1.cell;have hf1:=hv1.frozen)
  refine⟨hk2.from _,aG,⟨_,hv2,?_,trivial⟩,a3.trans aG⟩;rw[kL,WT];exact hr2
 case done =>
  rintro D ys W hD rfl ⟨⟨v,bS1,hrow,_⟩,a3⟩ hK;have cS:=bS1.cell;gi_wp2;refine⟨by simp,.inl ⟨_,_,rfl,run_takeDeferred hK,?_⟩⟩;exact⟨_,results_tmp rfl _ _ _,v,rfl,ownsRow_putObj hrow _ hK rfl,a3.trans (belowK_b (w:=w) (V7 _) W D _ _ (by simp at hD;omega) hK rfl rfl)⟩
 case stop =>
  rintro D c pre W _ _ h _;exact h.elim
end Go.Proofs.YtphjbbbnbmafnaaGreatDoor.G
namespace Go.Proofs.YtphjbbbnbmafnaaGreatDoor.G
open Go.RowKit
variable {L l:List E3} {cap g j k:Nat} {e x:E3} {W:World}
def aR(W:World)(g cap:Nat)(L:List E3):Prop:=∃ a1,W.heap[g]?=some (.cells a1 38 (0,0))/\a1.size=cap*3/\a1.toList.take (L.length*3)=flat L
theorem iQ(h:l[j]?=some e):(flat l)[j*3]?=some (.int .i64 e.1)/\(flat l)[j*3+1]?=some (.int .i64 e.2.1)/\(flat l)[j*3+2]?=some (.int .i64 e.2.2):=by
 have hj:j<l.length:=by
  rcases aG5 j l.length with e' | e'
  ·exact e'
  ·rw[aC7 e']at h;cases h
 have he:l[j]! = e:=by
  rw[getElem!_pos l j hj];rw[A7 hj]at h;exact aH5 h
 refine⟨?_,?_,?_⟩
 ·rw[qO l (j*3) (by omega),show j*3 / 3=j by omega,show j*3 % 3=0 by omega,he];rfl
 ·rw[qO l (j*3+1) (by omega),show(j*3+1) / 3=j by omega,show(j*3+1) % 3=1 by omega,he];rfl
 ·rw[qO l (j*3+2) (by omega),show(j*3+2) / 3=j by omega,show(j*3+2) % 3=2 by omega,he];rfl
theorem take_snoc'(h:l[k]?=some x):l.take (k+1)=l.take k++[x]:=by rw[aE0,h];rfl
theorem bN(h:l[j]?=some e):j<l.length:=by
 rcases aG5 j l.length with e' | e'
 ·exact e'
 ·rw[aC7 e']at h;cases h
theorem aR.cells(h:aR W g cap L)(hj:L[j]?=some e):W.cell? ⟨g,j*3,none⟩=some (.int .i64 e.1)/\W.cell? ⟨g,j*3+1,none⟩=some (.int .i64 e.2.1)/\W.cell? ⟨g,j*3+2,none⟩=some (.int .i64 e.2.2):=by
 obtain⟨a1,hg,_,ht⟩:=h;have hl:=bN hj;obtain⟨h0,h1,h2⟩:=iQ hj;rw[<-ht]at h0 h1 h2;rw[aI4 (by omega),aK5]at h0 h1 h2;exact⟨by rw[cell_of_row W g _ a1 _ _ hg];exact h0,by rw[cell_of_row W g _ a1 _ _ hg];exact h1,by rw[cell_of_row W g _ a1 _ _ hg];exact h2⟩
theorem aR.frozen(h:aR W g cap L)(o:Nat):W.frozen? ⟨g,o,none⟩=false:=by
 obtain⟨a1,hg,_,_⟩:=h;exact frozen_of_row W g o a1 _ hg
theorem aR.drewN(h:aR W g cap L)(q:Nat):aR (W.drewN q) g cap L:=h
theorem nZ(l m:List E3):flat (l++m)=flat l++flat m:=by unfold flat;rw[List.flatMap_append]
theorem rT:∀(l:List E3) (k:Nat) (x:E3),k<l.length->flat (l.set k x)=(((flat l).set (k*3) (.int .i64 x.1)).set (k*3+1) (.int .i64 x.2.1)).set (k*3+2) (.int .i64 x.2.2)
 | [],_,_,h=>by simp at h
 | e::l,0,x,_=>by rw[aJ7,l6,l6];rfl
 | e::l,k+1,x,h=>by
  rw[List.set_cons_succ,l6,l6,rT l k x (by simpa using h)];rw[show(k+1)*3=(vS e).length+k*3 by simp[vS];omega,show(vS e).length+k*3+1=(vS e).length+(k*3+1) by omega,show(vS e).length+k*3+2=(vS e).length+(k*3+2) by omega];rw[aI1 _ _ (by omega),aI1 _ _ (by omega),aI1 _ _ (by omega)];simp
theorem aR.put(h:aR W g cap L)(x:E3)(hk:k<L.length):aR (((W.setCell ⟨g,k*3,none⟩ (.int .i64 x.1)).setCell ⟨g,k*3+1,none⟩ (.int .i64 x.2.1)).setCell ⟨g,k*3+2,none⟩ (.int .i64 x.2.2)) g cap (L.set k x):=by
 obtain⟨a1,hg,hs,ht⟩:=h;have h1:=heap_setCell_same W g (k*3) a1 _ (.int .i64 x.1) hg;have h2:=heap_setCell_same _ g (k*3+1) _ _ (.int .i64 x.2.1) h1;have h3:=heap_setCell_same _ g (k*3+2) _ _ (.int .i64 x.2.2) h2;refine⟨_,h3,by simp[hs],?_⟩;rw[rT L k x hk,<-ht,List.length_set];simp only[Array.toList_setIfInBounds];rw[List.take_set,List.take_set,List.take_set]
theorem gX{A B C:World}{r:Option Nat}(h:A.grownBy B r)(k:B.grownBy C r):A.grownBy C r :=
 ⟨k.os.trans h.os,k.tape.trans h.tape,k.output.trans h.output,aD9 h.size k.size,fun i hi hr=>(k.block i (aF0 hi h.size) hr).trans (h.block i hi hr)⟩
theorem jR(W:World)(g o:Nat)(v:Value):W.grownBy (W.setCell ⟨g,o,none⟩ v) (some g) :=
 ⟨rfl,rfl,rfl,by simp[World.setCell],fun k _ hk=>heap_setCell_other _ _ _ _ (fun e=>hk (by rw[e]))⟩
theorem rZ(W:World)(q:Nat)(r:Option Nat):W.grownBy (W.drewN q) r:=⟨rfl,rfl,rfl,V7 _,fun _ _ _=>rfl⟩
theorem aAr(W:World)(g:Nat)(cs:Array Value):W.grownBy (W.setRow g cs) (some g) :=
 ⟨rfl,rfl,rfl,by simp,fun k _ hk=>setRow_other _ _ _ _ (fun e=>hk (by rw[e]))⟩
theorem MI(W:World)(g o n c:Nat)(ty t:TypeId)(a1:Array Value)(hg:W.heap[g]?=some (.cells a1 t (0,0)))(hn:0<n)(hfit:o+n*3<=a1.size):
 ∃ vs:List Value,vs.length=n*3/\(Builtin.clear_ #[24] ty #[.slice (some ⟨g,o,none⟩) n c]).run Tryz.prog W = .ok (.tuple #[]) (W.setRow g (a1.toList.take o++vs++a1.toList.drop (o+vs.length)).toArray):=by
 refine⟨(Builtin.zeroCells #[.int .i64 0,.int .i64 0,.int .i64 0] n).toList,by simp[Builtin.zeroCells],?_⟩;have hl:(Builtin.zeroCells #[.int .i64 0,.int .i64 0,.int .i64 0] n).toList.length=n*3:=by simp[Builtin.zeroCells]
 have hst:=run_storeCells_at Tryz.prog g o t (Builtin.zeroCells #[.int .i64 0,.int .i64 0,.int .i64 0] n).toList 0 a1 W hg (by rw[hl];omega) (fun v hv=>by
  simp only[Builtin.zeroCells,Array.toList_map,List.mem_map]at hv;obtain⟨i,_,rfl⟩:=hv;have:i % 3<3:=Nat.mod_lt _ (by decide);rcases(show i % 3=0\/i % 3=1\/i % 3=2 by omega)with e | e | e <;> simp[e] <;> rfl)
 simp only[Nat.add_zero]at hst;obtain⟨m,rfl⟩:∃ m,n=m+1:=⟨n-1,by omega⟩;have hz:(zeroValue 38).run Tryz.prog W = .ok (.agg #[.int .i64 0,.int .i64 0,.int .i64 0]) W:=Tryz.zeroValue38 W;simp[Builtin.clear_,run_underlying Tryz.underlying24,hz,Value.cells,hst]
theorem JR(l:List E3)(h:l.length<2):Gm.dd l=l:=by
 match l,h with
 | [],_=>rfl
 | [a],_=>rfl
theorem RD{m:Nat}{y:E3}(hx:l[m]?=some x)(hy:l[m-1]?=some y)(hm:0<m):Gm.dd (l.take (m+1))=Gm.dd (l.take m)++(if x=y then []else [x]):=by
 have hl:=bN hx;have a8:l.take m≠[]:=by
  intro e;have:=congrArg List.length e;rw[aD7,aI3]at this;omega
 rw[take_snoc' hx,Gm.dd_snoc _ a8];have:(l.take m).getLast a8=y:=by
  rw[List.getLast_eq_getElem];have h2:l[m-1]?=some y:=hy;rw[A7 (by omega)]at h2;simp only[List.getElem_take,aD7];have e:min m l.length-1=m-1:=by omega
  simp only[e];exact aH5 h2
 rw[this]
theorem E5(l:List E3)(base:Nat)(v:Value)(W:World)(hrow:W.ownsRow base 38 3 v l.length (flat l))(hl:l.length<=1000000):
 Calls Tryz.prog 92 #[v] W fun e w'=>∃ v',e = .returned v'/\w'.ownsRow base 38 3 v' (Gm.dd l).length (flat (Gm.dd l))/\W.grownBy w' v.ownBlock:=by
 by_cases h2:l.length<2
 ·have HD:Hid _:=JR l h2;have HR:Hid _:=hrow;rw[HD.out];have h2I:(l.length:Int)<2:=by omega
  obtain⟨a0,cap,rfl⟩:∃ a0 cap,v = .slice a0 l.length cap:=by
   rcases hrow.2 with ⟨rfl,h0⟩ | ⟨g,cap,a1,rfl,_⟩
   ·exact⟨none,0,by rw[h0]⟩
   ·exact⟨_,_,rfl⟩
  clear hrow;go_enter Tryz.func92,Tryz.ntmps92
  go_wp2;go_ret;exact⟨_,rfl,HR.out,⟨rfl,rfl,rfl,V7 _,fun _ _ _=>rfl⟩⟩
 ·have h2I:¬(l.length:Int)<2:=by omega
  obtain⟨g,cap,a1,rfl,a4,a7,r1,r2,r3,r4⟩:∃ g cap a1,v = .slice (some ⟨g,0,none⟩) l.length cap/\base<=g/\W.heap[g]?=some (.cells a1 38 (0,0))/\l.length<=cap/\cap<=maxLen/\a1.size=cap*3/\a1.toList.take (l.length*3)=flat l:=by
   rcases hrow.2 with ⟨rfl,h0⟩ | h
   ·omega
   ·exact h
  have b5:Hid (aR W g cap l):=⟨a1,a7,r3,r4⟩;have HB:Hid _:=hrow;have gE:=guardE;clear hrow a7 r3 r4;go_enter Tryz.func92,Tryz.ntmps92
  go_wp2;go_loopw [3] (fun sk wr=>∃ k q:Nat,1<=k/\k<=l.length/\sk = .int .i64 (k:Int)/\wr=W.drewN q/\Hid (Gm.dd (l.take k)=l.take k)) (fun sk _=>l.length-(intOf sk).toNat)
  case atStart=>exact⟨1,0,V7 _,by omega,rfl,rfl,(JR _ (by simp;omega):Gm.dd (l.take 1)=l.take 1)⟩
  case round =>
   obtain⟨k,q,hk1,hk2,rfl,rfl,HI⟩:=hrel;by_cases hlt:k<l.length
   ·obtain⟨x,hx⟩:∃ x,l[k]?=some x:=⟨_,A7 hlt⟩;obtain⟨y,hy⟩:∃ y,l[k-1]?=some y:=⟨_,A7 (by omega)⟩;obtain⟨c0,c1,c2⟩:=b5.out.cells hx;obtain⟨d0,d1,d2⟩:=b5.out.cells hy;have HT:=RD hx hy (by omega);have hkI:(k:Int)<(l.length:Int):=by omega
    have hk1I:(k:Int)-1=((k-1:Nat):Int):=by omega
    have hk1N:((k-1:Nat):Int)<(l.length:Int):=by omega
    obtain⟨x1,x2,x3⟩:=x;obtain⟨y1,y2,y3⟩:=y;simp only at c0 c1 c2 d0 d1 d2;by_cases hxe:(x1,x2,x3)=(y1,y2,y3)
    ·have b3:=EC x1 x2 x3 y1 y2 y3 true (decide_eq_true hxe);rw[if_pos hxe,aE4]at HT;have b6:Hid _:=HT;clear hxe HT hx hy;go_wp2;go_quiet (fail)
     go_wp2;go_loopw [3,5] (fun sm sj wr=>∃ m j:Nat,1<=j/\k+j<=l.length/\sj = .int .i64 (j:Int)/\sm = .int .i64 (m:Int)/\m<k+j/\Hid (m=(Gm.dd (l.take (k+j))).length/\aR wr g cap (Gm.dd (l.take (k+j))++l.drop m)/\W.grownBy wr (some g))) (fun _ sj _=>l.length-(intOf sj).toNat)
     case atStart =>
      refine⟨k,1,V7 _,by omega,rfl,rfl,by omega,?_⟩;have e:Gm.dd (l.take (k+1))=l.take k:=by rw[b6.out,HI.out]
      have e2:l.take k++l.drop k=l:=aD5 k l;exact(show _/\_/\_ from⟨by rw[e,aD7];omega,by rw[e,e2];exact b5.out,rZ _ _ _⟩)
     case round =>
      obtain⟨m,j,hj1,cA,rfl,rfl,hmj,HM⟩:=hrel;have hmk:((l.length-k:Nat):Int)=(l.length:Int)-(k:Int):=by omega
      by_cases hlt2:k+j<l.length
      ·obtain⟨x,hx⟩:∃ x,l[k+j]?=some x:=⟨_,A7 hlt2⟩;obtain⟨y,hy⟩:∃ y,l[k+j-1]?=some y:=⟨_,A7 (by omega)⟩;have b9:(Gm.dd (l.take (k+j))++l.drop m)[k+j]?=some x:=by
        rw[aC8 (by rw[<-HM.out.1];omega),<-HM.out.1,List.getElem?_drop,show m+(k+j-m)=k+j by omega];exact hx
       have bW:(Gm.dd (l.take (k+j))++l.drop m)[k+j-1]?=some y:=by
        rw[aC8 (by rw[<-HM.out.1];omega),<-HM.out.1,List.getElem?_drop,show m+(k+j-1-m)=k+j-1 by omega];exact hy
       obtain⟨c0,c1,c2⟩:=HM.out.2.1.cells b9;obtain⟨d0,d1,d2⟩:=HM.out.2.1.cells bW;rw[show(k+j)*3=k*3+j*3 by omega]at c0 c1 c2;rw[show(k+j-1)*3=k*3+(j-1)*3 by omega]at d0 d1 d2;have HT:=RD hx hy (by omega);have hjI:(j:Int)<((l.length-k:Nat):Int):=by omega
       have hj1I:(j:Int)-1=((j-1:Nat):Int):=by omega
       have hj1N:((j-1:Nat):Int)<((l.length-k:Nat):Int):=by omega
       have hmI:(m:Int)<(l.length:Int):=by omega
       obtain⟨x1,x2,x3⟩:=x;obtain⟨y1,y2,y3⟩:=y;simp only at c0 c1 c2 d0 d1 d2;by_cases hxe:(x1,x2,x3)=(y1,y2,y3)
       ·have b8:=EC x1 x2 x3 y1 y2 y3 true (decide_eq_true hxe);rw[if_pos hxe,aE4]at HT;have b2:Hid (Gm.dd (l.take (k+(j+1)))=Gm.dd (l.take (k+j))):=HT;clear hxe HT hx hy b9 bW hmk b3;go_wp2;go_quiet (fail)
        go_wp2;go_roundw;case rel =>
         refine⟨m,j+1,by omega,by omega,by go_num,rfl,by omega,?_⟩;rw[b2.out];exact(show _/\_/\_ from⟨HM.out.1,HM.out.2.1.drewN _,gX HM.out.2.2 (rZ _ _ _)⟩)
        case measure=>simp[intOf] <;> omega
       ·have b8:=EC x1 x2 x3 y1 y2 y3 false (decide_eq_false hxe);rw[if_neg hxe]at HT;have b2:Hid (Gm.dd (l.take (k+(j+1)))=Gm.dd (l.take (k+j))++[(x1,x2,x3)]):=HT;obtain⟨z,hz⟩:∃ z,l[m]?=some z:=⟨_,A7 (by omega)⟩;have hLz:(Gm.dd (l.take (k+j))++l.drop m)[m]?=some z:=by
         rw[aC8 (by rw[<-HM.out.1];exact V7 _),<-HM.out.1,List.getElem?_drop,aJ1];exact hz
        obtain⟨e0,e1,e2⟩:=HM.out.2.1.cells hLz;have f0:=HM.out.2.1.frozen (m*3);have f1:=HM.out.2.1.frozen (m*3+1);have f2:=HM.out.2.1.frozen (m*3+2);clear hxe HT hx hy b9 bW hmk b3 hz hLz;go_wp2;go_quiet (fail)
        go_wp2;have HP:Hid _:=(HM.out.2.1.drewN nq).put (k:=m) (x1,x2,x3) (by rw[WT,<-HM.out.1,aE1];omega);have HS:Hid ((Gm.dd (l.take (k+j))++l.drop m).set m (x1,x2,x3)=Gm.dd (l.take (k+(j+1)))++l.drop (m+1)):=(by
         rw[b2.out,aI1 _ _ (by rw[<-HM.out.1];exact V7 _),<-HM.out.1,aJ1,aD3];congr 1;rw[aG0 (by omega:m<l.length),aJ7];rfl:_=_)
        go_roundw;case rel =>
         refine⟨m+1,j+1,by omega,by omega,by go_num,by go_num,by omega,?_⟩;have h1:=HP.out;rw[HS.out]at h1;exact(show _/\_/\_ from⟨by rw[b2.out,WT,<-HM.out.1];rfl,h1,gX (gX (gX (gX HM.out.2.2 (rZ _ _ _)) (jR _ _ _ _)) (jR _ _ _ _)) (jR _ _ _ _)⟩)
        case measure=>simp[intOf] <;> omega
      ·have hkj:k+j=l.length:=by omega
       have hM:=HM.out;rw[hkj,aE3]at hM;obtain⟨a6,⟨a2,aL,b4,cB⟩,hgr⟩:=hM;have hmln:m<l.length:=by omega
       have hLl:(Gm.dd l++l.drop m).length=l.length:=by rw[WT,aE1,<-a6];omega
       rw[hLl]at cB;obtain⟨vs,hvl,c7⟩:=MI wr g (m*3) (l.length-m) (cap-m) 0 _ a2 aL (by omega) (by rw[b4];omega);have hjI:¬(j:Int)<((l.length-k:Nat):Int):=by omega
       have hmI:(m:Int)<=(l.length:Int):=by omega
       have HF:Hid ((wr.setRow g (a2.toList.take (m*3)++vs++a2.toList.drop (m*3+vs.length)).toArray).ownsRow base 38 3 (.slice (some ⟨g,0,none⟩) m cap) (Gm.dd l).length (flat (Gm.dd l))):=(by
        refine⟨bM _,.inr ⟨g,cap,_,by rw[a6],a4,setRow_heap _ _ _ _ _ _ aL,by rw[<-a6];omega,r2,?_,?_⟩⟩
        ·simp[b4,hvl];omega
        ·rw[<-a6];have e1:(a2.toList.take (m*3)).length=m*3:=by simp[b4];omega
         show((a2.toList.take (m*3)++vs++a2.toList.drop (m*3+vs.length)).toArray.toList).take (m*3)=_;rw[aD3,show(a2.toList.take (m*3)++(vs++a2.toList.drop (m*3+vs.length))).toArray.toList=a2.toList.take (m*3)++(vs++a2.toList.drop (m*3+vs.length))from rfl,aL5 (by omega),aD2 (by omega)];have h3:=congrArg (List.take (m*3)) cB;rw[List.take_take,aI0 (by omega),nZ,aL5 (by rw[bM,<-a6];exact V7 _)]at h3;have h4:(flat (Gm.dd l)).take (m*3)=flat (Gm.dd l):=aD2 (by rw[bM,<-a6];exact V7 _);rw[h4]at h3;exact h3:World.ownsRow _ _ _ _ _ _ _)
       have HGr:Hid (W.grownBy (wr.setRow g (a2.toList.take (m*3)++vs++a2.toList.drop (m*3+vs.length)).toArray) (some g)):=gX hgr (aAr _ _ _);generalize (a2.toList.take (m*3)++vs++a2.toList.drop (m*3+vs.length)).toArray=fin at c7 HF HGr;clear hkj a6 aL b4 cB hgr hLl hvl b3;go_wp2;go_ret;exact⟨_,rfl,HF.out,HGr.out⟩
    ·have b3:=EC x1 x2 x3 y1 y2 y3 false (decide_eq_false hxe);rw[if_neg hxe]at HT;have b6:Hid (Gm.dd (l.take (k+1))=l.take (k+1)):=(by rw[HT,HI.out,take_snoc' hx]:_=_);clear hxe HT hx hy;go_wp2;go_quiet (fail)
     go_wp2;go_roundw;case rel=>exact⟨k+1,_,by omega,by omega,by go_num,rfl,b6.out⟩
     case measure=>simp[intOf] <;> omega
   ·obtain rfl:k=l.length:=by omega
    have hI:=HI.out;rw[aE3]at hI;have HE:Hid (Gm.dd l=l):=hI;clear hI HI;go_wp2;go_ret;refine⟨_,rfl,?_,rZ _ _ _⟩;rw[HE.out];exact HB.out
theorem uG(Bs:Nat)(v0:Value)(zs:List E3)(hz:zs.length<=1000000)(w:World)(hBs:Bs<w.heap.size)(hc:w.cell? ⟨Bs,0,none⟩=some v0)(hI:aI w v0 zs)(hlow:∀ a0 len cap,v0 = .slice (some a0) len cap->zs≠[]->a0.block<w.heap.size):
 Calls Tryz.prog 146 #[.func (.func 148) #[] #[.pointer (some ⟨Bs,0,none⟩)]] w fun e w'=>∃ v,e = .returned v/\w'.ownsRow w.heap.size 38 3 v zs.length (flat zs)/\Below w.heap.size w w':=by
 have HA:Hid (Calls Tryz.prog 183 _ w _):=callsIn_wide.1 (appendSeq_in Fence.wide 9 trivial trivial rfl (by decide) Bs v0 zs hz w hBs hc hI hlow);go_enter Tryz.func146,Tryz.ntmps146
 go_wp2_with fail
 refine(aC0 HA.out ?_);rintro e w1 ⟨v,rfl,hrow,hB⟩;go_wp2;go_ret;exact⟨v,rfl,hrow,hB⟩
theorem LC(Bs:Nat)(v0:Value)(zs:List E3)(hz:zs.length<=1000000)(w:World)(hBs:Bs<w.heap.size)(hc:w.cell? ⟨Bs,0,none⟩=some v0)(hI:aI w v0 zs)(hlow:∀ a0 len cap,v0 = .slice (some a0) len cap->zs≠[]->a0.block<w.heap.size):
 Calls Tryz.prog 93 #[.func (.func 148) #[] #[.pointer (some ⟨Bs,0,none⟩)],.func (.func 95) #[] #[]] w fun e w'=>∃ v,e = .returned v/\w'.ownsRow w.heap.size 38 3 v zs.length (flat (zs.mergeSort fun x y => !Gm.ltE y x))/\Below w.heap.size w w':=by
 have HA:Hid (Calls Tryz.prog 146 _ w _):=uG Bs v0 zs hz w hBs hc hI hlow;go_enter Tryz.func93,Tryz.ntmps93
 go_wp2_with fail
 refine(aC0 HA.out ?_);rintro e w1 ⟨v,rfl,hrow,hB⟩;have HS:Hid (Calls Tryz.prog 147 _ w1 _):=OU zs w.heap.size v w1 hrow hz;have HB:Hid (∀ k,v.ownBlock=some k->w.heap.size<=k):=(fun k hk=>(hrow.lt k hk).1:∀ k,v.ownBlock=some k->w.heap.size<=k);have HBe:Hid _:=hB;clear hrow hB;go_wp2_with fail
 refine(aC0 HS.out ?_);rintro e w2 ⟨rfl,hrow2,aL⟩;go_wp2;go_ret;exact⟨v,rfl,hrow2,HBe.out.grown aL HBe.out.size HB.out⟩
theorem kJ{w wr:World}{v:Value}(h:wr.ownsRow w.heap.size 38 3 v l.length (flat l)):aI wr v l:=by
 rcases h.2 with ⟨rfl,h0⟩ | ⟨g,cap,a1,rfl,_,hg,r1,r2,r3,r4⟩
 ·obtain rfl:l=[]:=aD8 h0;exact⟨none,0,rfl,fun j e hj=>by cases hj⟩
 ·refine⟨some ⟨g,0,none⟩,cap,rfl,fun j e hj=>⟨g,0,rfl,?_⟩⟩;have hR:aR wr g cap l:=⟨a1,hg,r3,r4⟩;rw[aG1];exact hR.cells hj
theorem FN(v0:Value)(zs:List E3)(hz:zs.length<=1000000)(w:World)(hI:aI w v0 zs):
 Calls Tryz.prog 52 #[v0] w fun e w'=>∃ v,e = .returned v/\w'.ownsRow w.heap.size 38 3 v (Gm.TM zs).length (flat (Gm.TM zs))/\Below w.heap.size w w':=by
 obtain⟨a0,cap,rfl,hed⟩:=id hI;have HV:Hid (Calls Tryz.prog 94 _ w _):=callsIn_wide.1 (values_in Fence.wide 9 trivial rfl a0 zs.length cap w);have a3:=aA w (.cells #[.slice a0 zs.length cap] 24);have HS:Hid (Calls Tryz.prog 93 _ (w.alloc (.cells #[.slice a0 zs.length cap] 24)) _):=LC w.heap.size (.slice a0 zs.length cap) zs hz (w.alloc (.cells #[.slice a0 zs.length cap] 24)) (by simp) (by simp) (hI.below a3) (fun b0 len2 cap2 e a8=>by
  cases e;cases zs with
  | nil=>exact absurd rfl a8
  | cons z zs =>
   obtain⟨g,off,e2,c0,_⟩:=hed 0 z rfl;cases e2;have:=aE6 _ _ c0;simp at this ⊢;omega)
 have HB1:Hid _:=a3;clear hed hI a3;go_enter Tryz.func52,Tryz.ntmps52
 go_wp2_with fail
 refine(aC0 HV.out ?_);rintro e w1 ⟨rfl,hw⟩;rw[hw];clear hw w1;go_wp2_with fail
 refine(aC0 HS.out ?_);rintro e w2 ⟨v,rfl,hrow,hB2⟩;have hm:(zs.mergeSort fun x y => !Gm.ltE y x).length=zs.length:=List.length_mergeSort _;rw[<-hm]at hrow;have HC:Hid (Calls Tryz.prog 92 _ w2 _):=E5 _ _ v w2 hrow (by omega);have aG:=HB1.out.trans (hB2.mono (by simp));have HB2:Hid _:=aG;have HBk:Hid (∀ k,v.ownBlock=some k->w.heap.size<=k):=(fun k hk=>by have:=(hrow.lt k hk).1;simp at this;omega:∀ k,v.ownBlock=some k->w.heap.size<=k);clear hrow hB2 aG;go_wp2_with fail
 refine(aC0 HC.out ?_);rintro e w3 ⟨v',rfl,hrow3,hg3⟩;go_wp2;go_ret;refine⟨v',rfl,?_,HB2.out.grown hg3 HB2.out.size HBk.out⟩;refine⟨hrow3.1,?_⟩;rcases hrow3.2 with h0 | ⟨g,cap,a1,hv,hb,r⟩
 ·exact .inl h0
 ·exact .inr ⟨g,cap,a1,hv,by simp at hb;omega,r⟩
end Go.Proofs.YtphjbbbnbmafnaaGreatDoor.G
