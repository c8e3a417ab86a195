/- Parts: PSp16 PSp8 SortI PIn PIo. -/
import Derived.Test.YtphjbbbnbmafnaaGreatDoorNumsOf16
import Derived.Test.YtphjbbbnbmafnaaGreatDoorPEo
import Derived.Test.YtphjbbbnbmafnaaGreatDoorLeast8
import Derived.Test.YtphjbbbnbmafnaaGreatDoorBld
import Derived.Sort.OwnSortedInts
import Derived.Deep.DeepCutAuto
set_option maxHeartbeats 8000000
set_option maxRecDepth 100000
namespace Go.Proofs.YtphjbbbnbmafnaaGreatDoor.S16
open Go.RowKit
variable {w:World} {b g:Nat} {l:List Nat}
attribute [local go_sem ↓] Go.wp_at_zero Go.wp_at_succ
theorem whole_any(hs:bB 16 w b g l):
 Calls Tryz.prog 68 #[.pointer (some ⟨b,0,none⟩)] w fun e w'=>e = .returned (.agg #[.int .i64 0,.int .i64 (l.length:Int)])/\Below w.heap.size w w':=by
 have hB:=G.aA w (.cells #[.int .i64 0,.int .i64 0] 40);have HL:Hid (Calls Tryz.prog 120 _ (w.alloc (.cells #[.int .i64 0,.int .i64 0] 40)) _):=len_any (hs.below hB);clear hs hB;go_enter Tryz.func68,Tryz.ntmps68
 go_wp2_with fail
 refine(aC0 HL.out ?_);rintro e w1 ⟨rfl,hw⟩;rw[hw];clear hw w1;go_wp2;refine bodyPost_ret (v:=.agg #[.int .i64 0,.int .i64 (l.length:Int)]) (by simp[results,Tryz.results68,go_sem]) rfl ?_;exact⟨rfl,G.aA _ _⟩
abbrev belowV(b:Nat):Value:=.func (.func 67) #[.pointer (some ⟨b,0,none⟩)] #[]
theorem fJ(hs:bB 16 w b g l)(x y:Nat)(hxy:x<=y)(hy:y<=l.length)(F X:Nat)(hF:w.cell? ⟨F,0,none⟩=some (belowV b))(hX0:w.cell? ⟨X,0,none⟩=some (.int .i64 (x:Int)))(hX1:w.cell? ⟨X,1,none⟩=some (.int .i64 (y:Int)))(c:Nat)(hc:c<2 ^ 16):
 Calls Tryz.prog 117 #[.int .i64 (c:Int),.pointer (some ⟨F,0,none⟩),.pointer (some ⟨X,0,none⟩)] w fun e w'=>e = .returned (.int .i64 (bel l x y c:Int))/\Below w.heap.size w w':=by
 have HL:Hid (Calls Tryz.prog 67 _ w _):=below_yes hs c x y hc hxy hy;have hb:=rE l x y c;have hn:=hs.hn;have aL:c<65536:=hc;clear hs;go_enter Tryz.func117,Tryz.ntmps117
 go_wp2_with fail
 refine(aC0 HL.out ?_);rintro e w1 ⟨rfl,a0⟩;have a6:Hid _:=a0;clear a0;go_wp2;go_ret;exact⟨rfl,a6.out⟩
theorem tT(hs:bB 16 w b g l)(x y:Nat)(hxy:x<=y)(hy:y<=l.length)(F X:Nat)(hF:w.cell? ⟨F,0,none⟩=some (belowV b))(hX0:w.cell? ⟨X,0,none⟩=some (.int .i64 (x:Int)))(hX1:w.cell? ⟨X,1,none⟩=some (.int .i64 (y:Int)))(a d:Nat)(ha:a<2 ^ 16)(hd:d<2 ^ 16):
 Calls Tryz.prog 64 #[.agg #[.int .i64 (a:Int),.int .i64 (d:Int)],.func (.func 117) #[] #[.pointer (some ⟨F,0,none⟩),.pointer (some ⟨X,0,none⟩)]] w fun e w'=>e = .returned (.agg #[.int .i64 (bel l x y a:Int),.int .i64 (bel l x y d:Int)])/\Below w.heap.size w w':=by
 have hB:=G.jJ w (.cells #[.int .i64 (a:Int),.int .i64 (d:Int)] 40) (.cells #[.int .i64 0,.int .i64 0] 40);have HB:Hid _:=hB;have HS:Hid _:=hs.below hB;have HF:Hid _:=cell_kept hB _ _ hF;have cD:Hid _:=cell_kept hB _ _ hX0;have cE:Hid _:=cell_kept hB _ _ hX1;obtain⟨k0,k1,k2,k3,m0,m1⟩:=G.vO w (.int .i64 (a:Int)) (.int .i64 (d:Int)) (.int .i64 0) (.int .i64 0) 40;have HA:Hid (∀ W,Below ((w.alloc (.cells #[.int .i64 (a:Int),.int .i64 (d:Int)] 40)).alloc (.cells #[.int .i64 0,.int .i64 0] 40)).heap.size ((w.alloc (.cells #[.int .i64 (a:Int),.int .i64 (d:Int)] 40)).alloc (.cells #[.int .i64 0,.int .i64 0] 40)) W->Calls Tryz.prog 117 #[.int .i64 (a:Int),.pointer (some ⟨F,0,none⟩),.pointer (some ⟨X,0,none⟩)] W _):=fun W h=>fJ (HS.out.below h) x y hxy hy F X (cell_kept h _ _ HF.out) (cell_kept h _ _ cD.out) (cell_kept h _ _ cE.out) a ha;have HD:Hid (∀ W,Below ((w.alloc (.cells #[.int .i64 (a:Int),.int .i64 (d:Int)] 40)).alloc (.cells #[.int .i64 0,.int .i64 0] 40)).heap.size ((w.alloc (.cells #[.int .i64 (a:Int),.int .i64 (d:Int)] 40)).alloc (.cells #[.int .i64 0,.int .i64 0] 40)) W->Calls Tryz.prog 117 #[.int .i64 (d:Int),.pointer (some ⟨F,0,none⟩),.pointer (some ⟨X,0,none⟩)] W _):=fun W h=>fJ (HS.out.below h) x y hxy hy F X (cell_kept h _ _ HF.out) (cell_kept h _ _ cD.out) (cell_kept h _ _ cE.out) d hd;clear hs hB hF hX0 hX1;go_enter Tryz.func64,Tryz.ntmps64
 go_wp2_with fail
 go_region_held3 (fun w'=>w'.cell? ⟨w.heap.size,0,none⟩=some (.int .i64 (a:Int))/\w'.cell? ⟨w.heap.size,1,none⟩=some (.int .i64 (d:Int))) (go_keep)
  (first
   | (go_at_call_of 117 (Value.int IntKind.i64 (a:Int));refine(HA.out _ ?_).mono ?_;(first | exact(YQ _ _).drew | exact a5 | exact a5.drew);rintro r wa ⟨rfl,hB0a⟩;have a4:Below ((w.alloc (.cells #[.int .i64 (a:Int),.int .i64 (d:Int)] 40)).alloc (.cells #[.int .i64 0,.int .i64 0] 40)).heap.size ((w.alloc (.cells #[.int .i64 (a:Int),.int .i64 (d:Int)] 40)).alloc (.cells #[.int .i64 0,.int .i64 0] 40)) wa:=(by first | exact(((YQ _ _).drew).trans hB0a) | exact chain a5 hB0a | exact chain a5 (((YQ _ _).drew).trans hB0a));have q1a:=cell_kept a4 _ _ k0;have q2a:=cell_kept a4 _ _ k1;have q3a:=cell_kept a4 _ _ k2;have q4a:=cell_kept a4 _ _ k3;have q5a:=(a4.frozen (p:=⟨w.heap.size+1,0,none⟩) (by simp)).trans m0;have q6a:=(a4.frozen (p:=⟨w.heap.size+1,1,none⟩) (by simp)).trans m1;have q7a:=a4.size)
   | (go_at_call_of 117 (Value.int IntKind.i64 (d:Int));refine(HD.out _ ?_).mono ?_;(first | exact(YQ _ _).drew | exact a4 | exact a4.drew);rintro r wd ⟨rfl,hB0d⟩;have a5:Below ((w.alloc (.cells #[.int .i64 (a:Int),.int .i64 (d:Int)] 40)).alloc (.cells #[.int .i64 0,.int .i64 0] 40)).heap.size ((w.alloc (.cells #[.int .i64 (a:Int),.int .i64 (d:Int)] 40)).alloc (.cells #[.int .i64 0,.int .i64 0] 40)) wd:=(by first | exact(((YQ _ _).drew).trans hB0d) | exact chain a4 hB0d | exact chain a4 (((YQ _ _).drew).trans hB0d));have q1d:=cell_kept a5 _ _ k0;have q2d:=cell_kept a5 _ _ k1;have q3d:=cell_kept a5 _ _ k2;have q4d:=cell_kept a5 _ _ k3;have q5d:=(a5.frozen (p:=⟨w.heap.size+1,0,none⟩) (by simp)).trans m0;have q6d:=(a5.frozen (p:=⟨w.heap.size+1,1,none⟩) (by simp)).trans m1;have q7d:=a5.size))
 all_goals
  go_wp2;refine bodyPost_ret (v:=.agg #[.int .i64 (bel l x y a:Int),.int .i64 (bel l x y d:Int)]) (by simp[results,Tryz.results64,go_sem, *]) rfl ?_;first
   | exact⟨rfl,((chain HB.out a5).setCell (p:=⟨w.heap.size+1,0,none⟩) (aK2 _) _).setCell (p:=⟨w.heap.size+1,1,none⟩) (aK2 _) _⟩
   | exact⟨rfl,((chain HB.out a4).setCell (p:=⟨w.heap.size+1,0,none⟩) (aK2 _) _).setCell (p:=⟨w.heap.size+1,1,none⟩) (aK2 _) _⟩
theorem spansort_any(hs:bB 16 w b g l)(x y:Nat)(hxy:x<=y)(hy:y<=l.length)(a d:Nat)(ha:a<2 ^ 16)(hd:d<2 ^ 16):
 Calls Tryz.prog 66 #[belowV b,.agg #[.int .i64 (x:Int),.int .i64 (y:Int)],.agg #[.int .i64 (a:Int),.int .i64 (d:Int)]] w fun e w'=>e = .returned (.agg #[.int .i64 (bel l x y a:Int),.int .i64 (bel l x y d:Int)])/\Below w.heap.size w w':=by
 have b8:=G.aA w (.cells #[belowV b] 122);have b9:=b8.alloc b8.size (.cells #[.int .i64 (x:Int),.int .i64 (y:Int)] 40);have bS:=b9.alloc b9.size (.cells #[.int .i64 (a:Int),.int .i64 (d:Int)] 40);have b2:=bS.alloc bS.size (.cells #[.int .i64 0,.int .i64 0] 40);generalize hw4:(((w.alloc (.cells #[belowV b] 122)).alloc (.cells #[.int .i64 (x:Int),.int .i64 (y:Int)] 40)).alloc (.cells #[.int .i64 (a:Int),.int .i64 (d:Int)] 40)).alloc (.cells #[.int .i64 0,.int .i64 0] 40)=w4 at b2;have e0:w4.heap[w.heap.size]?=some (.cells #[belowV b] 122 (0,0)):=by
  rw[<-hw4,G.dI (by simp <;> omega),G.dI (by simp <;> omega),G.dI (by simp)];exact heap_alloc_new _ _
 have e1:w4.heap[w.heap.size+1]?=some (.cells #[.int .i64 (x:Int),.int .i64 (y:Int)] 40 (0,0)):=by
  rw[<-hw4,G.dI (by simp <;> omega),G.dI (by simp)];have:=heap_alloc_new (w.alloc (.cells #[belowV b] 122)) (.cells #[.int .i64 (x:Int),.int .i64 (y:Int)] 40);rwa [aD1]at this
 have e3:w4.heap[w.heap.size+3]?=some (.cells #[.int .i64 0,.int .i64 0] 40 (0,0)):=by
  rw[<-hw4];have:=heap_alloc_new (((w.alloc (.cells #[belowV b] 122)).alloc (.cells #[.int .i64 (x:Int),.int .i64 (y:Int)] 40)).alloc (.cells #[.int .i64 (a:Int),.int .i64 (d:Int)] 40)) (.cells #[.int .i64 0,.int .i64 0] 40);rwa [aD1,aD1,aD1]at this
 have f0:w4.cell? ⟨w.heap.size,0,none⟩=some (belowV b):=by rw[cell_of_row _ _ 0 _ _ _ e0];rfl
 have f1:w4.cell? ⟨w.heap.size+1,0,none⟩=some (.int .i64 (x:Int)):=by rw[cell_of_row _ _ 0 _ _ _ e1];rfl
 have f2:w4.cell? ⟨w.heap.size+1,1,none⟩=some (.int .i64 (y:Int)):=by rw[cell_of_row _ _ 1 _ _ _ e1];rfl
 have HE:Hid (Calls Tryz.prog 64 _ w4 _):=tT (hs.below b2) x y hxy hy w.heap.size (w.heap.size+1) f0 f1 f2 a d ha hd;rw[<-hw4]at HE;have b0:Hid _:=b2;have cB:Hid _:=e3;have cS:Hid _:=hw4;clear hs b8 b9 bS b2 e0 e1 e3 f0 f1 f2 hw4;go_enter Tryz.func66,Tryz.ntmps66
 go_wp2_with fail
 refine(aC0 HE.out ?_);rw[cS.out];rintro e w5 ⟨rfl,hB5⟩;have h3:=(hB5.block _ (aC2.1 cB.out).1).trans cB.out;have y0:w5.cell? ⟨w.heap.size+3,0,none⟩=some (.int .i64 0):=by rw[cell_of_row w5 _ 0 _ _ _ h3];rfl
 have y1:w5.cell? ⟨w.heap.size+3,1,none⟩=some (.int .i64 0):=by rw[cell_of_row w5 _ 1 _ _ _ h3];rfl
 have z0:=frozen_of_row w5 _ 0 _ _ h3;have z1:=frozen_of_row w5 _ 1 _ _ h3;have hs5:=(aC2.1 h3).1;have b7:Hid _:=chain b0.out hB5;clear hB5 h3;go_wp2;refine bodyPost_ret (v:=.agg #[.int .i64 (bel l x y a:Int),.int .i64 (bel l x y d:Int)]) (by simp[results,Tryz.results66,go_sem, *]) rfl ?_;exact⟨rfl,(b7.out.setCell (p:=⟨w.heap.size+3,0,none⟩) (Nat.le_add_right _ _) _).setCell (p:=⟨w.heap.size+3,1,none⟩) (Nat.le_add_right _ _) _⟩
theorem placeof_any(hs:bB 16 w b g l)(q:Nat)(hq:q<l.length):
 Calls Tryz.prog 70 #[.pointer (some ⟨b,0,none⟩),.int .i64 (q:Int)] w fun e w'=>∃ t:Nat,e = .returned (.int .i64 (t:Int))/\G.Pl l q t/\Below w.heap.size w w':=by
 have hn:=hs.hn;have HS:Hid _:=hs;have HW:Hid (∀ W,bB 16 W b g l->Calls Tryz.prog 68 #[.pointer (some ⟨b,0,none⟩)] W _):=fun W h=>whole_any h;clear hs;go_enter Tryz.func70,Tryz.ntmps70
 go_wp2_with fail
 refine(aC0 (HW.out _ HS.out) ?_);rintro e w1 ⟨rfl,a0⟩;have a6:Hid _:=a0;have HL:Hid (Calls Tryz.prog 125 _ w1 _):=vH (HS.out.below a0) 0 l.length q (aC6 _) (V7 _) (by omega);clear a0;go_wp2_with fail
 refine(aC0 HL.out ?_);rintro e w2 ⟨c,rfl,⟨c0,aL,hc3⟩,a7⟩;have a9:Hid _:=chain a6.out a7;obtain⟨t,ht,hk⟩:=G.pl_find c0 aL;have HP:Hid (G.Pl l q t):=G.pl_of ht hk c0;have cV:c<65536:=hc3;have cP:Hid (∀ W,bB 16 W b g l->Calls Tryz.prog 67 #[.pointer (some ⟨b,0,none⟩),.agg #[.int .i64 0,.int .i64 (l.length:Int)],.int .u16 (c:Int)] W _):=fun W h=>below_yes h c 0 l.length hc3 (aC6 _) (V7 _);have cR:Hid (∀ W,bB 16 W b g l->Calls Tryz.prog 126 #[.pointer (some ⟨b,0,none⟩),.int .u16 (c:Int),.int .i64 ((q:Int)-(bel l 0 l.length c:Int))] W _):=fun W h=>uP h c t ht _ (by rw[hk];omega);have hb:=rE l 0 l.length c;clear a7 HL ht hk aL;go_wp2_with fail
 refine(aC0 (HW.out _ (HS.out.below a9.out)) ?_);rintro e w3 ⟨rfl,a8⟩;have c8:Hid _:=chain a9.out a8;clear a8;go_wp2_with fail
 refine(aC0 (cP.out _ (HS.out.below c8.out)) ?_);rintro e w4 ⟨rfl,aG⟩;have b0:Hid _:=chain c8.out aG;clear aG;go_wp2_with fail
 refine(aC0 (cR.out _ (HS.out.below b0.out)) ?_);rintro e w5 ⟨rfl,hB5⟩;have b7:Hid _:=chain b0.out hB5;clear hB5;go_wp2;go_ret;exact⟨t,rfl,HP.out,b7.out⟩
end Go.Proofs.YtphjbbbnbmafnaaGreatDoor.S16
namespace Go.Proofs.YtphjbbbnbmafnaaGreatDoor.S8
open Go.RowKit
variable {w:World} {b g:Nat} {l:List Nat}
attribute [local go_sem ↓] Go.wp_at_zero Go.wp_at_succ
theorem whole_any(hs:bB 8 w b g l):
 Calls Tryz.prog 122 #[.pointer (some ⟨b,0,none⟩)] w fun e w'=>e = .returned (.agg #[.int .i64 0,.int .i64 (l.length:Int)])/\Below w.heap.size w w':=by
 have hB:=G.aA w (.cells #[.int .i64 0,.int .i64 0] 40);have HL:Hid (Calls Tryz.prog 162 _ (w.alloc (.cells #[.int .i64 0,.int .i64 0] 40)) _):=len_any (hs.below hB);clear hs hB;go_enter Tryz.func122,Tryz.ntmps122
 go_wp2_with fail
 refine(aC0 HL.out ?_);rintro e w1 ⟨rfl,hw⟩;rw[hw];clear hw w1;go_wp2;refine bodyPost_ret (v:=.agg #[.int .i64 0,.int .i64 (l.length:Int)]) (by simp[results,Tryz.results122,go_sem]) rfl ?_;exact⟨rfl,G.aA _ _⟩
abbrev belowV(b:Nat):Value:=.func (.func 123) #[.pointer (some ⟨b,0,none⟩)] #[]
theorem fJ(hs:bB 8 w b g l)(x y:Nat)(hxy:x<=y)(hy:y<=l.length)(F X:Nat)(hF:w.cell? ⟨F,0,none⟩=some (belowV b))(hX0:w.cell? ⟨X,0,none⟩=some (.int .i64 (x:Int)))(hX1:w.cell? ⟨X,1,none⟩=some (.int .i64 (y:Int)))(c:Nat)(hc:c<2 ^ 8):
 Calls Tryz.prog 177 #[.int .i64 (c:Int),.pointer (some ⟨F,0,none⟩),.pointer (some ⟨X,0,none⟩)] w fun e w'=>e = .returned (.int .i64 (bel l x y c:Int))/\Below w.heap.size w w':=by
 have HL:Hid (Calls Tryz.prog 123 _ w _):=below_yes hs c x y hc hxy hy;have hb:=rE l x y c;have hn:=hs.hn;have aL:c<256:=hc;clear hs;go_enter Tryz.func177,Tryz.ntmps177
 go_wp2_with fail
 refine(aC0 HL.out ?_);rintro e w1 ⟨rfl,a0⟩;have a6:Hid _:=a0;clear a0;go_wp2;go_ret;exact⟨rfl,a6.out⟩
theorem tT(hs:bB 8 w b g l)(x y:Nat)(hxy:x<=y)(hy:y<=l.length)(F X:Nat)(hF:w.cell? ⟨F,0,none⟩=some (belowV b))(hX0:w.cell? ⟨X,0,none⟩=some (.int .i64 (x:Int)))(hX1:w.cell? ⟨X,1,none⟩=some (.int .i64 (y:Int)))(a d:Nat)(ha:a<2 ^ 8)(hd:d<2 ^ 8):
 Calls Tryz.prog 64 #[.agg #[.int .i64 (a:Int),.int .i64 (d:Int)],.func (.func 177) #[] #[.pointer (some ⟨F,0,none⟩),.pointer (some ⟨X,0,none⟩)]] w fun e w'=>e = .returned (.agg #[.int .i64 (bel l x y a:Int),.int .i64 (bel l x y d:Int)])/\Below w.heap.size w w':=by
 have hB:=G.jJ w (.cells #[.int .i64 (a:Int),.int .i64 (d:Int)] 40) (.cells #[.int .i64 0,.int .i64 0] 40);have HB:Hid _:=hB;have HS:Hid _:=hs.below hB;have HF:Hid _:=cell_kept hB _ _ hF;have cD:Hid _:=cell_kept hB _ _ hX0;have cE:Hid _:=cell_kept hB _ _ hX1;obtain⟨k0,k1,k2,k3,m0,m1⟩:=G.vO w (.int .i64 (a:Int)) (.int .i64 (d:Int)) (.int .i64 0) (.int .i64 0) 40;have HA:Hid (∀ W,Below ((w.alloc (.cells #[.int .i64 (a:Int),.int .i64 (d:Int)] 40)).alloc (.cells #[.int .i64 0,.int .i64 0] 40)).heap.size ((w.alloc (.cells #[.int .i64 (a:Int),.int .i64 (d:Int)] 40)).alloc (.cells #[.int .i64 0,.int .i64 0] 40)) W->Calls Tryz.prog 177 #[.int .i64 (a:Int),.pointer (some ⟨F,0,none⟩),.pointer (some ⟨X,0,none⟩)] W _):=fun W h=>fJ (HS.out.below h) x y hxy hy F X (cell_kept h _ _ HF.out) (cell_kept h _ _ cD.out) (cell_kept h _ _ cE.out) a ha;have HD:Hid (∀ W,Below ((w.alloc (.cells #[.int .i64 (a:Int),.int .i64 (d:Int)] 40)).alloc (.cells #[.int .i64 0,.int .i64 0] 40)).heap.size ((w.alloc (.cells #[.int .i64 (a:Int),.int .i64 (d:Int)] 40)).alloc (.cells #[.int .i64 0,.int .i64 0] 40)) W->Calls Tryz.prog 177 #[.int .i64 (d:Int),.pointer (some ⟨F,0,none⟩),.pointer (some ⟨X,0,none⟩)] W _):=fun W h=>fJ (HS.out.below h) x y hxy hy F X (cell_kept h _ _ HF.out) (cell_kept h _ _ cD.out) (cell_kept h _ _ cE.out) d hd;clear hs hB hF hX0 hX1;go_enter Tryz.func64,Tryz.ntmps64
 go_wp2_with fail
 go_region_held3 (fun w'=>w'.cell? ⟨w.heap.size,0,none⟩=some (.int .i64 (a:Int))/\w'.cell? ⟨w.heap.size,1,none⟩=some (.int .i64 (d:Int))) (go_keep)
  (first
   | (go_at_call_of 177 (Value.int IntKind.i64 (a:Int));refine(HA.out _ ?_).mono ?_;(first | exact(YQ _ _).drew | exact a5 | exact a5.drew);rintro r wa ⟨rfl,hB0a⟩;have a4:Below ((w.alloc (.cells #[.int .i64 (a:Int),.int .i64 (d:Int)] 40)).alloc (.cells #[.int .i64 0,.int .i64 0] 40)).heap.size ((w.alloc (.cells #[.int .i64 (a:Int),.int .i64 (d:Int)] 40)).alloc (.cells #[.int .i64 0,.int .i64 0] 40)) wa:=(by first | exact(((YQ _ _).drew).trans hB0a) | exact chain a5 hB0a | exact chain a5 (((YQ _ _).drew).trans hB0a));have q1a:=cell_kept a4 _ _ k0;have q2a:=cell_kept a4 _ _ k1;have q3a:=cell_kept a4 _ _ k2;have q4a:=cell_kept a4 _ _ k3;have q5a:=(a4.frozen (p:=⟨w.heap.size+1,0,none⟩) (by simp)).trans m0;have q6a:=(a4.frozen (p:=⟨w.heap.size+1,1,none⟩) (by simp)).trans m1;have q7a:=a4.size)
   | (go_at_call_of 177 (Value.int IntKind.i64 (d:Int));refine(HD.out _ ?_).mono ?_;(first | exact(YQ _ _).drew | exact a4 | exact a4.drew);rintro r wd ⟨rfl,hB0d⟩;have a5:Below ((w.alloc (.cells #[.int .i64 (a:Int),.int .i64 (d:Int)] 40)).alloc (.cells #[.int .i64 0,.int .i64 0] 40)).heap.size ((w.alloc (.cells #[.int .i64 (a:Int),.int .i64 (d:Int)] 40)).alloc (.cells #[.int .i64 0,.int .i64 0] 40)) wd:=(by first | exact(((YQ _ _).drew).trans hB0d) | exact chain a4 hB0d | exact chain a4 (((YQ _ _).drew).trans hB0d));have q1d:=cell_kept a5 _ _ k0;have q2d:=cell_kept a5 _ _ k1;have q3d:=cell_kept a5 _ _ k2;have q4d:=cell_kept a5 _ _ k3;have q5d:=(a5.frozen (p:=⟨w.heap.size+1,0,none⟩) (by simp)).trans m0;have q6d:=(a5.frozen (p:=⟨w.heap.size+1,1,none⟩) (by simp)).trans m1;have q7d:=a5.size))
 all_goals
  go_wp2;refine bodyPost_ret (v:=.agg #[.int .i64 (bel l x y a:Int),.int .i64 (bel l x y d:Int)]) (by simp[results,Tryz.results64,go_sem, *]) rfl ?_;first
   | exact⟨rfl,((chain HB.out a5).setCell (p:=⟨w.heap.size+1,0,none⟩) (aK2 _) _).setCell (p:=⟨w.heap.size+1,1,none⟩) (aK2 _) _⟩
   | exact⟨rfl,((chain HB.out a4).setCell (p:=⟨w.heap.size+1,0,none⟩) (aK2 _) _).setCell (p:=⟨w.heap.size+1,1,none⟩) (aK2 _) _⟩
theorem spansort_any(hs:bB 8 w b g l)(x y:Nat)(hxy:x<=y)(hy:y<=l.length)(a d:Nat)(ha:a<2 ^ 8)(hd:d<2 ^ 8):
 Calls Tryz.prog 129 #[belowV b,.agg #[.int .i64 (x:Int),.int .i64 (y:Int)],.agg #[.int .i64 (a:Int),.int .i64 (d:Int)]] w fun e w'=>e = .returned (.agg #[.int .i64 (bel l x y a:Int),.int .i64 (bel l x y d:Int)])/\Below w.heap.size w w':=by
 have b8:=G.aA w (.cells #[belowV b] 219);have b9:=b8.alloc b8.size (.cells #[.int .i64 (x:Int),.int .i64 (y:Int)] 40);have bS:=b9.alloc b9.size (.cells #[.int .i64 (a:Int),.int .i64 (d:Int)] 40);have b2:=bS.alloc bS.size (.cells #[.int .i64 0,.int .i64 0] 40);generalize hw4:(((w.alloc (.cells #[belowV b] 219)).alloc (.cells #[.int .i64 (x:Int),.int .i64 (y:Int)] 40)).alloc (.cells #[.int .i64 (a:Int),.int .i64 (d:Int)] 40)).alloc (.cells #[.int .i64 0,.int .i64 0] 40)=w4 at b2;have e0:w4.heap[w.heap.size]?=some (.cells #[belowV b] 219 (0,0)):=by
  rw[<-hw4,G.dI (by simp <;> omega),G.dI (by simp <;> omega),G.dI (by simp)];exact heap_alloc_new _ _
 have e1:w4.heap[w.heap.size+1]?=some (.cells #[.int .i64 (x:Int),.int .i64 (y:Int)] 40 (0,0)):=by
  rw[<-hw4,G.dI (by simp <;> omega),G.dI (by simp)];have:=heap_alloc_new (w.alloc (.cells #[belowV b] 219)) (.cells #[.int .i64 (x:Int),.int .i64 (y:Int)] 40);rwa [aD1]at this
 have e3:w4.heap[w.heap.size+3]?=some (.cells #[.int .i64 0,.int .i64 0] 40 (0,0)):=by
  rw[<-hw4];have:=heap_alloc_new (((w.alloc (.cells #[belowV b] 219)).alloc (.cells #[.int .i64 (x:Int),.int .i64 (y:Int)] 40)).alloc (.cells #[.int .i64 (a:Int),.int .i64 (d:Int)] 40)) (.cells #[.int .i64 0,.int .i64 0] 40);rwa [aD1,aD1,aD1]at this
 have f0:w4.cell? ⟨w.heap.size,0,none⟩=some (belowV b):=by rw[cell_of_row _ _ 0 _ _ _ e0];rfl
 have f1:w4.cell? ⟨w.heap.size+1,0,none⟩=some (.int .i64 (x:Int)):=by rw[cell_of_row _ _ 0 _ _ _ e1];rfl
 have f2:w4.cell? ⟨w.heap.size+1,1,none⟩=some (.int .i64 (y:Int)):=by rw[cell_of_row _ _ 1 _ _ _ e1];rfl
 have HE:Hid (Calls Tryz.prog 64 _ w4 _):=tT (hs.below b2) x y hxy hy w.heap.size (w.heap.size+1) f0 f1 f2 a d ha hd;rw[<-hw4]at HE;have b0:Hid _:=b2;have cB:Hid _:=e3;have cS:Hid _:=hw4;clear hs b8 b9 bS b2 e0 e1 e3 f0 f1 f2 hw4;go_enter Tryz.func129,Tryz.ntmps129
 go_wp2_with fail
 refine(aC0 HE.out ?_);rw[cS.out];rintro e w5 ⟨rfl,hB5⟩;have h3:=(hB5.block _ (aC2.1 cB.out).1).trans cB.out;have y0:w5.cell? ⟨w.heap.size+3,0,none⟩=some (.int .i64 0):=by rw[cell_of_row w5 _ 0 _ _ _ h3];rfl
 have y1:w5.cell? ⟨w.heap.size+3,1,none⟩=some (.int .i64 0):=by rw[cell_of_row w5 _ 1 _ _ _ h3];rfl
 have z0:=frozen_of_row w5 _ 0 _ _ h3;have z1:=frozen_of_row w5 _ 1 _ _ h3;have hs5:=(aC2.1 h3).1;have b7:Hid _:=chain b0.out hB5;clear hB5 h3;go_wp2;refine bodyPost_ret (v:=.agg #[.int .i64 (bel l x y a:Int),.int .i64 (bel l x y d:Int)]) (by simp[results,Tryz.results129,go_sem, *]) rfl ?_;exact⟨rfl,(b7.out.setCell (p:=⟨w.heap.size+3,0,none⟩) (Nat.le_add_right _ _) _).setCell (p:=⟨w.heap.size+3,1,none⟩) (Nat.le_add_right _ _) _⟩
theorem placeof_any(hs:bB 8 w b g l)(q:Nat)(hq:q<l.length):
 Calls Tryz.prog 69 #[.pointer (some ⟨b,0,none⟩),.int .i64 (q:Int)] w fun e w'=>∃ t:Nat,e = .returned (.int .i64 (t:Int))/\G.Pl l q t/\Below w.heap.size w w':=by
 have hn:=hs.hn;have HS:Hid _:=hs;have HW:Hid (∀ W,bB 8 W b g l->Calls Tryz.prog 122 #[.pointer (some ⟨b,0,none⟩)] W _):=fun W h=>whole_any h;clear hs;go_enter Tryz.func69,Tryz.ntmps69
 go_wp2_with fail
 refine(aC0 (HW.out _ HS.out) ?_);rintro e w1 ⟨rfl,a0⟩;have a6:Hid _:=a0;have HL:Hid (Calls Tryz.prog 121 _ w1 _):=vH (HS.out.below a0) 0 l.length q (aC6 _) (V7 _) (by omega);clear a0;go_wp2_with fail
 refine(aC0 HL.out ?_);rintro e w2 ⟨c,rfl,⟨c0,aL,hc3⟩,a7⟩;have a9:Hid _:=chain a6.out a7;obtain⟨t,ht,hk⟩:=G.pl_find c0 aL;have HP:Hid (G.Pl l q t):=G.pl_of ht hk c0;have cV:c<256:=hc3;have cP:Hid (∀ W,bB 8 W b g l->Calls Tryz.prog 123 #[.pointer (some ⟨b,0,none⟩),.agg #[.int .i64 0,.int .i64 (l.length:Int)],.int .u8 (c:Int)] W _):=fun W h=>below_yes h c 0 l.length hc3 (aC6 _) (V7 _);have cR:Hid (∀ W,bB 8 W b g l->Calls Tryz.prog 124 #[.pointer (some ⟨b,0,none⟩),.int .u8 (c:Int),.int .i64 ((q:Int)-(bel l 0 l.length c:Int))] W _):=fun W h=>uP h c t ht _ (by rw[hk];omega);have hb:=rE l 0 l.length c;clear a7 HL ht hk aL;go_wp2_with fail
 refine(aC0 (HW.out _ (HS.out.below a9.out)) ?_);rintro e w3 ⟨rfl,a8⟩;have c8:Hid _:=chain a9.out a8;clear a8;go_wp2_with fail
 refine(aC0 (cP.out _ (HS.out.below c8.out)) ?_);rintro e w4 ⟨rfl,aG⟩;have b0:Hid _:=chain c8.out aG;clear aG;go_wp2_with fail
 refine(aC0 (cR.out _ (HS.out.below b0.out)) ?_);rintro e w5 ⟨rfl,hB5⟩;have b7:Hid _:=chain b0.out hB5;clear hB5;go_wp2;go_ret;exact⟨t,rfl,HP.out,b7.out⟩
end Go.Proofs.YtphjbbbnbmafnaaGreatDoor.S8
namespace Go.Proofs.YtphjbbbnbmafnaaGreatDoor.G
open Go.RowKit Go.Sort
def toI(P:List Nat):List Int:=P.map fun(p:Nat)=>(p:Int)
theorem VS(P:List Nat):vals .i64 P=(toI P).map (Value.int .i64):=by unfold vals toI;rw[List.map_map];rfl
theorem QN(P:List Nat)(base:Nat)(v:Value)(W:World)(aE:W.ownsRow base 3 1 v P.length (vals .i64 P))(hl:P.length<=1000000):
 Calls Tryz.prog 71 #[v] W fun e w'=>e = .returned (.tuple #[])/\(∃ S:List Nat,S.Perm P/\S.Pairwise (· <= ·)/\w'.ownsRow base 3 1 v S.length (vals .i64 S))/\W.grownBy w' v.ownBlock:=by
 rcases aE.2 with ⟨rfl,h0⟩ | ⟨g,cap,cur,rfl,hbase,hgb,r1,r2,r3,r4⟩
 ·obtain rfl:P=[]:=aD8 h0;refine(Tryz.slices_Sort_int_none none 0 W).mono ?_;rintro e w' ⟨rfl,rfl⟩;exact⟨rfl,⟨[],aK7 _,List.Pairwise.nil,aE⟩,⟨rfl,rfl,rfl,V7 _,fun _ _ _=>rfl⟩⟩
 ·have hz:(toI P).length=P.length:=by simp[toI]
  have hh:Holds (Value.int .i64) W g 0 (toI P).toArray:=holds_of_blockI hgb (by rw[hz,<-VS];simpa using r4);have cG:=Tryz.slices_Sort_int g 0 cap (toI P) W hh (aC2.1 hgb).1 (by omega);rw[hz]at cG;refine cG.mono ?_;rintro e w' ⟨rfl,n,os,rfl⟩;have a3:((toI P).mergeSort fun x y=>decide (x<=y)).Perm (toI P):=List.mergeSort_perm _ _;have hpw:=List.pairwise_mergeSort (le:=fun x y:Int=>decide (x<=y)) (fun a b c h1 h2=>by simp at h1 h2 ⊢;omega) (fun a b=>by simp;omega) (toI P);generalize ((toI P).mergeSort fun x y=>decide (x<=y))=T at a3 hpw;have cW:∀ x∈T,0<=x:=fun x hx=>by
   have:=a3.mem_iff.1 hx;unfold toI at this;obtain⟨p,_,rfl⟩:=List.mem_map.1 this;omega
  have hTl:T.length=P.length:=by rw[a3.length_eq,hz]
  have hTv:vals .i64 (T.map Int.toNat)=T.map (Value.int .i64):=by
   unfold vals;rw[List.map_map];refine aF2 (fun x hx => ?_);have:=cW x hx;simp only[Function.comp];rw[Int.toNat_of_nonneg this]
  refine⟨rfl,⟨T.map Int.toNat,?_,?_,?_⟩,grownBy_sortedI _⟩
  ·have h:=a3.map Int.toNat;have e:(toI P).map Int.toNat=P:=by
    unfold toI;rw[List.map_map];exact(aF2 (fun x _=>rfl)).trans (List.map_id P)
   rwa [e]at h
  ·rw[List.pairwise_map];exact hpw.imp_of_mem (fun{a b} ha hb hab=>by
    have:=cW a ha;have:=cW b hb;simp at hab;omega)
  ·rw[hTv,aH6,hTl];have h:=ownsRow_sortedI (w:=W) (n:=n) (os:=os) (ss:=toI P) (ts:=T) (by rw[hTl,hz]) hbase hgb (by rw[hz];exact r1) r2 r3;rwa [hz]at h
end Go.Proofs.YtphjbbbnbmafnaaGreatDoor.G
namespace Go.Proofs.YtphjbbbnbmafnaaGreatDoor.G
open Go.RowKit
variable {W w:World} {N b n s:Nat} {u v:Value} {L:List E3}
attribute [local go_sem ↓] Go.wp_at_zero Go.wp_at_succ
theorem M6{B o:Nat}{z:Value}(cH:B≠N)(h:W.cell? ⟨B,o,none⟩=some z):((W.setCell ⟨N,0,none⟩ u).setCell ⟨N,1,none⟩ v).cell? ⟨B,o,none⟩=some z:=by
 rw[aI9 _ ⟨N,1,none⟩ ⟨B,o,none⟩ v (fun e=>cH (congrArg Addr.block e).symm),aI9 _ ⟨N,0,none⟩ ⟨B,o,none⟩ u (fun e=>cH (congrArg Addr.block e).symm)];exact h
theorem UL(W:World)(N:Nat)(hN:W.heap.size=N):(W.alloc (.cells #[.int .i64 0,.int .i64 0] 40)).cell? ⟨N,0,none⟩=some (.int .i64 0)/\(W.alloc (.cells #[.int .i64 0,.int .i64 0] 40)).cell? ⟨N,1,none⟩=some (.int .i64 0)/\(W.alloc (.cells #[.int .i64 0,.int .i64 0] 40)).frozen? ⟨N,0,none⟩=false/\(W.alloc (.cells #[.int .i64 0,.int .i64 0] 40)).frozen? ⟨N,1,none⟩=false/\N<(W.alloc (.cells #[.int .i64 0,.int .i64 0] 40)).heap.size:=by
 subst hN;have h:=heap_alloc_new W (.cells #[.int .i64 0,.int .i64 0] 40);exact⟨by rw[cell_of_row _ _ 0 _ _ _ h];rfl,by rw[cell_of_row _ _ 1 _ _ _ h];rfl,frozen_of_row _ _ 0 _ _ h,frozen_of_row _ _ 1 _ _ h,by simp⟩
def iE(W:World)(N:Nat):Prop:=W.cell? ⟨N,0,none⟩=some (.int .i64 0)/\W.cell? ⟨N,1,none⟩=some (.int .i64 0)/\W.frozen? ⟨N,0,none⟩=false/\W.frozen? ⟨N,1,none⟩=false/\N<W.heap.size
theorem iE.below{W':World}(h:iE W N)(hB:Below W.heap.size W W'):iE W' N :=
 ⟨cell_kept hB _ _ h.1,cell_kept hB _ _ h.2.1,(hB.frozen (p:=⟨N,0,none⟩) h.2.2.2.2).trans h.2.2.1,(hB.frozen (p:=⟨N,1,none⟩) h.2.2.2.2).trans h.2.2.2.1,aF0 h.2.2.2.2 hB.size⟩
theorem iU(W:World)(N:Nat)(hN:W.heap.size=N):iE (W.alloc (.cells #[.int .i64 0,.int .i64 0] 40)) N:=UL W N hN
theorem EY(h:iE W N):iE W.drew N:=h
theorem WJ(h:iE W N):((W.setCell ⟨N,0,none⟩ u).setCell ⟨N,1,none⟩ v).cell? ⟨N,0,none⟩=some u:=by
 rw[aI9 _ ⟨N,1,none⟩ ⟨N,0,none⟩ v (fun e=>by simp at e)];exact World.cell?_setCell_same _ _ _ h.1
theorem WG(h:iE W N):((W.setCell ⟨N,0,none⟩ u).setCell ⟨N,1,none⟩ v).cell? ⟨N,1,none⟩=some v:=by
 refine World.cell?_setCell_same _ _ _ (u:=.int .i64 0) ?_;rw[aI9 _ ⟨N,0,none⟩ ⟨N,1,none⟩ u (fun e=>by simp at e)];exact h.2.1
theorem DR(h:aJ w b n s L)(x y:Nat)(hxy:x<=y)(hy:y<=10000):
 Calls Tryz.prog 37 #[.pointer (some ⟨b,0,none⟩),.agg #[.int .i64 (x:Int),.int .i64 (y:Int)]] w fun e w'=>∃ v,e = .returned v/\bA .i64 w' v (at_ L (fun e=>decide ((x:Int)<=e.2.2/\e.2.2<(y:Int))))/\Below w.heap.size w w':=by
 have b6:=aA w (.cells #[.int .i64 (x:Int),.int .i64 (y:Int)] 40);obtain⟨bl,gl,c4w,h8⟩:=h.lab;obtain⟨R,bt,gt,c5w,cT,a3,hs2⟩:=h.tgt;have c5:=cell_kept b6 _ _ c5w;obtain⟨k0,k1⟩:=oN w (x:Int) (y:Int);have bX:=h.bd;have hb5:=aE6 _ _ h.sz0;simp only at hb5;have cM:(tos R).length=L.length:=by unfold tos;rw[aH6];exact a3.length_eq
 have hLl:(aM L).length=L.length:=by unfold aM;rw[aH6]
 have b1:Hid (Gm.fO L/\R.Perm L/\Gm.S2 R/\JN L):=⟨h.st,a3,hs2,h.lab0⟩;have HRl:Hid _:=cM;have HLl:Hid _:=hLl;have H8:Hid _:=h8;have cN:Hid _:=cT;have c7:Hid _:=cT.below b6;have b3:Hid _:=b6;have HW:Hid (∀ W,bB 16 W bt gt (tos R)->Calls Tryz.prog 68 #[.pointer (some ⟨bt,0,none⟩)] W _):=fun W h=>S16.whole_any h;have cL:Hid (∀ W,bB 16 W bt gt (tos R)->Calls Tryz.prog 66 #[S16.belowV bt,.agg #[.int .i64 0,.int .i64 ((tos R).length:Int)],.agg #[.int .i64 (x:Int),.int .i64 (y:Int)]] W _):=fun W h=>S16.spansort_any h 0 (tos R).length (aC6 _) (V7 _) x y (by omega) (by omega);obtain⟨X,hX⟩:∃ X,X=bel (tos R) 0 (tos R).length x:=⟨_,rfl⟩;obtain⟨Y,hY⟩:∃ Y,Y=bel (tos R) 0 (tos R).length y:=⟨_,rfl⟩;rw[<-hX,<-hY]at cL;have hYl:Y<=L.length:=by rw[hY,<-cM];exact rE _ _ _ _
 have hXY:X<=Y:=by rw[hX,hY,kK,kK];exact mG _ _ _ hxy
 have HX:Hid _:=hX;have HY:Hid _:=hY;rw[cM]at HW cL;clear h h8 cT a3 hs2 hX hY cM hLl b6;go_enter Tryz.func37,Tryz.ntmps37
 go_upto_region 2 with fail
 go_cut [6] (fun s6 wx=>∃ Bx,s6 = .pointer (some ⟨Bx,0,none⟩)/\Hid (Below w.heap.size w wx/\wx.cell? ⟨Bx,0,none⟩=some (.int .i64 (X:Int))/\wx.cell? ⟨Bx,1,none⟩=some (.int .i64 (Y:Int))))
 case first =>
  go_region_held3 (fun w'=>w'.cell? ⟨w.heap.size,0,none⟩=some (.int .i64 (x:Int))/\w'.cell? ⟨w.heap.size,1,none⟩=some (.int .i64 (y:Int))/\w'.cell? ⟨b,5,none⟩=some (.pointer (some ⟨bt,0,none⟩)))
   (first | (refine⟨?_,?_,?_⟩ <;> (refine M6 ?_ ?_ <;> first | assumption | omega)) | (go_keep;done) | (refine⟨?_,?_,?_⟩ <;> assumption))
   (first
    | (go_at_call 68;refine(HW.out _ ?_).mono ?_;(first | exact(c7.out.kept (fun _ _ h=>h)) | exact((c7.out.below (aA _ _)).kept (fun _ _ h=>h)));rintro r w1 ⟨rfl,hB1d⟩;have a0:Below (w.alloc (.cells #[.int .i64 (x:Int),.int .i64 (y:Int)] 40)).heap.size (w.alloc (.cells #[.int .i64 (x:Int),.int .i64 (y:Int)] 40)) w1:=(by first | exact((YQ _ _).drew).trans hB1d | exact(((YQ _ _).alloc (V7 _) _).drew).trans (hB1d.mono (aH2 (iU (w.alloc (.cells #[.int .i64 (x:Int),.int .i64 (y:Int)] 40)) _ rfl).2.2.2.2)));have q1:=cell_kept a0 _ _ k0;have q2:=cell_kept a0 _ _ k1;have q3:=cell_kept a0 _ _ c5;have q7:=aE6 _ _ q1;have q8:=aE6 _ _ q3;(first | have p9:iE w1 (w.heap.size+1):=iE.below (EY (iU (w.alloc (.cells #[.int .i64 (x:Int),.int .i64 (y:Int)] 40)) _ (aD1 _ _))) hB1d | have p9:iE w1 (w.heap.size+1):=iE.below (iU (w.alloc (.cells #[.int .i64 (x:Int),.int .i64 (y:Int)] 40)).drew _ (aD1 _ _)) hB1d | skip);(try obtain⟨p0,p1,p2,p3,p4⟩:=id p9))
    | (go_at_call 66;refine(cL.out _ ?_).mono ?_;(first | exact(c7.out.below a0) | exact((c7.out.below a0).below (aA _ _)) | exact((c7.out.below a0).kept (fun _ _ h=>h)));rintro r w2 ⟨rfl,hB2d⟩;have a7:Below w1.heap.size w1 w2:=(by first | exact hB2d | exact((YQ _ _).alloc (V7 _) _).trans (hB2d.mono (aH2 (iU w1 _ rfl).2.2.2.2)) | exact((YQ _ _).drew).trans hB2d);have q4:=cell_kept a7 _ _ q1;have q5:=cell_kept a7 _ _ q2;have q6:=cell_kept a7 _ _ q3;have q9:=a7.size;(try have r9:=iE.below p9 a7);(try obtain⟨r0,r1,r2,r3,r4⟩:=id r9);(try have o9:iE w2 w1.heap.size:=iE.below (iU w1 _ rfl) hB2d);(try obtain⟨o0,o1,o2,o3,o4⟩:=id o9)))
  all_goals
   go_wp2_with fail
   go_meet;case rel =>
    first
     | exact⟨_,rfl,(chain b3.out (chain a0 a7)).alloc (chain b3.out (chain a0 a7)).size _,(XI _ _ _ _).1,(XI _ _ _ _).2⟩
     | exact⟨_,rfl,((chain b3.out (chain a0 a7)).setCell (p:=⟨w1.heap.size,0,none⟩) (chain b3.out a0).size _).setCell (p:=⟨w1.heap.size,1,none⟩) (chain b3.out a0).size _,WJ o9,WG o9⟩
     | exact⟨_,rfl,((chain b3.out (chain a0 a7)).setCell (p:=⟨w.heap.size+1,0,none⟩) (aK2 _) _).setCell (p:=⟨w.heap.size+1,1,none⟩) (aK2 _) _,WJ r9,WG r9⟩
 case rest =>
  obtain⟨Bx,rfl,HC⟩:=hcut;have z0:=HC.out.2.1;obtain⟨i0,hi,cY,d0,d1⟩:=info_parts Tryz.infoI;have HP8:Hid (∀ W,bB 8 W bl gl (aM L)->∀ t,t<(aM L).length->Calls Tryz.prog 69 #[.pointer (some ⟨bl,0,none⟩),.int .i64 (t:Int)] W _):=fun W h t ht=>S8.placeof_any h t ht;have cQ:Hid (∀ W,bB 16 W bt gt (tos R)->∀ q,q<(tos R).length->Calls Tryz.prog 70 #[.pointer (some ⟨bt,0,none⟩),.int .i64 (q:Int)] W _):=fun W h q hq=>S16.placeof_any h q hq;clear k0 k1 c5 HW cL;go_wp2;clear z0;go_loopw [5,7] (fun sv sq wr=>∃(k:Nat) (P:List Nat),k<=Y-X/\P.length=k/\sq = .int .i64 ((X+k:Nat):Int)/\(∃ a1 c1,sv = .slice a1 k c1)/\Hid (aA4 wc wr sv P/\∀ i p,P[i]?=some p->Pl2 L R (X+i) p)) (fun _ sq _=>Y-(intOf sq).toNat)
  case atStart=>exact⟨0,[],aC6 _,rfl,rfl,⟨none,0,rfl⟩,⟨aG2 _ _ _ _,YQ _ _⟩,fun i p h=>by simp at h⟩
  case round =>
   obtain⟨k,P,hk,cU,rfl,⟨a1,c1,rfl⟩,HI⟩:=hrel;have cJ:Hid _:=cU;have z1:=cell_kept HI.out.1.2 _ _ HC.out.2.2;by_cases hlt:k<Y-X
   ·have cF:=chain HC.out.1 HI.out.1.2;have b4:=cell_kept cF _ _ c4w;have b5:=cell_kept cF _ _ c5w;have cI:=HI.out.1.1;rw[cU]at cI;have HRw:Hid _:=cI;have hszw:=HI.out.1.2.size;have cA:Hid _:=cF;have l1:((X+k:Nat):Int)<(Y:Int):=by omega
    have hbl:=aE6 _ _ c4w;simp only at hbl;have hbw:b<wr.heap.size:=by have:=cF.size;omega
    have cH:(Value.slice a1 k c1).ownBlock≠some b:=fun e=>by have:=(cI.lt b e).1;have:=HC.out.1.size;omega
    have hkq:X+k<(tos R).length:=by rw[HRl.out];omega
    generalize hqq:X+k=q at l1 hkq;have HQ:Hid _:=hqq;clear cF cU hbl hqq;go_wp2_with fail
    go_region_held3 (fun w'=>w'.cell? ⟨b,4,none⟩=some (.pointer (some ⟨bl,0,none⟩))/\w'.cell? ⟨b,5,none⟩=some (.pointer (some ⟨bt,0,none⟩)))
     (first
      | (refine⟨?_,?_⟩ <;> assumption)
      | (go_split_ands;refine⟨(hgrow.cell_far _ ?_ (Ne.symm cH)).trans ?_,(hgrow.cell_far _ ?_ (Ne.symm cH)).trans ?_⟩ <;> first | assumption | (simp;omega))
      | (go_keep;done))
     (first
      | (go_at_call 70;refine(cQ.out _ ?_ q hkq).mono ?_;exact((cN.out.below cA.out).kept (fun _ _ h=>h));rintro r w3 ⟨t,rfl,hPt,hB3d⟩;have a8:=((YQ wr.heap.size wr).drew).trans hB3d;have q1:=cell_kept a8 _ _ b4;have q2:=cell_kept a8 _ _ b5)
      | (go_at_call 69;refine(HP8.out _ ?_ t (by rw[HLl.out,<-HRl.out];exact hPt.lt.2)).mono ?_;exact(((H8.out.below cA.out).below a8).kept (fun _ _ h=>h));rintro r w4 ⟨p,rfl,hPp,hB4d⟩;have aG:Below w3.heap.size w3 w4:=(by first | exact hB4d | exact((YQ w3.heap.size w3).drew).trans hB4d);have q3:=cell_kept aG _ _ q1;have q4:=cell_kept aG _ _ q2;have q5:=aG.size;have q6:=a8.size)
      | ((refine step_append_lies _ (by rfl) _ _ _ (by rfl) wc.heap.size 3 i0 _ 1 8 Tryz.underlying64 hi cY d0 d1 rfl (by omega) (.slice a1 k c1) k (vals .i64 P) (by rfl) (((gQ (gQ HRw.out a8) aG).alloc _).drew) ⟨w4.heap.size,0,none⟩ 1 1 [.int .i64 (p:Int)] (by rfl) (by rfl) (aG4 (cs:=#[.int .i64 (p:Int)]) (t:=3) (fr:=(0,0)) (heap_alloc_new w4 _)) (by simp[Value.oneCell']) (by omega) (by unfold maxLen;omega) (by omega) (by simp;omega) (w4.heap.size+1) (by simp) ?_;intro gg gcap w5 hown1 hgrow hat hlt5)))
    have HI2:Hid (aA4 wc w5 (.slice (some ⟨gg,0,none⟩) (k+1) gcap) (P++[p])/\∀ i p',(P++[p])[i]?=some p'->Pl2 L R (X+i) p'):=(by
     refine⟨⟨by rw[pU,WT,cJ.out];exact hown1,?_⟩,fun i p' hp' => ?_⟩
     ·have h4:=chain (chain HI.out.1.2 a8) aG;exact(h4.alloc h4.size _).grown hgrow (by have:=h4.size;simp;omega) (fun r hr=>(cI.lt r hr).1)
     ·by_cases hi2:i<P.length
      ·rw[aD4 hi2]at hp';exact HI.out.2 i p' hp'
      ·have hl:=(aC4.1 hp').1;rw[WT,aF6]at hl;obtain rfl:i=P.length:=by omega
       rw[aC8 (V7 _),aJ1]at hp';simp at hp';subst hp';rw[cJ.out,HQ.out];exact⟨t,hPt,hPp⟩:_/\_)
    have HQ2:Hid (q+1=X+(k+1)):=(by have:=HQ.out;omega:_=_);clear hown1 hgrow hat hlt5 cI HI hPt hPp q1 q2 q3 q4;go_wp2;go_roundw;case rel=>exact⟨k+1,P++[p],by omega,by rw[WT,cJ.out];rfl,by rw[<-HQ2.out];go_num,⟨_,gcap,rfl⟩,HI2.out⟩
    case measure=>simp[intOf];have:=HQ.out;omega
   ·have hnl:¬((X+k:Nat):Int)<(Y:Int):=by omega
    obtain rfl:k=Y-X:=by omega
    have HSo:Hid (Calls Tryz.prog 71 _ wr _):=QN P wc.heap.size _ wr HI.out.1.1 (by omega);have cA:Hid _:=HI.out.1.2;have HQs:Hid _:=HI.out.2;have HLw:Hid _:=HI.out.1.1;go_wp2_with fail
    refine(aC0 HSo.out ?_);rintro e w6 ⟨rfl,⟨S,hSp,hSo,hrow6⟩,hg6⟩;have HS:Hid (S=at_ L (fun e=>decide ((x:Int)<=e.2.2/\e.2.2<(y:Int)))):=DZ b1.out.1 b1.out.2.1 b1.out.2.2.1 b1.out.2.2.2 x y P S (by rw[cJ.out,HX.out,HY.out]) (fun i p h=>by rw[<-HX.out];exact HQs.out i p h) hSp hSo;have HN:Hid (bA .i64 w6 (.slice a1 (Y-X) c1) S):=mQ hrow6;have HB6:Hid (Below w.heap.size w w6):=(chain HC.out.1 cA.out).grown hg6 (chain HC.out.1 cA.out).size (fun r hr=>aD9 HC.out.1.size (World.ownsRow.lt HLw.out r hr).1);clear hSp hSo hrow6 hg6 HI;go_wp2;go_ret;exact⟨_,rfl,by rw[<-HS.out];exact HN.out,HB6.out⟩
theorem DJ(h:aJ w b n s L)(x y:Nat)(hxy:x<=y/\y<=n)(ps:List Nat)(hps:∀ p∈ps,p<L.length)(hpl:ps.length<=20000)
 (hK:∀ W,aJ W b n s L->Calls Tryz.prog 37 #[.pointer (some ⟨b,0,none⟩),.agg #[.int .i64 (x:Int),.int .i64 (y:Int)]] W fun e w'=>∃ v,e = .returned v/\bA .i64 w' v ps/\Below W.heap.size W w') :
 Calls Tryz.prog 32 #[.pointer (some ⟨b,0,none⟩),.agg #[.int .i64 (x:Int),.int .i64 (y:Int)],.func (.func 37) #[] #[]] w fun e w'=>∃ v,e = .returned (.tuple #[v,.int .i64 0])/\eO w w' v (vT L ps):=by
 have b6:=aA w (.cells #[.int .i64 (x:Int),.int .i64 (y:Int)] 40);have b3:Hid _:=b6;obtain⟨k0,k1⟩:=oN w (x:Int) (y:Int);have k2:=(h.below b6).sz0;have HS:Hid (∀ W,Calls Tryz.prog 39 _ W _):=fun W=>bO (x:Int) (y:Int) (n:Int) W;rw[decide_eq_true (by omega:0<=(x:Int)/\(x:Int)<=(y:Int)/\(y:Int)<=(n:Int))]at HS;have HG:Hid _:=h;have HK:Hid _:=hK;have HP:Hid _:=hps;obtain⟨i0,hi,cY,d0,d1⟩:=info_parts Tryz.infoE;clear h b6 hK hps;go_enter Tryz.func32,Tryz.ntmps32
 go_wp2_with fail
 go_region_held3 (fun w'=>w'.cell? ⟨w.heap.size,0,none⟩=some (.int .i64 (x:Int))/\w'.cell? ⟨w.heap.size,1,none⟩=some (.int .i64 (y:Int))/\w'.cell? ⟨b,0,none⟩=some (.int .i64 (n:Int))) (go_keep)
  (first
   | (go_at_call 39;refine(HS.out _).mono ?_;rintro r w1 ⟨rfl,hB1d⟩;have a0:=((YQ _ _).drew).trans hB1d;have q1:=cell_kept a0 _ _ k0;have q2:=cell_kept a0 _ _ k1;have q3:=cell_kept a0 _ _ k2))
 have a6:Hid _:=chain b3.out a0;clear a0 hB1d k0 k1 k2;go_wp2_with fail
 refine(aC0 (HK.out w1 (HG.out.below a6.out)) ?_);rintro r w2 ⟨v2,rfl,hnum,a7⟩;have a9:Hid _:=chain a6.out a7;obtain⟨a2,cap2,rfl,aL⟩:=hnum.open;have HC:Hid _:=aL;clear hnum a7 aL HS HK q1 q2 q3;go_wp2;go_loopw [8,24] (fun sv si wr=>∃ k:Nat,k<=ps.length/\si = .int .i64 (k:Int)/\Hid (eO w2 wr sv (vT L (ps.take k)))) (fun _ si _=>ps.length-(intOf si).toNat)
 case atStart=>exact⟨0,aC6 _,rfl,⟨aG2 _ _ _ _,YQ _ _⟩⟩
 case round =>
  obtain⟨k,hk,rfl,HI⟩:=hrel;by_cases hlt:k<ps.length
  ·obtain⟨p,hp⟩:=jI hlt;obtain⟨g,off,rfl,hc⟩:=HC.out k p hp;have c0:=cell_kept HI.out.2 _ _ hc;have cX:=HP.out p (aC3 hp);obtain⟨e,he⟩:∃ e,L[p]?=some e:=⟨_,A7 cX⟩;have HE:Hid (Calls Tryz.prog 63 _ wr _):=xN (HG.out.below (chain a9.out HI.out.2)) p e he;have HN:Hid (vT L (ps.take (k+1))=vT L (ps.take k)++[e]):=(by
    rw[aE0,hp,aH4,AU,aC1,he];rfl:_=_)
   have hkI:(k:Int)<(ps.length:Int):=by omega
   have hel:=JH L (ps.take k);rw[aD7,aI0 (by omega)]at hel;clear hc hp he;go_wp2_with fail
   refine(aC0 HE.out ?_);rintro r w3 ⟨rfl,a8⟩;have aE:=gQ HI.out.1 a8;have HO3:Hid (eO w2 w3 _ (vT L (ps.take k))):=⟨aE,chain HI.out.2 a8⟩;have hsz:=HO3.out.2.size;clear a8;go_wp2_with (at_builtin;refine wpList_append_own _ rfl _ _ 24 rfl w2.heap.size 38 i0 (.agg #[.int .i64 0,.int .i64 0,.int .i64 0]) 3 24 Tryz.underlying24 hi cY d0 d1 rfl (by decide) _ _ _ rfl (aE.alloc _) ⟨w3.heap.size,0,none⟩ 1 1 [.int .i64 e.1,.int .i64 e.2.1,.int .i64 e.2.2] rfl rfl (SK _ _ _ _ _) (ED _ _ _) (by unfold maxLen;omega) (by omega) (by simp;omega) ?_;intro v' w4 hown hgrow hnil)
   have cC:Hid _:=eP (e:=e) HO3.out hown hgrow;clear hown hgrow hnil aE;go_wp2;go_roundw;case rel=>exact⟨k+1,by omega,by go_num,by rw[HN.out];exact cC.out⟩
   case measure=>simp[intOf];omega
  ·obtain rfl:k=ps.length:=by omega
   have HO:Hid (eO w _ _ (vT L ps)):=(by
    have h:=HI.out;rw[aE3]at h;exact⟨pE h.1 a9.out.size,chain a9.out h.2⟩:eO _ _ _ _)
   clear HI;go_wp2;go_ret2;exact⟨_,rfl,HO.out⟩
def toB(x y:Int)(e:E3):Bool:=decide (x<=e.2.2/\e.2.2<y)
theorem M3(h:aJ w b n s L)(x y:Nat)(hxy:x<=y/\y<=n):
 Calls Tryz.prog 32 #[.pointer (some ⟨b,0,none⟩),.agg #[.int .i64 (x:Int),.int .i64 (y:Int)],.func (.func 37) #[] #[]] w fun e w'=>∃ v,e = .returned (.tuple #[v,.int .i64 0])/\eO w w' v (L.filter (toB x y)):=by
 have bX:=h.bd;have:=DJ h x y hxy (at_ L (toB x y)) (fun p hp=>by obtain⟨e,he,_⟩:=(at_mem L (toB x y) p).1 hp;exact(aC4.1 he).1) (by rw[at_len];exact aD9 (aE8 _ _) bX.2.2.2.2) (fun W hW=>DR hW x y hxy.1 (by omega));unfold vT at this;rw[NV]at this;exact this
theorem mM(u:Int)(w:World):Calls Tryz.prog 35 #[.int .i64 u] w fun e w'=>e = .returned (.agg #[.int .i64 u,.int .i64 (wrap64 (u+1))])/\Below w.heap.size w w':=by
 go_enter Tryz.func35,Tryz.ntmps35
 go_wp2;refine bodyPost_ret (v:=.agg #[.int .i64 u,.int .i64 (wrap64 (u+1))]) (by simp[results,Tryz.results35,go_sem]) rfl ?_;exact⟨rfl,aA _ _⟩
theorem vE(u:Int)(n:Nat)(hn:n<=10000)(h1 : -9223372036854775808<=u)(h2:u<=9223372036854775807):(0<=u/\u<=wrap64 (u+1)/\wrap64 (u+1)<=(n:Int))↔(0<=u/\u<(n:Int)):=by
 unfold wrap64;omega
theorem yD(h:aJ w b n s L)(u:Int)(h1 : -9223372036854775808<=u)(h2:u<=9223372036854775807):
 Calls Tryz.prog 15 #[.pointer (some ⟨b,0,none⟩),.int .i64 u] w fun e w'=>(¬(0<=u/\u<(n:Int))/\e = .returned (.tuple #[.slice none 0 0,.int .i64 1])/\Below w.heap.size w w')\/((0<=u/\u<(n:Int))/\∃ v,e = .returned (.tuple #[v,.int .i64 0])/\eO w w' v (L.filter (qP u (u+1)))):=by
 have bX:=h.bd;have bW:=vE u n bX.2.1 h1 h2;have HO:Hid (Calls Tryz.prog 35 _ w _):=mM u w;by_cases hu:0<=u/\u<(n:Int)
 ·have e:wrap64 (u+1)=u+1:=by
   unfold wrap64;omega
  rw[e]at HO;obtain⟨m,rfl⟩:∃ m:Nat,u=(m:Int):=⟨u.toNat,by omega⟩;have HE:Hid (∀ W,Below w.heap.size w W->Calls Tryz.prog 32 #[.pointer (some ⟨b,0,none⟩),.agg #[.int .i64 (m:Int),.int .i64 ((m:Int)+1)],.func (.func 34) #[] #[]] W fun e w'=>∃ v,e = .returned (.tuple #[v,.int .i64 0])/\eO W w' v (L.filter (qP (m:Int) ((m:Int)+1)))):=(fun W hW=>rO (h.below hW) m (m+1) ⟨by omega,by omega⟩:∀ W,_);have HU:Hid _:=hu;clear h hu bW e h1 h2;go_enter Tryz.func15,Tryz.ntmps15
  go_wp2_with fail
  refine(aC0 HO.out ?_);rintro e w1 ⟨rfl,a0⟩;have a6:Hid _:=a0;clear a0;go_wp2_with fail
  refine(aC0 (HE.out w1 a6.out) ?_);rintro e w2 ⟨v,rfl,hO⟩;have cC:Hid (eO w w2 v (L.filter (qP (m:Int) ((m:Int)+1)))):=(⟨pE hO.1 a6.out.size,chain a6.out hO.2⟩:eO _ _ _ _);clear hO;go_wp2;go_ret2;exact .inr ⟨HU.out,v,rfl,cC.out⟩
 ·have HE:Hid (∀ W,Below w.heap.size w W->Calls Tryz.prog 32 #[.pointer (some ⟨b,0,none⟩),.agg #[.int .i64 u,.int .i64 (wrap64 (u+1))],.func (.func 34) #[] #[]] W _):=(fun W hW=>wT (h.below hW) u (wrap64 (u+1)) (fun h=>hu (bW.1 h)) _:∀ W,_);have HU:Hid _:=hu;clear h hu bW h1 h2;generalize wrap64 (u+1)=z at HO HE;go_enter Tryz.func15,Tryz.ntmps15
  go_wp2_with fail
  refine(aC0 HO.out ?_);rintro e w1 ⟨rfl,a0⟩;have a6:Hid _:=a0;clear a0;go_wp2_with fail
  refine(aC0 (HE.out w1 a6.out) ?_);rintro e w2 ⟨rfl,a7⟩;have a9:Hid _:=chain a6.out a7;clear a7;go_wp2;go_ret2;exact .inl ⟨HU.out,rfl,a9.out⟩
theorem Q3(h:aJ w b n s L)(u:Int)(h1 : -9223372036854775808<=u)(h2:u<=9223372036854775807):
 Calls Tryz.prog 18 #[.pointer (some ⟨b,0,none⟩),.int .i64 u] w fun e w'=>(¬(0<=u/\u<(n:Int))/\e = .returned (.tuple #[.slice none 0 0,.int .i64 1])/\Below w.heap.size w w')\/((0<=u/\u<(n:Int))/\∃ v,e = .returned (.tuple #[v,.int .i64 0])/\eO w w' v (L.filter (toB u (u+1)))):=by
 have bX:=h.bd;have bW:=vE u n bX.2.1 h1 h2;have HO:Hid (Calls Tryz.prog 35 _ w _):=mM u w;by_cases hu:0<=u/\u<(n:Int)
 ·have e:wrap64 (u+1)=u+1:=by
   unfold wrap64;omega
  rw[e]at HO;obtain⟨m,rfl⟩:∃ m:Nat,u=(m:Int):=⟨u.toNat,by omega⟩;have HE:Hid (∀ W,Below w.heap.size w W->Calls Tryz.prog 32 #[.pointer (some ⟨b,0,none⟩),.agg #[.int .i64 (m:Int),.int .i64 ((m:Int)+1)],.func (.func 37) #[] #[]] W fun e w'=>∃ v,e = .returned (.tuple #[v,.int .i64 0])/\eO W w' v (L.filter (toB (m:Int) ((m:Int)+1)))):=(fun W hW=>M3 (h.below hW) m (m+1) ⟨by omega,by omega⟩:∀ W,_);have HU:Hid _:=hu;clear h hu bW e h1 h2;go_enter Tryz.func18,Tryz.ntmps18
  go_wp2_with fail
  refine(aC0 HO.out ?_);rintro e w1 ⟨rfl,a0⟩;have a6:Hid _:=a0;clear a0;go_wp2_with fail
  refine(aC0 (HE.out w1 a6.out) ?_);rintro e w2 ⟨v,rfl,hO⟩;have cC:Hid (eO w w2 v (L.filter (toB (m:Int) ((m:Int)+1)))):=(⟨pE hO.1 a6.out.size,chain a6.out hO.2⟩:eO _ _ _ _);clear hO;go_wp2;go_ret2;exact .inr ⟨HU.out,v,rfl,cC.out⟩
 ·have HE:Hid (∀ W,Below w.heap.size w W->Calls Tryz.prog 32 #[.pointer (some ⟨b,0,none⟩),.agg #[.int .i64 u,.int .i64 (wrap64 (u+1))],.func (.func 37) #[] #[]] W _):=(fun W hW=>wT (h.below hW) u (wrap64 (u+1)) (fun h=>hu (bW.1 h)) _:∀ W,_);have HU:Hid _:=hu;clear h hu bW h1 h2;generalize wrap64 (u+1)=z at HO HE;go_enter Tryz.func18,Tryz.ntmps18
  go_wp2_with fail
  refine(aC0 HO.out ?_);rintro e w1 ⟨rfl,a0⟩;have a6:Hid _:=a0;clear a0;go_wp2_with fail
  refine(aC0 (HE.out w1 a6.out) ?_);rintro e w2 ⟨rfl,a7⟩;have a9:Hid _:=chain a6.out a7;clear a7;go_wp2;go_ret2;exact .inl ⟨HU.out,rfl,a9.out⟩
end Go.Proofs.YtphjbbbnbmafnaaGreatDoor.G
