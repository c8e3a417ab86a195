/- Parts: PTg PCn PHs PHn. -/
import Derived.Test.YtphjbbbnbmafnaaGreatDoorPCt
import Derived.Test.YtphjbbbnbmafnaaGreatDoorPIo
import Derived.Test.YtphjbbbnbmafnaaGreatDoorExt
import Derived.BigQuiet
set_option maxHeartbeats 16000000
set_option maxRecDepth 100000
namespace Go.Proofs.YtphjbbbnbmafnaaGreatDoor.G
open Go.RowKit
variable {W w:World} {N b n s:Nat} {v:Value} {L:List E3}
attribute [local go_sem ↓] Go.wp_at_zero Go.wp_at_succ
theorem DV(u:Nat)(hu:u<=1000000)(w:World):Calls Tryz.prog 35 #[.int .i64 (u:Int)] w fun e w'=>e = .returned (.agg #[.int .i64 (u:Int),.int .i64 ((u+1:Nat):Int)])/\Below w.heap.size w w':=by
 have h:=mM (u:Int) w;rw[show wrap64 ((u:Int)+1)=((u+1:Nat):Int)from by unfold wrap64;omega]at h;exact h
theorem iF{a:World}{o:Obj}(h:Below a.heap.size a W):Below a.heap.size a (W.alloc o):=h.alloc h.size o
def fQ(W:World)(N:Nat):Prop:=W.cell? ⟨N,0,none⟩=some (.int .i64 0)/\W.frozen? ⟨N,0,none⟩=false/\N<W.heap.size
theorem fQ.below{W':World}(h:fQ W N)(hB:Below W.heap.size W W'):fQ W' N :=
 ⟨cell_kept hB _ _ h.1,(hB.frozen (p:=⟨N,0,none⟩) h.2.2).trans h.2.1,aF0 h.2.2 hB.size⟩
theorem iZ(W:World):fQ (W.alloc (.cells #[.int .i64 0] 3)) W.heap.size:=by
 have h:=heap_alloc_new W (.cells #[.int .i64 0] 3);exact⟨by rw[cell_of_row _ _ 0 _ _ _ h];rfl,frozen_of_row _ _ 0 _ _ h,by simp⟩
theorem yE(h:fQ W N):(W.setCell ⟨N,0,none⟩ v).cell? ⟨N,0,none⟩=some v:=World.cell?_setCell_same _ _ _ h.1
theorem ML{B o:Nat}{z:Value}(hne:B≠N)(h:W.cell? ⟨B,o,none⟩=some z):(W.setCell ⟨N,0,none⟩ v).cell? ⟨B,o,none⟩=some z:=by
 rw[aI9 _ ⟨N,0,none⟩ ⟨B,o,none⟩ v (fun e=>hne (congrArg Addr.block e).symm)];exact h
theorem FB(h:aJ w b n s L)(x y c:Nat)(hx:x<=L.length)(hy:y<=L.length)(hc:c<255):
 Calls Tryz.prog 72 #[.pointer (some ⟨b,0,none⟩),.agg #[.int .i64 (x:Int),.int .i64 (y:Int)],.int .u8 (c:Int)] w fun e w'=>e = .returned (.agg #[.int .i64 ((bel (aM L) 0 L.length c+cnt (eqf (aM L) c) x:Nat):Int),.int .i64 ((bel (aM L) 0 L.length c+cnt (eqf (aM L) c) y:Nat):Int)])/\Below w.heap.size w w':=by
 obtain⟨W0,a0⟩:∃ W0,W0=(((w.alloc (.cells #[.pointer (some ⟨b,0,none⟩)] 47)).alloc (.cells #[.int .i64 (x:Int),.int .i64 (y:Int)] 40)).alloc (.cells #[.int .u8 (c:Int)] 5)).alloc (.cells #[.int .i64 0,.int .i64 0] 40):=⟨_,rfl⟩;have hJ:Below w.heap.size w W0:=by
  rw[a0];have e1:=aA w (.cells #[.pointer (some ⟨b,0,none⟩)] 47);have e2:=e1.alloc e1.size (.cells #[.int .i64 (x:Int),.int .i64 (y:Int)] 40);have e3:=e2.alloc e2.size (.cells #[.int .u8 (c:Int)] 5);exact e3.alloc e3.size _
 have k0:W0.cell? ⟨w.heap.size,0,none⟩=some (.pointer (some ⟨b,0,none⟩)):=by
  rw[a0];exact cell_kept (aA _ _) _ _ (cell_kept (aA _ _) _ _ (cell_kept (aA _ _) _ _ (by simp)))
 have b9:=XI (w.alloc (.cells #[.pointer (some ⟨b,0,none⟩)] 47)) (.int .i64 (x:Int)) (.int .i64 (y:Int)) 40;rw[aD1]at b9;have k1:W0.cell? ⟨w.heap.size+1,0,none⟩=some (.int .i64 (x:Int)):=by
  rw[a0];exact cell_kept (aA _ _) _ _ (cell_kept (aA _ _) _ _ b9.1)
 have k2:W0.cell? ⟨w.heap.size+1,1,none⟩=some (.int .i64 (y:Int)):=by
  rw[a0];exact cell_kept (aA _ _) _ _ (cell_kept (aA _ _) _ _ b9.2)
 have k3:W0.cell? ⟨w.heap.size+1+1,0,none⟩=some (.int .u8 (c:Int)):=by
  rw[a0];exact cell_kept (aA _ _) _ _ (by rw[cell_of_row _ _ 0 _ _ _ (by have:=heap_alloc_new ((w.alloc (.cells #[.pointer (some ⟨b,0,none⟩)] 47)).alloc (.cells #[.int .i64 (x:Int),.int .i64 (y:Int)] 40)) (.cells #[.int .u8 (c:Int)] 5);rwa [aD1,aD1]at this)];rfl)
 have hsp:iE W0 (w.heap.size+1+1+1):=by rw[a0];exact iU _ _ (by rw[aD1,aD1,aD1])
 clear b9;have hcI:(c:Int)<255:=by omega
 have hcJ:(0:Int)<=(c:Int):=by omega
 have hg:=h.below hJ;have b6:=h.bd;obtain⟨bl,gl,h4,hs⟩:=hg.lab;have cB:(aM L).length=L.length:=by simp[aM]
 have hX:bel (aM L) 0 L.length c<=1000000:=aD9 (by rw[<-cB];exact rE _ _ _ _) (by rw[cB];omega);have HS:Hid (∀ W,Below W0.heap.size W0 W->bB 8 W bl gl (aM L)):=(fun W hB=>hs.below hB:∀ W,_);have HW:Hid (∀ W,Below W0.heap.size W0 W->Calls Tryz.prog 122 #[.pointer (some ⟨bl,0,none⟩)] W _):=fun W h=>S8.whole_any (HS.out W h);have aE:Hid (∀ W,Below W0.heap.size W0 W->Calls Tryz.prog 129 #[S8.belowV bl,.agg #[.int .i64 0,.int .i64 ((aM L).length:Int)],.agg #[.int .i64 (c:Int),.int .i64 ((c+1:Nat):Int)]] W _):=fun W h=>S8.spansort_any (HS.out W h) 0 (aM L).length (aC6 _) (V7 _) c (c+1) (by omega) (by omega);have HOn:Hid (∀ W,Calls Tryz.prog 35 #[.int .i64 (IntKind.i64.wrap (c:Int))] W fun e w'=>e = .returned (.agg #[.int .i64 (c:Int),.int .i64 ((c+1:Nat):Int)])/\Below W.heap.size W w'):=(fun W=>by rw[show IntKind.i64.wrap (c:Int)=(c:Int)from by rw[aK6];omega];exact DV c (by omega) W:∀ W,_);rw[cB]at HW aE;generalize bel (aM L) 0 L.length c=X at aE hX ⊢;generalize bel (aM L) 0 L.length (c+1)=Y at aE;have hfd:∀ W,(Instr.field 40 (.agg #[.int .i64 (X:Int),.int .i64 (Y:Int)]) 0).run Tryz.prog W = .ok (.int .i64 (X:Int)) W:=fun _=>by kernel_rfl
 go_enter Tryz.func72,Tryz.ntmps72
 go_upto_region 1 with fail
 rw[<-a0];have a1:Below W0.heap.size W0 W0:=YQ _ _;have b7:Hid _:=a0;have HG:Hid _:=hg;have HJ:Hid _:=hJ;have cC:Hid (x<=L.length/\y<=L.length/\c<256/\X<=1000000):=⟨hx,hy,by omega,hX⟩;have m0:=aE6 _ _ k0;have m3:=aE6 _ _ k3;have m4:=aE6 _ _ h4;simp only at m0 m3 m4;clear a0 h hs hg hJ;go_cut [7] (fun s7 wx=>∃ F,s7 = .pointer (some ⟨F,0,none⟩)/\Hid (Below W0.heap.size W0 wx/\wx.cell? ⟨F,0,none⟩=some (.int .i64 (X:Int))))
 case first =>
  go_region_held3 (fun w'=>w'.cell? ⟨w.heap.size,0,none⟩=some (.pointer (some ⟨b,0,none⟩))/\w'.cell? ⟨w.heap.size+1+1,0,none⟩=some (.int .u8 (c:Int))/\w'.cell? ⟨b,4,none⟩=some (.pointer (some ⟨bl,0,none⟩)))
   (first | (refine⟨?_,?_,?_⟩ <;> assumption) | (refine⟨?_,?_,?_⟩ <;> (refine ML ?_ ?_ <;> first | assumption | omega | exact cell_kept (aA _ _) _ _ (by assumption))) | (go_keep;done))
   (first
    | (go_at_call 122;refine(HW.out _ ?_).mono ?_;(repeat (first | exact a1 | refine Below.drew ?_ | refine iF ?_));rintro r w1 ⟨rfl,a4⟩;have a2:Below W0.heap.size W0 w1:=(by refine chain ?_ a4;repeat (first | exact a1 | refine Below.drew ?_ | refine iF ?_));have q1:=cell_kept a2 _ _ k0;have q2:=cell_kept a2 _ _ k3;have q3:=cell_kept a2 _ _ h4;have z1:=a2.size;clear a1;have a1:=a2;clear a2;(first | have b1:fQ w1 W0.heap.size:=fQ.below (iZ W0.drew) a4 | have b1:fQ w1 w2.heap.size:=fQ.below (iZ w2) a4 | have b1:fQ w1 W0.heap.size:=fQ.below b2 a4 | skip);clear a4;(try obtain⟨c1,d1,e1⟩:=id b1))
    | (go_at_call 35;refine(HOn.out _).mono ?_;rintro r w2 ⟨rfl,a3⟩;have a2:Below W0.heap.size W0 w2:=(by refine chain ?_ a3;repeat (first | exact a1 | refine Below.drew ?_ | refine iF ?_));have q4:=cell_kept a2 _ _ k0;have q5:=cell_kept a2 _ _ k3;have q6:=cell_kept a2 _ _ h4;have z2:=a2.size;clear a1;have a1:=a2;clear a2;(first | have b2:fQ w2 W0.heap.size:=fQ.below (iZ W0.drew) a3 | have b2:fQ w2 w1.heap.size:=fQ.below (iZ w1) a3 | have b2:fQ w2 W0.heap.size:=fQ.below b1 a3 | skip);clear a3;(try obtain⟨c2,d2,e2⟩:=id b2))
    | (go_at_call 129;refine(aE.out _ ?_).mono ?_;(repeat (first | exact a1 | refine Below.drew ?_ | refine iF ?_));rintro r w3 ⟨rfl,a5⟩;have a2:Below W0.heap.size W0 w3:=(by refine chain ?_ a5;repeat (first | exact a1 | refine Below.drew ?_ | refine iF ?_));have q7:=cell_kept a2 _ _ k0;have q8:=cell_kept a2 _ _ k3;have q9:=cell_kept a2 _ _ h4;have z3:=a2.size;clear a1;have a1:=a2;clear a2;(first | have b3:fQ w3 w1.heap.size:=fQ.below (iZ w1) a5 | have b3:fQ w3 w2.heap.size:=fQ.below (iZ w2) a5 | have b3:fQ w3 W0.heap.size:=fQ.below b1 a5 | have b3:fQ w3 W0.heap.size:=fQ.below b2 a5 | have b3:fQ w3 w1.heap.size:=fQ.below b2 a5 | have b3:fQ w3 w2.heap.size:=fQ.below b1 a5 | skip);clear a5;(try obtain⟨c3,d3,e3⟩:=id b3)))
  all_goals
   go_wp2_with fail
   go_meet;case rel =>
    first
     | exact⟨_,rfl,a1.setCell (p:=⟨W0.heap.size,0,none⟩) (V7 _) _,yE b3⟩
     | exact⟨_,rfl,a1.setCell (p:=⟨w1.heap.size,0,none⟩) z1 _,yE b3⟩
     | exact⟨_,rfl,a1.setCell (p:=⟨w2.heap.size,0,none⟩) z2 _,yE b3⟩
     | exact⟨_,rfl,(iF a1).setCell (p:=⟨w3.heap.size,0,none⟩) z3 _,yE (iZ w3)⟩
     | exact⟨_,rfl,iF a1,by simp⟩
 case rest =>
  obtain⟨F,rfl,HC⟩:=hcut;have b5:=HC.out.1;have t1:=cell_kept b5 _ _ k1;have t2:=cell_kept b5 _ _ k2;have bW:=hsp.below b5;obtain⟨s0,s1,s2,s3,s4⟩:=id bW;have HT:Hid (QZ wc b n s L w.heap.size (w.heap.size+1+1) F c X):=(⟨HG.out.below b5,cC.out.2.2.1,cC.out.2.2.2,cell_kept b5 _ _ k0,cell_kept b5 _ _ k3,HC.out.2⟩:QZ _ _ _ _ _ _ _ _ _ _);have HE:Hid (Calls Tryz.prog 64 _ wc _):=D5 HT.out x y cC.out.1 cC.out.2.1;have HB:Hid _:=chain HJ.out b5;have HSc:Hid _:=bW;clear b5 k0 k1 k2 k3 h4 bW hsp hfd HW aE HOn;go_wp2_with fail
  refine(aC0 HE.out ?_);rintro e w4 ⟨rfl,a6⟩;have bS:=iE.below HSc.out a6;obtain⟨v0,v1,v2,v3,v4⟩:=id bS;have aG:Hid _:=chain HB.out a6;have HS4:Hid _:=bS;clear a6 bS s0 s1 s2 s3 s4 t1 t2;go_wp2;refine bodyPost_ret (v:=.agg #[.int .i64 ((X+cnt (eqf (aM L) c) x:Nat):Int),.int .i64 ((X+cnt (eqf (aM L) c) y:Nat):Int)]) (by simp[results,Tryz.results72,go_sem, *]) rfl ?_;exact⟨rfl,(aG.out.setCell (p:=⟨w.heap.size+1+1+1,0,none⟩) (by simp only;omega) _).setCell (p:=⟨w.heap.size+1+1+1,1,none⟩) (by simp only;omega) _⟩
theorem NK(p q:Nat)(hpq:p<=q)(hq:q<=1000000)(w:World):Calls Tryz.prog 73 #[.agg #[.int .i64 (p:Int),.int .i64 (q:Int)]] w fun e w'=>e = .returned (.int .i64 ((q-p:Nat):Int))/\Below w.heap.size w w':=by
 go_enter Tryz.func73,Tryz.ntmps73
 go_wp2;go_ret;exact⟨by go_num,aA _ _⟩
theorem aB2(L:List E3)(f g:E3->Bool)(h:∀ e∈L,¬(f e=true/\g e=true)):(L.filter f).length+(L.filter g).length<=L.length:=by
 induction L with
 | nil=>simp
 | cons a L ih =>
  have h1:=ih fun e he=>h e (by simp[he]);have h2:=h a (by simp);simp only[aG8,aE7];cases hf:f a <;> cases hg:g a <;> simp_all <;> omega
theorem UQ(L:List E3)(h0:JN L)(c i:Nat)(hi:i<=L.length):bel (aM L) 0 L.length c+cnt (eqf (aM L) c) i<=L.length:=by
 have cB:(aM L).length=L.length:=by simp[aM]
 have h1:=JC L h0 c;rw[cB]at h1;rw[h1,zI L h0 c i hi];have h2:((L.take i).filter (fun e=>decide (e.2.1=(c:Int)))).length<=(L.filter (fun e=>decide (e.2.1=(c:Int)))).length:=(List.Sublist.filter _ (List.take_sublist i L)).length_le;have h3:=aB2 L (fun e=>decide (e.2.1<(c:Int))) (fun e=>decide (e.2.1=(c:Int))) (fun e _=>by simp only[decide_eq_true_eq];omega);omega
theorem oF(w:World)(a b c d e f:Value)(t:TypeId):(((w.alloc (.cells #[a,b] t)).alloc (.cells #[c,d] t)).alloc (.cells #[e,f] t)).cell? ⟨w.heap.size,0,none⟩=some a/\(((w.alloc (.cells #[a,b] t)).alloc (.cells #[c,d] t)).alloc (.cells #[e,f] t)).cell? ⟨w.heap.size,1,none⟩=some b/\(((w.alloc (.cells #[a,b] t)).alloc (.cells #[c,d] t)).alloc (.cells #[e,f] t)).cell? ⟨w.heap.size+1,0,none⟩=some c/\(((w.alloc (.cells #[a,b] t)).alloc (.cells #[c,d] t)).alloc (.cells #[e,f] t)).cell? ⟨w.heap.size+1,1,none⟩=some d/\(((w.alloc (.cells #[a,b] t)).alloc (.cells #[c,d] t)).alloc (.cells #[e,f] t)).cell? ⟨w.heap.size+1+1,0,none⟩=some e/\(((w.alloc (.cells #[a,b] t)).alloc (.cells #[c,d] t)).alloc (.cells #[e,f] t)).cell? ⟨w.heap.size+1+1,1,none⟩=some f:=by
 obtain⟨k0,k1,k2,k3,_,_⟩:=vO w a b c d t;have hb:=aA ((w.alloc (.cells #[a,b] t)).alloc (.cells #[c,d] t)) (.cells #[e,f] t);have h:=XI ((w.alloc (.cells #[a,b] t)).alloc (.cells #[c,d] t)) e f t;rw[aD1,aD1]at h;exact⟨cell_kept hb _ _ k0,cell_kept hb _ _ k1,cell_kept hb _ _ k2,cell_kept hb _ _ k3,h.1,h.2⟩
theorem MH(h:aJ w b n s L)(f1 f2 l1 l2 t1 t2:Nat)(hf:f1<=f2/\f2<=n)(hl:l1<=l2/\l2<=s)(ht:t1<=t2/\t2<=n):
 Calls Tryz.prog 40 #[.pointer (some ⟨b,0,none⟩),.agg #[.int .i64 (f1:Int),.int .i64 (f2:Int)],.agg #[.int .i64 (l1:Int),.int .i64 (l2:Int)],.agg #[.int .i64 (t1:Int),.int .i64 (t2:Int)]] w fun e w'=>e = .returned (.int .i64 ((L.filter (inB f1 f2 l1 l2 t1 t2)).length:Int))/\Below w.heap.size w w':=by
 have b6:=h.bd;obtain⟨W0,a0⟩:∃ W0,W0=((w.alloc (.cells #[.int .i64 (f1:Int),.int .i64 (f2:Int)] 40)).alloc (.cells #[.int .i64 (l1:Int),.int .i64 (l2:Int)] 40)).alloc (.cells #[.int .i64 (t1:Int),.int .i64 (t2:Int)] 40):=⟨_,rfl⟩;have hJ:Below w.heap.size w W0:=by rw[a0];exact iF (iF (aA _ _))
 obtain⟨k0,k1,k2,k3,k4,k5⟩:=oF w (.int .i64 (f1:Int)) (.int .i64 (f2:Int)) (.int .i64 (l1:Int)) (.int .i64 (l2:Int)) (.int .i64 (t1:Int)) (.int .i64 (t2:Int)) 40;rw[<-a0]at k0 k1 k2 k3 k4 k5;have HE:Hid (Calls Tryz.prog 64 _ W0 _):=wN (h.below hJ) f1 f2;obtain⟨R,bt,gt,c5w,h16,a9,hs2⟩:=h.tgt;have hRl:(tos R).length=L.length:=by unfold tos;rw[aH6];exact a9.length_eq
 have cI:=Gm.ah_le L f1;have cJ:=Gm.ah_le L f2;have hLl:(aM L).length=L.length:=by unfold aM;rw[aH6]
 have cE:Hid (∀ c,bel (tos R) (bel (aM L) 0 L.length c+cnt (eqf (aM L) c) (Gm.ah L f1)) (bel (aM L) 0 L.length c+cnt (eqf (aM L) c) (Gm.ah L f2)) t2
  = bel (tos R) (bel (aM L) 0 L.length c+cnt (eqf (aM L) c) (Gm.ah L f1)) (bel (aM L) 0 L.length c+cnt (eqf (aM L) c) (Gm.ah L f2)) t1+(L.filter (inB f1 f2 c (c+1) t1 t2)).length):=(fun c=>by
  have e:=FK h.st a9 hs2 h.lab0 f1 f2 c t1 t2 hf.1 ht.1;rw[hLl]at e;exact e:∀ c,_)
 have a8:=Gm.Y4 L hf.1;generalize Gm.ah L f1=X at HE cI cE a8;generalize Gm.ah L f2=Y at HE cJ cE a8;have HRm:Hid (∀ c i,i<=L.length->bel (aM L) 0 L.length c+cnt (eqf (aM L) c) i<=L.length):=(UQ L h.lab0:∀ c i,_);have HG:Hid _:=h.below hJ;have H16:Hid _:=h16.below hJ;have HJ:Hid _:=hJ;have HRl:Hid _:=hRl;have c5:=cell_kept hJ _ _ c5w;have hT2:t2<=10000:=by omega
 clear h h16 a9 hs2 hJ hLl hRl c5w;go_enter Tryz.func40,Tryz.ntmps40
 go_wp2_with fail
 rw[<-a0];have b7:Hid _:=a0;clear a0;refine(aC0 HE.out ?_);rintro e w1 ⟨rfl,a4⟩;obtain⟨W2,bX⟩:∃ W2,W2=w1.alloc (.cells #[.int .i64 (X:Int),.int .i64 (Y:Int)] 40):=⟨_,rfl⟩;have a3:Below W0.heap.size W0 W2:=by rw[bX];exact iF a4
 have b9:=XI w1 (.int .i64 (X:Int)) (.int .i64 (Y:Int)) 40;rw[<-bX]at b9;obtain⟨x0,x1⟩:=b9;have y2:=cell_kept a3 _ _ k2;have y3:=cell_kept a3 _ _ k3;have y4:=cell_kept a3 _ _ k4;have y5:=cell_kept a3 _ _ k5;have yc:=cell_kept a3 _ _ c5;have cD:Hid _:=a3;clear k0 k1 k2 k3 k4 k5 c5 a4 a3;have v0:=bX ▸ y2;go_wp2;rw[<-bX];have HW2:Hid _:=bX;clear bX v0;go_loopw [9,11] (fun sc sl wr=>∃ c:Nat,l1<=c/\c<=l2/\sc = .int .i64 ((L.filter (inB f1 f2 l1 c t1 t2)).length:Int)/\sl = .int .i64 (c:Int)/\Hid (Below W2.heap.size W2 wr)) (fun _ sl _=>l2-(intOf sl).toNat)
 case atStart=>exact⟨l1,V7 _,hl.1,by rw[MU];rfl,rfl,YQ _ _⟩
 case round =>
  obtain⟨c,hc1,hc2,rfl,rfl,HI⟩:=hrel;have hN:(L.filter (inB f1 f2 l1 c t1 t2)).length<=20000:=aD9 (aE8 _ _) b6.2.2.2.2;have z3:=cell_kept HI.out _ _ y3;by_cases hlt:c<l2
  ·have hcI:(c:Int)<(l2:Int):=by omega
   have x0r:=cell_kept HI.out _ _ x0;have x1r:=cell_kept HI.out _ _ x1;have hu8:IntKind.u8.wrap (c:Int)=(c:Int):=by
    have:c<256:=by omega
    rw[IntKind.wrap_u8];omega
   have HT:Hid (Calls Tryz.prog 72 _ wr _):=FB ((HG.out.below cD.out).below HI.out) X Y c cI cJ (by omega);have HSt:Hid ((L.filter (inB f1 f2 l1 (c+1:Nat) t1 t2)).length=(L.filter (inB f1 f2 l1 c t1 t2)).length+(L.filter (inB f1 f2 c (c+1) t1 t2)).length):=(L9 L f1 f2 t1 t2 l1 c hc1:_=_);have c0:=cE.out c;have hP1:=HRm.out c X cI;have hP2:=HRm.out c Y cJ;have cG:bel (aM L) 0 L.length c+cnt (eqf (aM L) c) X<=bel (aM L) 0 L.length c+cnt (eqf (aM L) c) Y:=Nat.add_le_add_left (cnt_mono _ a8) _;generalize bel (aM L) 0 L.length c+cnt (eqf (aM L) c) X=P at HT c0 hP1 cG;generalize bel (aM L) 0 L.length c+cnt (eqf (aM L) c) Y=Q at HT c0 hP2 cG;have hbl:=rE (tos R) P Q t2;rw[HRl.out]at hbl;have aE:Hid (∀ W,bB 16 W bt gt (tos R)->Calls Tryz.prog 66 #[S16.belowV bt,.agg #[.int .i64 (P:Int),.int .i64 (Q:Int)],.agg #[.int .i64 (t1:Int),.int .i64 (t2:Int)]] W _):=fun W h=>S16.spansort_any h P Q cG (by rw[HRl.out];exact hP2) t1 t2 (by omega) (by omega);generalize bel (tos R) P Q t1=A at aE c0;generalize bel (tos R) P Q t2=B at aE c0 hbl;have HLn:Hid (∀ W,Calls Tryz.prog 73 #[.agg #[.int .i64 (A:Int),.int .i64 (B:Int)]] W _):=fun W=>NK A B (by omega) (by omega) W;obtain⟨N,cF⟩:∃ N,N=(L.filter (inB f1 f2 l1 c t1 t2)).length:=⟨_,rfl⟩;rw[<-cF]at hN HSt;rw[<-cF];have HCm:Hid (B-A=(L.filter (inB f1 f2 c (c+1) t1 t2)).length):=(by omega:_=_);clear c0 cF;go_wp2_with fail
   refine(aC0 HT.out ?_);rintro e w3 ⟨rfl,a5⟩;obtain⟨W4,c7⟩:∃ W4,W4=w3.alloc (.cells #[.int .i64 (P:Int),.int .i64 (Q:Int)] 40):=⟨_,rfl⟩;have a6:Below W2.heap.size W2 W4:=by rw[c7];exact iF (chain HI.out a5)
   have c8:=XI w3 (.int .i64 (P:Int)) (.int .i64 (Q:Int)) 40;rw[<-c7]at c8;obtain⟨u0,u1⟩:=c8;have u4:=cell_kept a6 _ _ y4;have u5:=cell_kept a6 _ _ y5;have uc:=cell_kept a6 _ _ yc;have aG:Hid _:=a6;clear a5 a6 HT x0r x1r z3 hu8;have HS4:Hid _:=(H16.out.below cD.out).below aG.out;go_wp2_with fail
   rw[<-c7];have HW4:Hid _:=c7;clear c7;go_region_held3 (fun w'=>w'.cell? ⟨b,5,none⟩=some (.pointer (some ⟨bt,0,none⟩))/\w'.cell? ⟨w3.heap.size,0,none⟩=some (.int .i64 (P:Int))/\w'.cell? ⟨w3.heap.size,1,none⟩=some (.int .i64 (Q:Int))/\w'.cell? ⟨w.heap.size+1+1,0,none⟩=some (.int .i64 (t1:Int))/\w'.cell? ⟨w.heap.size+1+1,1,none⟩=some (.int .i64 (t2:Int)))
    (first | (refine⟨?_,?_,?_,?_,?_⟩ <;> assumption) | (go_keep;done))
    (first
     | (go_at_call 66;refine(aE.out _ ?_).mono ?_;exact(HS4.out.kept (fun _ _ h=>h));rintro r w5 ⟨rfl,hB5d⟩;have b8:=((YQ W4.heap.size W4).drew).trans hB5d;have q1:=cell_kept b8 _ _ uc;have q2:=cell_kept b8 _ _ u0;have q3:=cell_kept b8 _ _ u1;have q4:=cell_kept b8 _ _ u4;have q5:=cell_kept b8 _ _ u5)
     | (go_at_call 73;refine(HLn.out _).mono ?_;rintro r w6 ⟨rfl,hB6⟩;have q6:=cell_kept hB6 _ _ q1;have q7:=cell_kept hB6 _ _ q2;have q8:=cell_kept hB6 _ _ q3;have q9:=cell_kept hB6 _ _ q4;have q0:=cell_kept hB6 _ _ q5))
   have HB6:Hid _:=chain (chain aG.out b8) hB6;have hBA:B-A<=20000:=by omega
   generalize B-A=D at hBA HCm;clear b8 hB6 hB5d q1 q2 q3 q4 q5 q6 q7 q8 q9 q0 u0 u1 u4 u5 uc aE HLn;go_wp2;go_roundw;case rel=>exact⟨c+1,by omega,by omega,by rw[HSt.out,<-HCm.out,show IntKind.i64.wrap ((N:Int)+(D:Int))=((N+D:Nat):Int)from by rw[aK6];omega],by go_num,HB6.out⟩
   case measure=>simp[intOf];omega
  ·obtain rfl:c=l2:=by omega
   have HB:Hid _:=chain (chain HJ.out cD.out) HI.out;clear HI;go_wp2;go_ret;exact⟨rfl,HB.out⟩
theorem uS(h:aJ w b n s L)(f1 f2 l1 l2 t1 t2:Nat)(hf:f1<=f2/\f2<=n)(hl:l1<=l2/\l2<=s)(ht:t1<=t2/\t2<=n):
 Calls Tryz.prog 22 #[.pointer (some ⟨b,0,none⟩),.agg #[.int .i64 (f1:Int),.int .i64 (f2:Int)],.agg #[.int .i64 (l1:Int),.int .i64 (l2:Int)],.agg #[.int .i64 (t1:Int),.int .i64 (t2:Int)]] w fun e w'=>e = .returned (.tuple #[.int .i64 ((L.filter (inB f1 f2 l1 l2 t1 t2)).length:Int),.int .i64 0])/\Below w.heap.size w w':=by
 obtain⟨W0,a0⟩:∃ W0,W0=((w.alloc (.cells #[.int .i64 (f1:Int),.int .i64 (f2:Int)] 40)).alloc (.cells #[.int .i64 (l1:Int),.int .i64 (l2:Int)] 40)).alloc (.cells #[.int .i64 (t1:Int),.int .i64 (t2:Int)] 40):=⟨_,rfl⟩;have hJ:Below w.heap.size w W0:=by rw[a0];exact iF (iF (aA _ _))
 obtain⟨k0,k1,k2,k3,k4,k5⟩:=oF w (.int .i64 (f1:Int)) (.int .i64 (f2:Int)) (.int .i64 (l1:Int)) (.int .i64 (l2:Int)) (.int .i64 (t1:Int)) (.int .i64 (t2:Int)) 40;rw[<-a0]at k0 k1 k2 k3 k4 k5;have hg:=h.below hJ;have kn:=hg.sz0;have ks:=hg.sz1;have HG:Hid _:=hg;have HJ:Hid _:=hJ;have HC:Hid (∀ W,aJ W b n s L->Calls Tryz.prog 40 #[.pointer (some ⟨b,0,none⟩),.agg #[.int .i64 (f1:Int),.int .i64 (f2:Int)],.agg #[.int .i64 (l1:Int),.int .i64 (l2:Int)],.agg #[.int .i64 (t1:Int),.int .i64 (t2:Int)]] W _):=fun W h=>MH h f1 f2 l1 l2 t1 t2 hf hl ht;have aL:Hid (∀ W,Calls Tryz.prog 39 _ W _):=fun W=>bO (f1:Int) (f2:Int) (n:Int) W;rw[decide_eq_true (by omega:0<=(f1:Int)/\(f1:Int)<=(f2:Int)/\(f2:Int)<=(n:Int))]at aL;have b0:Hid (∀ W,Calls Tryz.prog 39 _ W _):=fun W=>bO (l1:Int) (l2:Int) (s:Int) W;rw[decide_eq_true (by omega:0<=(l1:Int)/\(l1:Int)<=(l2:Int)/\(l2:Int)<=(s:Int))]at b0;have b4:Hid (∀ W,Calls Tryz.prog 39 _ W _):=fun W=>bO (t1:Int) (t2:Int) (n:Int) W;rw[decide_eq_true (by omega:0<=(t1:Int)/\(t1:Int)<=(t2:Int)/\(t2:Int)<=(n:Int))]at b4;generalize (L.filter (inB f1 f2 l1 l2 t1 t2)).length=N at HC ⊢;clear h hg hJ hf hl ht;go_enter Tryz.func22,Tryz.ntmps22
 go_wp2_with fail
 rw[<-a0];have b7:Hid _:=a0;clear a0;go_region_held3 (fun w'=>w'.cell? ⟨w.heap.size,0,none⟩=some (.int .i64 (f1:Int))/\w'.cell? ⟨w.heap.size,1,none⟩=some (.int .i64 (f2:Int))/\w'.cell? ⟨w.heap.size+1,0,none⟩=some (.int .i64 (l1:Int))/\w'.cell? ⟨w.heap.size+1,1,none⟩=some (.int .i64 (l2:Int))/\w'.cell? ⟨w.heap.size+1+1,0,none⟩=some (.int .i64 (t1:Int))/\w'.cell? ⟨w.heap.size+1+1,1,none⟩=some (.int .i64 (t2:Int))/\w'.cell? ⟨b,0,none⟩=some (.int .i64 (n:Int))/\w'.cell? ⟨b,1,none⟩=some (.int .i64 (s:Int)))
  (first | (refine⟨?_,?_,?_,?_,?_,?_,?_,?_⟩ <;> assumption) | (go_keep;done))
  (first
   | (go_at_call_of 39 (Value.agg #[Value.int IntKind.i64 (f1:Int),Value.int IntKind.i64 (f2:Int)]);refine(aL.out _).mono ?_;rintro r w1 ⟨rfl,hB1d⟩;have a4:=((YQ W0.heap.size W0).drew).trans hB1d;clear hB1d;have q0:=cell_kept a4 _ _ k0;have q1:=cell_kept a4 _ _ k1;have q2:=cell_kept a4 _ _ k2;have q3:=cell_kept a4 _ _ k3;have q4:=cell_kept a4 _ _ k4;have q5:=cell_kept a4 _ _ k5;have q6:=cell_kept a4 _ _ kn;have q7:=cell_kept a4 _ _ ks)
   | (go_at_call_of 39 (Value.agg #[Value.int IntKind.i64 (l1:Int),Value.int IntKind.i64 (l2:Int)]);refine(b0.out _).mono ?_;rintro r w2 ⟨rfl,hB2d⟩;have a3:=chain a4 hB2d;clear hB2d;have r0:=cell_kept a3 _ _ k0;have r1:=cell_kept a3 _ _ k1;have r2:=cell_kept a3 _ _ k2;have r3:=cell_kept a3 _ _ k3;have r4:=cell_kept a3 _ _ k4;have r5:=cell_kept a3 _ _ k5;have r6:=cell_kept a3 _ _ kn;have r7:=cell_kept a3 _ _ ks)
   | (go_at_call_of 39 (Value.agg #[Value.int IntKind.i64 (t1:Int),Value.int IntKind.i64 (t2:Int)]);refine(b4.out _).mono ?_;rintro r w3 ⟨rfl,hB3d⟩;have a5:=chain a3 hB3d;clear hB3d;have s0:=cell_kept a5 _ _ k0;have s1:=cell_kept a5 _ _ k1;have s2:=cell_kept a5 _ _ k2;have s3:=cell_kept a5 _ _ k3;have s4:=cell_kept a5 _ _ k4;have s5:=cell_kept a5 _ _ k5;have s6:=cell_kept a5 _ _ kn;have s7:=cell_kept a5 _ _ ks))
 have HB3:Hid _:=a5;clear a4 a3 a5 q0 q1 q2 q3 q4 q5 q6 q7 r0 r1 r2 r3 r4 r5 r6 r7 k0 k1 k2 k3 k4 k5 kn ks aL b0 b4;go_wp2_with fail
 refine(aC0 (HC.out w3 (HG.out.below HB3.out)) ?_);rintro e w4 ⟨rfl,a6⟩;have aG:Hid _:=chain HJ.out (chain HB3.out a6);clear a6 HC;go_wp2;go_ret2;exact⟨rfl,aG.out⟩
theorem Z5(L:List E3)(hst:Gm.fO L)(e:E3):(L.filter (inB e.1 (e.1+1) e.2.1 (e.2.1+1) e.2.2 (e.2.2+1))).length=if e∈L then 1 else 0:=by
 have hp:∀ x:E3,inB e.1 (e.1+1) e.2.1 (e.2.1+1) e.2.2 (e.2.2+1) x=decide (x=e):=fun x=>by
  obtain⟨e1,e2,e3⟩:=e;obtain⟨x1,x2,x3⟩:=x;unfold inB;rw[aI5];simp only[aD6,decide_eq_true_eq,Prod.mk.injEq];omega
 rw[List.filter_congr (fun x _=>hp x)];have cH:L.Nodup:=List.Pairwise.imp (fun{a b} (h:Gm.ltE a b=true)=>fun he=>by
  subst he;rw[Gm.F7]at h;omega) hst
 clear hst hp
 induction L with
 | nil=>rfl
 | cons a L ih =>
  rw[List.nodup_cons]at cH;have h1:=ih cH.2;simp only[aG8,aF5];by_cases ha:a=e
  ·subst ha;rw[if_neg cH.1]at h1;simp[h1]
  ·have ha':¬ e=a:=fun h=>ha h.symm;simp only[decide_eq_true_eq,if_neg ha,ha',false_or];exact h1
theorem SB(h:aJ w b n s L)(f l t:Nat)(hf:f<n)(hl:l<s)(ht:t<n):
 Calls Tryz.prog 20 #[.pointer (some ⟨b,0,none⟩),.agg #[.int .i64 (f:Int),.int .i64 (l:Int),.int .i64 (t:Int)]] w fun r w'=>r = .returned (.tuple #[.bool (decide (((f:Int),(l:Int),(t:Int))∈L)),.int .i64 0])/\Below w.heap.size w w':=by
 have b6:=h.bd;obtain⟨W0,a0⟩:∃ W0,W0=w.alloc (.cells #[.int .i64 (f:Int),.int .i64 (l:Int),.int .i64 (t:Int)] 38):=⟨_,rfl⟩;have hJ:Below w.heap.size w W0:=by rw[a0];exact aA _ _
 have k0:W0.cell? ⟨w.heap.size,0,none⟩=some (.int .i64 (f:Int)):=by rw[a0];exact aZ _ _ _ 0
 have k1:W0.cell? ⟨w.heap.size,1,none⟩=some (.int .i64 (l:Int)):=by rw[a0];exact aZ _ _ _ 1
 have k2:W0.cell? ⟨w.heap.size,2,none⟩=some (.int .i64 (t:Int)):=by rw[a0];exact aZ _ _ _ 2
 have HO:Hid (∀(u:Nat),u<=1000000->∀ W,Calls Tryz.prog 35 #[.int .i64 (u:Int)] W _):=fun u hu W=>DV u hu W;have h1:f<=1000000:=by omega
 have h2:l<=1000000:=by omega
 have h3:t<=1000000:=by omega
 have cA:=Z5 L h.st ((f:Int),(l:Int),(t:Int));have HC:Hid (∀ W,Below W0.heap.size W0 W->Calls Tryz.prog 22 #[.pointer (some ⟨b,0,none⟩),.agg #[.int .i64 (f:Int),.int .i64 ((f+1:Nat):Int)],.agg #[.int .i64 (l:Int),.int .i64 ((l+1:Nat):Int)],.agg #[.int .i64 (t:Int),.int .i64 ((t+1:Nat):Int)]] W fun e w'=>e = .returned (.tuple #[.int .i64 ((if ((f:Int),(l:Int),(t:Int))∈L then 1 else 0:Nat):Int),.int .i64 0])/\Below W.heap.size W w'):=(fun W hB=>by
  have e:=uS ((h.below hJ).below hB) f (f+1) l (l+1) t (t+1) ⟨by omega,by omega⟩ ⟨by omega,by omega⟩ ⟨by omega,by omega⟩;rw[show(L.filter (inB (f:Int) ((f+1:Nat):Int) (l:Int) ((l+1:Nat):Int) (t:Int) ((t+1:Nat):Int))).length=if ((f:Int),(l:Int),(t:Int))∈L then 1 else 0 from cA]at e;exact e:∀ W,_)
 have HJ:Hid _:=hJ;obtain⟨M,hM⟩:∃ M:Nat,M=if ((f:Int),(l:Int),(t:Int))∈L then 1 else 0:=⟨_,rfl⟩;rw[<-hM]at HC;have HM:Hid _:=hM;have hM1:M<=1:=by rw[hM];split <;> omega
 clear h hJ cA hf hl ht b6 hM;go_enter Tryz.func20,Tryz.ntmps20
 go_wp2_with fail
 rw[<-a0];have a1:Below W0.heap.size W0 W0:=YQ _ _;have b7:Hid _:=a0;clear a0;go_region_held3 (fun w'=>w'.cell? ⟨w.heap.size,0,none⟩=some (.int .i64 (f:Int))/\w'.cell? ⟨w.heap.size,1,none⟩=some (.int .i64 (l:Int))/\w'.cell? ⟨w.heap.size,2,none⟩=some (.int .i64 (t:Int)))
  (first | (refine⟨?_,?_,?_⟩ <;> assumption) | (go_keep;done))
  (first
   | (go_at_call 35;refine(HO.out _ (by assumption) _).mono ?_;rintro r w1 ⟨rfl,a4⟩;have a2:Below W0.heap.size W0 w1:=(by refine chain ?_ a4;first | exact a1 | exact a1.drew);clear a4 a1;have a1:=a2;clear a2;have q0:=cell_kept a1 _ _ k0;have q1:=cell_kept a1 _ _ k1;have q2:=cell_kept a1 _ _ k2)
   | (go_at_call 22;refine(HC.out _ ?_).mono ?_;exact a1;rintro r w4 ⟨rfl,a6⟩;have a2:=chain a1 a6;clear a6 a1;have a1:=a2;clear a2;have r0:=cell_kept a1 _ _ k0;have r1:=cell_kept a1 _ _ k1;have r2:=cell_kept a1 _ _ k2))
 all_goals
  have aG:Hid _:=chain HJ.out a1;clear a1 HC HO;by_cases hm:((f:Int),(l:Int),(t:Int))∈L
  ·obtain rfl:M=1:=by have:=HM.out;rwa [if_pos hm]at this
   have Hm:Hid _:=decide_eq_true hm;clear hm HM;go_wp2;go_ret2;exact⟨by rw[Hm.out];rfl,aG.out⟩
  ·obtain rfl:M=0:=by have:=HM.out;rwa [if_neg hm]at this
   have Hm:Hid _:=decide_eq_false hm;clear hm HM;go_wp2;go_ret2;exact⟨by rw[Hm.out];rfl,aG.out⟩
theorem wC(h:aJ w b n s L)(f1 f2 l1 l2 t1 t2:Int)(P Q R:Bool)(hP:decide (0<=f1/\f1<=f2/\f2<=(n:Int))=P)(hQ:decide (0<=l1/\l1<=l2/\l2<=(s:Int))=Q)(hR:decide (0<=t1/\t1<=t2/\t2<=(n:Int))=R)(hn:¬(P=true/\Q=true/\R=true)):
 Calls Tryz.prog 22 #[.pointer (some ⟨b,0,none⟩),.agg #[.int .i64 f1,.int .i64 f2],.agg #[.int .i64 l1,.int .i64 l2],.agg #[.int .i64 t1,.int .i64 t2]] w fun e w'=>e = .returned (.tuple #[.int .i64 0,.int .i64 1])/\Below w.heap.size w w':=by
 obtain⟨W0,a0⟩:∃ W0,W0=((w.alloc (.cells #[.int .i64 f1,.int .i64 f2] 40)).alloc (.cells #[.int .i64 l1,.int .i64 l2] 40)).alloc (.cells #[.int .i64 t1,.int .i64 t2] 40):=⟨_,rfl⟩;have hJ:Below w.heap.size w W0:=by rw[a0];exact iF (iF (aA _ _))
 obtain⟨k0,k1,k2,k3,k4,k5⟩:=oF w (.int .i64 f1) (.int .i64 f2) (.int .i64 l1) (.int .i64 l2) (.int .i64 t1) (.int .i64 t2) 40;rw[<-a0]at k0 k1 k2 k3 k4 k5;have hg:=h.below hJ;have kn:=hg.sz0;have ks:=hg.sz1;have HJ:Hid _:=hJ;have aL:Hid (∀ W,Calls Tryz.prog 39 _ W _):=fun W=>bO f1 f2 (n:Int) W;have b0:Hid (∀ W,Calls Tryz.prog 39 _ W _):=fun W=>bO l1 l2 (s:Int) W;have b4:Hid (∀ W,Calls Tryz.prog 39 _ W _):=fun W=>bO t1 t2 (n:Int) W;rw[hP]at aL;rw[hQ]at b0;rw[hR]at b4;clear h hg hJ hP hQ hR;have u0:=fun u=>aC k0 u;have u1:=fun u=>aC k1 u;have u2:=fun u=>aC k2 u;have u3:=fun u=>aC k3 u;have u4:=fun u=>aC k4 u;have u5:=fun u=>aC k5 u;have un:=fun u=>aC kn u;have us:=fun u=>aC ks u;clear k0 k1 k2 k3 k4 k5 kn ks;cases P with
 | false =>
  clear b0 b4 hn;go_enter Tryz.func22,Tryz.ntmps22
  go_wp2_with fail
  rw[<-a0];have b7:Hid _:=a0;clear a0;refine bG (by kernel_rfl) (by kernel_rfl) ?_;repeat (go_big_quiet_step (first | (go_at_call 39;refine(aL.out _).mono ?_;rintro r w1 ⟨rfl,hB⟩;exact⟨rfl,w1,aN (chain (aD _ _) hB)⟩)))
  refine wpQuiet_nil ?_;intro wx hw';obtain⟨u,a7⟩:=hw';subst a7;have HB:Hid _:=chain HJ.out (aD W0 u);go_wp2;go_ret2;exact⟨rfl,HB.out⟩
 | true =>
  cases Q with
  | false =>
   clear b4 hn;go_enter Tryz.func22,Tryz.ntmps22
   go_wp2_with fail
   rw[<-a0];have b7:Hid _:=a0;clear a0;refine bG (by kernel_rfl) (by kernel_rfl) ?_;repeat (go_big_quiet_step (first
    | (go_at_call_of 39 (Value.agg #[Value.int IntKind.i64 f1,Value.int IntKind.i64 f2]);refine(aL.out _).mono ?_;rintro r w1 ⟨rfl,hB⟩;exact⟨rfl,w1,aN (chain (aD _ _) hB)⟩)
    | (go_at_call_of 39 (Value.agg #[Value.int IntKind.i64 l1,Value.int IntKind.i64 l2]);refine(b0.out _).mono ?_;rintro r w1 ⟨rfl,hB⟩;exact⟨rfl,w1,aN (chain (aD _ _) hB)⟩)))
   refine wpQuiet_nil ?_;intro wx hw';obtain⟨u,a7⟩:=hw';subst a7;have HB:Hid _:=chain HJ.out (aD W0 u);go_wp2;go_ret2;exact⟨rfl,HB.out⟩
  | true =>
   cases R with
   | true=>exact absurd ⟨rfl,rfl,rfl⟩ hn
   | false =>
    clear hn;go_enter Tryz.func22,Tryz.ntmps22
    go_wp2_with fail
    rw[<-a0];have b7:Hid _:=a0;clear a0;refine bG (by kernel_rfl) (by kernel_rfl) ?_;repeat (go_big_quiet_step (first
     | (go_at_call_of 39 (Value.agg #[Value.int IntKind.i64 f1,Value.int IntKind.i64 f2]);refine(aL.out _).mono ?_;rintro r w1 ⟨rfl,hB⟩;exact⟨rfl,w1,aN (chain (aD _ _) hB)⟩)
     | (go_at_call_of 39 (Value.agg #[Value.int IntKind.i64 l1,Value.int IntKind.i64 l2]);refine(b0.out _).mono ?_;rintro r w1 ⟨rfl,hB⟩;exact⟨rfl,w1,aN (chain (aD _ _) hB)⟩)
     | (go_at_call_of 39 (Value.agg #[Value.int IntKind.i64 t1,Value.int IntKind.i64 t2]);refine(b4.out _).mono ?_;rintro r w1 ⟨rfl,hB⟩;exact⟨rfl,w1,aN (chain (aD _ _) hB)⟩)))
    refine wpQuiet_nil ?_;intro wx hw';obtain⟨u,a7⟩:=hw';subst a7;have HB:Hid _:=chain HJ.out (aD W0 u);go_wp2;go_ret2;exact⟨rfl,HB.out⟩
theorem Z4(u:Int)(n:Nat)(hn:n<=10000)(h1 : -9223372036854775808<=u)(h2:u<=9223372036854775807):decide (0<=u/\u<=wrap64 (u+1)/\wrap64 (u+1)<=(n:Int))=decide (0<=u/\u<(n:Int)):=by
 rw[aI5,decide_eq_true_eq,decide_eq_true_eq];exact vE u n hn h1 h2
theorem Y7(h:aJ w b n s L)(f l t:Int)(hf : -9223372036854775808<=f/\f<=9223372036854775807)(hl : -9223372036854775808<=l/\l<=9223372036854775807)(ht : -9223372036854775808<=t/\t<=9223372036854775807)(hno:¬((0<=f/\f<(n:Int))/\(0<=l/\l<(s:Int))/\(0<=t/\t<(n:Int)))):
 Calls Tryz.prog 20 #[.pointer (some ⟨b,0,none⟩),.agg #[.int .i64 f,.int .i64 l,.int .i64 t]] w fun r w'=>r = .returned (.tuple #[.bool false,.int .i64 1])/\Below w.heap.size w w':=by
 have b6:=h.bd;obtain⟨W0,a0⟩:∃ W0,W0=w.alloc (.cells #[.int .i64 f,.int .i64 l,.int .i64 t] 38):=⟨_,rfl⟩;have hJ:Below w.heap.size w W0:=by rw[a0];exact aA _ _
 have k0:W0.cell? ⟨w.heap.size,0,none⟩=some (.int .i64 f):=by rw[a0];exact aZ _ _ _ 0
 have k1:W0.cell? ⟨w.heap.size,1,none⟩=some (.int .i64 l):=by rw[a0];exact aZ _ _ _ 1
 have k2:W0.cell? ⟨w.heap.size,2,none⟩=some (.int .i64 t):=by rw[a0];exact aZ _ _ _ 2
 have HO1:Hid (∀ W,Calls Tryz.prog 35 #[.int .i64 f] W _):=fun W=>mM f W;have HO2:Hid (∀ W,Calls Tryz.prog 35 #[.int .i64 l] W _):=fun W=>mM l W;have HO3:Hid (∀ W,Calls Tryz.prog 35 #[.int .i64 t] W _):=fun W=>mM t W;have HC:Hid (∀ W,Below W0.heap.size W0 W->Calls Tryz.prog 22 #[.pointer (some ⟨b,0,none⟩),.agg #[.int .i64 f,.int .i64 (wrap64 (f+1))],.agg #[.int .i64 l,.int .i64 (wrap64 (l+1))],.agg #[.int .i64 t,.int .i64 (wrap64 (t+1))]] W _):=fun W hB=>wC ((h.below hJ).below hB) f (wrap64 (f+1)) l (wrap64 (l+1)) t (wrap64 (t+1)) (decide (0<=f/\f<(n:Int))) (decide (0<=l/\l<(s:Int))) (decide (0<=t/\t<(n:Int))) (Z4 f n b6.2.1 hf.1 hf.2) (Z4 l s (by omega) hl.1 hl.2) (Z4 t n b6.2.1 ht.1 ht.2) (by simpa only[decide_eq_true_eq]using hno);have HJ:Hid _:=hJ;have u0:=fun u=>aC k0 u;have u1:=fun u=>aC k1 u;have u2:=fun u=>aC k2 u;generalize wrap64 (f+1)=f2 at HC HO1;generalize wrap64 (l+1)=l2 at HC HO2;generalize wrap64 (t+1)=t2 at HC HO3;clear h hJ hf hl ht hno b6 k0 k1 k2;go_enter Tryz.func20,Tryz.ntmps20
 go_wp2_with fail
 rw[<-a0];have b7:Hid _:=a0;clear a0;refine bG (by kernel_rfl) (by kernel_rfl) ?_;repeat (go_big_quiet_step (first
  | (go_at_call_of 35 (Value.int IntKind.i64 f);refine(HO1.out _).mono ?_;rintro r w1 ⟨rfl,hB⟩;exact⟨rfl,w1,aN (chain (aD _ _) hB)⟩)
  | (go_at_call_of 35 (Value.int IntKind.i64 l);refine(HO2.out _).mono ?_;rintro r w1 ⟨rfl,hB⟩;exact⟨rfl,w1,aN (chain (aD _ _) hB)⟩)
  | (go_at_call_of 35 (Value.int IntKind.i64 t);refine(HO3.out _).mono ?_;rintro r w1 ⟨rfl,hB⟩;exact⟨rfl,w1,aN (chain (aD _ _) hB)⟩)
  | (go_at_call 22;refine(HC.out _ (aD _ _)).mono ?_;rintro r w1 ⟨rfl,hB⟩;exact⟨rfl,w1,aN (chain (aD _ _) hB)⟩)))
 refine wpQuiet_nil ?_;intro wx hw';obtain⟨u,a7⟩:=hw';subst a7;have HB:Hid _:=chain HJ.out (aD W0 u);go_wp2;go_ret2;exact⟨rfl,HB.out⟩
end Go.Proofs.YtphjbbbnbmafnaaGreatDoor.G
