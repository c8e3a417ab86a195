/- Parts: PEo. -/
import Derived.Test.YtphjbbbnbmafnaaGreatDoorPOpen
import Derived.Test.YtphjbbbnbmafnaaGreatDoorLeast8
import Derived.Deep.RegionHeld3
import Derived.Deep.DrawnRows
set_option maxHeartbeats 4000000
set_option maxRecDepth 100000
namespace Go.Proofs.YtphjbbbnbmafnaaGreatDoor.G
open Go.RowKit
variable {w:World} {b g n s:Nat} {L:List E3} {l:List Nat}
attribute [local go_sem ↓] Go.wp_at_zero Go.wp_at_succ
theorem aJ.lab0(h:aJ w b n s L):JN L:=fun e he=>⟨(h.ok.2 e he).2.2.1,(h.ok.2 e he).2.2.2.2.1⟩
theorem aJ.bd(h:aJ w b n s L):1<=n/\n<=10000/\1<=s/\s<=26/\L.length<=20000:=by
 obtain⟨⟨g1,g2,g3,g4,g5⟩,_⟩:=h.ok;omega
theorem below_drewN'{w1:World}{q:Nat}(h:Below (w.drewN q).heap.size (w.drewN q) w1):Below w.heap.size w w1:=(below_drewN (YQ _ _) q).trans h
theorem DU(h:aJ w b n s L)(p:Nat)(e:E3)(he:L[p]?=some e):
 Calls Tryz.prog 114 #[.pointer (some ⟨b,0,none⟩),.int .i64 (p:Int)] w fun r w'=>r = .returned (.int .i64 e.1)/\Below w.heap.size w w':=by
 obtain⟨bb,bw,ba,W,c3,hb⟩:=h.src;have aG:∀ e∈L,0<=e.1/\e.1<(n:Int):=fun e he=>⟨(h.ok.2 e he).1,(h.ok.2 e he).2.1⟩;have bS:=h.bd;have b8:=(aC4.1 he).1;have b3:=TF L n p e (Gm.SY h.st) aG he;have hq:=(JI L n aG).1;have HS:Hid (Calls Tryz.prog 161 _ w _):=K7 hb p (by rw[hq];exact b8);have he2:=aG e (aC3 he);have HO:Hid _:=b3;clear b3 hq aG hb h he;go_enter Tryz.func114,Tryz.ntmps114
 go_wp2_with fail
 refine(aC0 HS.out ?_);rintro r w1 ⟨q,rfl,hq1,hq2,hq3,a0⟩;have hqe:q=p+e.1.toNat:=sD (bf (eF L n)) hq2 HO.out.1 (by rw[hq3,HO.out.2]);have hqi:(q:Int)-(p:Int)=e.1:=by omega
 have hq0:q<=40000:=by omega
 have a3:Hid _:=a0;have HQ:Hid _:=hqi;clear hq1 hq2 hq3 a0 hqe hqi;go_wp2;go_ret;exact⟨R7 (by rw[HQ.out];rfl),a3.out⟩
theorem GD(h:aJ w b n s L)(B C:Nat)(u:Int)(hB:w.cell? ⟨B,0,none⟩=some (.pointer (some ⟨b,0,none⟩)))(hC:w.cell? ⟨C,0,none⟩=some (.int .i64 u))(p:Nat)(e:E3)(he:L[p]?=some e):
 Calls Tryz.prog 116 #[.int .i64 (p:Int),.pointer (some ⟨B,0,none⟩),.pointer (some ⟨C,0,none⟩)] w fun r w'=>r = .returned (.bool (decide (u<=e.1)))/\Below w.heap.size w w':=by
 have HG:Hid _:=h;have HS:Hid (∀ W,aJ W b n s L->Calls Tryz.prog 114 #[.pointer (some ⟨b,0,none⟩),.int .i64 (p:Int)] W _):=fun W h=>DU h p e he;clear h he;go_enter Tryz.func116,Tryz.ntmps116
 go_wp2_with fail
 go_region_held3 (fun w'=>w'.cell? ⟨B,0,none⟩=some (.pointer (some ⟨b,0,none⟩))/\w'.cell? ⟨C,0,none⟩=some (.int .i64 u)) (go_keep)
  (first
   | (go_at_call 114;refine(HS.out _ ?_).mono ?_;exact(HG.out.kept (fun _ _ h=>h));rintro r w1 ⟨rfl,a0⟩;have q1:=cell_kept a0 _ _ hB;have q2:=cell_kept a0 _ _ hC))
 go_wp2;go_ret;exact⟨rfl,below_drewN' a0⟩
theorem EW(n:Nat)(p:Nat->Bool)(B C:Nat)(w:World)(hsz:n<4611686018427387904)
 (hf:∀(W:World) (i:Nat),Below w.heap.size w W->i<n->Calls Tryz.prog 116 #[.int .i64 (i:Int),.pointer (some ⟨B,0,none⟩),.pointer (some ⟨C,0,none⟩)] W fun e w'=>e = .returned (.bool (p i))/\Below W.heap.size W w')
 (hmono:∀ a b,a<=b->b<n->p a=true->p b=true) :
 Calls Tryz.prog 115 #[.int .i64 (n:Int),.func (.func 116) #[] #[.pointer (some ⟨B,0,none⟩),.pointer (some ⟨C,0,none⟩)]] w fun e w'=>∃ r:Nat,e = .returned (.int .i64 (r:Int))/\Below w.heap.size w w'/\r<=n/\(∀ t,t<r->p t=false)/\(∀ t,r<=t->t<n->p t=true):=by
 have HF:Hid _:=hf;have M:Hid _:=hmono;clear hf hmono;go_enter Tryz.func115,Tryz.ntmps115
 go_wp2;go_loopw [5,6] (fun s5 s6 wr=>∃ lo hi:Nat,s5 = .int .i64 lo/\s6 = .int .i64 hi/\lo<=hi/\hi<=n/\Hid (Below w.heap.size w wr/\(∀ t,t<lo->p t=false)/\(∀ t,hi<=t->t<n->p t=true))) (fun s5 s6 _=>(intOf s6-intOf s5).toNat)
 case atStart=>exact⟨0,n,rfl,rfl,aC6 _,V7 _,YQ _ _,(⟨fun t ht=>absurd ht (Nat.not_lt_zero _),fun t h1 h2=>by omega⟩:(∀ t,t<0->p t=false)/\(∀ t,n<=t->t<n->p t=true))⟩
 case round =>
  obtain⟨lo,hi,rfl,rfl,hlh,hin,I⟩:=hrel;by_cases hlt:lo<hi
  ·have ee:(((lo+hi) / 2:Nat):Int)=((lo:Int)+(hi:Int)) / 2:=by omega
   have hc:=HF.out wr ((lo+hi) / 2) I.out.1 (by omega);rw[ee]at hc;clear ee;cases hp:p ((lo+hi) / 2)
   ·have HP:Hid (p ((lo+hi) / 2)=false):=hp;rw[hp]at hc;have HC:Hid (Calls Tryz.prog 116 _ wr _):=hc;clear hp hc;go_wp2_with fail
    refine(aC0 HC.out ?_);rintro e w1 ⟨rfl,a0⟩;have I2:Hid (Below w.heap.size w w1/\(∀ t,t<(lo+hi) / 2+1->p t=false)/\(∀ t,hi<=t->t<n->p t=true)):=⟨chain I.out.1 a0,fun t ht=>(by
     cases h:p t with
     | false=>rfl
     | true=>have:=M.out t ((lo+hi) / 2) (by omega) (by omega) h;rw[HP.out]at this;cases this),I.out.2.2⟩
    clear a0;go_wp2;go_roundw;case rel=>exact⟨(lo+hi) / 2+1,hi,by rw[show((lo:Int)+(hi:Int)) / 2+1=(((lo+hi) / 2+1:Nat):Int) by omega],rfl,by omega,hin,I2⟩
    case measure=>simp[intOf];omega
   ·have HP:Hid (p ((lo+hi) / 2)=true):=hp;rw[hp]at hc;have HC:Hid (Calls Tryz.prog 116 _ wr _):=hc;clear hp hc;go_wp2_with fail
    refine(aC0 HC.out ?_);rintro e w1 ⟨rfl,a0⟩;have I2:Hid (Below w.heap.size w w1/\(∀ t,t<lo->p t=false)/\(∀ t,(lo+hi) / 2<=t->t<n->p t=true)):=⟨chain I.out.1 a0,I.out.2.1,fun t ht htn=>M.out ((lo+hi) / 2) t ht htn HP.out⟩;clear a0;go_wp2;go_roundw;case rel=>exact⟨lo,(lo+hi) / 2,rfl,by rw[show((lo:Int)+(hi:Int)) / 2=(((lo+hi) / 2:Nat):Int) by omega],by omega,by omega,I2⟩
    case measure=>simp[intOf];omega
  ·obtain rfl:hi=lo:=by omega
   go_wp2;go_ret;exact⟨hi,rfl,I.out.1,hin,I.out.2.1,I.out.2.2⟩
theorem TZ(hr:Gm.P6 L)(u r:Nat)(h0:r<=L.length)(h1:∀ t,t<r->decide ((u:Int)<=(L.getD t (0,0,0)).1)=false)(h2:∀ t,r<=t->t<L.length->decide ((u:Int)<=(L.getD t (0,0,0)).1)=true):r=Gm.ah L u:=by
 have hle:=Gm.ah_le L u;have hg:∀ t (h:t<L.length),L.getD t (0,0,0)=L[t]:=fun t h=>by rw[aC1,A7 h];rfl
 rcases Nat.lt_trichotomy r (Gm.ah L u)with h | h | h
 ·have h3:=h2 r (V7 _) (by omega);rw[hg r (by omega)]at h3;have h4:=(Gm.ah_at L u r _ hr (A7 (by omega))).2 h;simp at h3;omega
 ·exact h
 ·have h3:=h1 (Gm.ah L u) h;rw[hg _ (by omega)]at h3;have h4:=(Gm.ah_at L u (Gm.ah L u) _ hr (A7 (by omega))).1;simp at h3;have:=h4 h3;omega
theorem wS(h:aJ w b n s L)(u:Nat):
 Calls Tryz.prog 65 #[.pointer (some ⟨b,0,none⟩),.int .i64 (u:Int)] w fun r w'=>r = .returned (.int .i64 (Gm.ah L u:Int))/\Below w.heap.size w w':=by
 have a5:=jJ w (.cells #[.pointer (some ⟨b,0,none⟩)] 47) (.cells #[.int .i64 (u:Int)] 3);have h2:=h.below a5;obtain⟨k0,k1⟩:=AA w (.pointer (some ⟨b,0,none⟩)) (.int .i64 (u:Int)) 47 3;have hr:=Gm.SY h.st;have HA:Hid (Calls Tryz.prog 115 _ _ _):=EW L.length (fun i=>decide ((u:Int)<=(L.getD i (0,0,0)).1)) w.heap.size (w.heap.size+1) _ (by have:=h.bd;omega)
  (fun W i hW hi=>GD (h2.below hW) w.heap.size (w.heap.size+1) (u:Int) (cell_kept hW _ _ k0) (cell_kept hW _ _ k1) i _ (by rw[aC1,A7 hi];rfl))
  (fun x y hxy hy hx=>by
   simp only[decide_eq_true_eq]at hx ⊢;rcases Nat.lt_or_eq_of_le hxy with hlt | rfl
   ·have:=(List.pairwise_iff_getElem.1 hr) x y (by omega) hy hlt;rw[aC1,A7 (by omega)]at hx ⊢;simp only[Option.getD_some]at hx ⊢;omega
   ·exact hx)
 have hz:=h2.sz2;have HR:Hid _:=hr;have aE:Hid _:=a5;clear h a5 h2 hr;go_enter Tryz.func65,Tryz.ntmps65
 go_wp2_with fail
 refine(aC0 HA.out ?_);rintro e w1 ⟨r,rfl,a0,hr1,hr2,hr3⟩;have HE:Hid (r=Gm.ah L u):=TZ HR.out u r hr1 hr2 hr3;have a3:Hid _:=chain aE.out a0;clear a0 hr1 hr2 hr3;go_wp2;go_ret;exact⟨by rw[<-HE.out];rfl,a3.out⟩
theorem K8(hs:bB 8 w b g l):
 Calls Tryz.prog 122 #[.pointer (some ⟨b,0,none⟩)] w fun e w'=>e = .returned (.agg #[.int .i64 0,.int .i64 (l.length:Int)])/\Below w.heap.size w w':=by
 have hB:=aA w (.cells #[.int .i64 0,.int .i64 0] 40);have HL:Hid (Calls Tryz.prog 162 _ (w.alloc (.cells #[.int .i64 0,.int .i64 0] 40)) _):=S8.len_any (hs.below hB);clear hs hB;go_enter Tryz.func122,Tryz.ntmps122
 go_wp2_with fail
 refine(aC0 HL.out ?_);rintro e w1 ⟨rfl,hw⟩;rw[hw];clear hw w1;go_wp2;refine bodyPost_ret (v:=.agg #[.int .i64 0,.int .i64 (l.length:Int)]) (by simp[results,Tryz.results122,go_sem]) rfl ?_;exact⟨rfl,aA _ _⟩
theorem ER(hs:bB 8 w b g l)(p c:Nat)(hp:l[p]?=some c):
 Calls Tryz.prog 113 #[.pointer (some ⟨b,0,none⟩),.int .i64 (p:Int)] w fun e w'=>e = .returned (.int .i64 ((bel l 0 l.length c+cnt (eqf l c) p:Nat):Int))/\Below w.heap.size w w':=by
 have b8:=(aC4.1 hp).1;have hn:=hs.hn;have hc:=hs.lt c (aC3 hp);have b2:=rE l 0 l.length c;have hb2:=dX (eqf l c) p;have HS:Hid _:=hs;have HA:Hid (Calls Tryz.prog 111 _ w _):=S8.at_yes hs p c hp;clear hs hp;go_enter Tryz.func113,Tryz.ntmps113
 go_wp2_with fail
 refine(aC0 HA.out ?_);rintro e w1 ⟨rfl,a0⟩;have a3:Hid _:=a0;have HW:Hid (Calls Tryz.prog 122 _ w1 _):=K8 (HS.out.below a0);clear HA a0;go_wp2_with fail
 refine(aC0 HW.out ?_);rintro e w2 ⟨rfl,a5⟩;have aE:Hid _:=chain a3.out a5;have HL:Hid (Calls Tryz.prog 123 _ w2 _):=S8.below_yes (HS.out.below aE.out) c 0 l.length hc (aC6 _) (V7 _);clear a5 HW;go_wp2_with fail
 refine(aC0 HL.out ?_);rintro e w3 ⟨rfl,hB3⟩;have b0:Hid _:=chain aE.out hB3;have HR:Hid (Calls Tryz.prog 131 _ w3 _):=S8.rank_yes (HS.out.below b0.out) c hc p (by omega);clear hB3 HL;go_wp2_with fail
 refine(aC0 HR.out ?_);rintro e w4 ⟨rfl,hB4⟩;have b9:Hid _:=chain b0.out hB4;clear hB4 HR;go_wp2;go_ret;exact⟨R7 (by rw[Int.natCast_add];rfl),b9.out⟩
theorem xN(h:aJ w b n s L)(p:Nat)(e:E3)(he:L[p]?=some e):
 Calls Tryz.prog 63 #[.pointer (some ⟨b,0,none⟩),.int .i64 (p:Int)] w fun r w'=>r = .returned (.agg #[.int .i64 e.1,.int .i64 e.2.1,.int .i64 e.2.2])/\Below w.heap.size w w':=by
 obtain⟨k1,k2,k3,k4,k5,k6⟩:=h.ok.2 e (aC3 he);have bS:=h.bd;have b8:=(aC4.1 he).1;obtain⟨c,hc⟩:∃ c:Nat,e.2.1=(c:Int):=⟨e.2.1.toNat,by omega⟩;obtain⟨d,hd⟩:∃ d:Nat,e.2.2=(d:Int):=⟨e.2.2.toNat,by omega⟩;have bW:(aM L)[p]?=some c:=by unfold aM;rw[aD0,he];simp[hc]
 obtain⟨bl,gl,c4,h8⟩:=h.lab;obtain⟨R,bt,gt,c5,h16,b6,hs2⟩:=h.tgt;have b7:=D7 h.st b6 hs2 h.lab0 p c e he hc;have hrt:(tos R)[bel (aM L) 0 (aM L).length c+cnt (eqf (aM L) c) p]?=some d:=by unfold tos;rw[aD0,b7];simp[hd]
 have a6:=aA w (.cells #[.int .i64 0,.int .i64 0,.int .i64 0] 38);have HG:Hid _:=h;have H8:Hid _:=h8;have H16:Hid _:=h16;have HAt:Hid (∀ W,bB 8 W bl gl (aM L)->Calls Tryz.prog 111 #[.pointer (some ⟨bl,0,none⟩),.int .i64 (p:Int)] W _):=fun W h=>S8.at_yes h p c bW;have HPl:Hid (∀ W,bB 8 W bl gl (aM L)->Calls Tryz.prog 113 #[.pointer (some ⟨bl,0,none⟩),.int .i64 (p:Int)] W _):=fun W h=>ER h p c bW;have HT:Hid (∀ W,bB 16 W bt gt (tos R)->Calls Tryz.prog 112 #[.pointer (some ⟨bt,0,none⟩),.int .i64 ((bel (aM L) 0 (aM L).length c+cnt (eqf (aM L) c) p:Nat):Int)] W _):=fun W h=>S16.at_yes h _ d hrt;have HSr:Hid (∀ W,aJ W b n s L->Calls Tryz.prog 114 #[.pointer (some ⟨b,0,none⟩),.int .i64 (p:Int)] W _):=fun W h=>DU h p e he;have aL:Hid _:=a6;generalize ((bel (aM L) 0 (aM L).length c+cnt (eqf (aM L) c) p:Nat):Int)=q at HPl HT;obtain⟨e1,e2,e3⟩:=e;simp only at hc hd HSr k1 k2;subst hc hd;have a4:=cell_kept a6 _ _ c4;clear h h8 h16 b7 hrt bW he a6;go_enter Tryz.func63,Tryz.ntmps63
 go_wp2_with fail
 refine(aC0 (HAt.out _ (H8.out.below aL.out)) ?_);rintro r w1 ⟨rfl,a0⟩;have a3:Hid _:=chain aL.out a0;have b4:=cell_kept a3.out _ _ c4;have b5:=cell_kept a3.out _ _ c5;have hs1:w.heap.size<w1.heap.size:=by have:=a0.size;simp at this;omega
 have z0:=cell_kept a0 ⟨w.heap.size,0,none⟩ (.int .i64 0) (by simp);have z1:=cell_kept a0 ⟨w.heap.size,1,none⟩ (.int .i64 0) (by simp);have z2:=cell_kept a0 ⟨w.heap.size,2,none⟩ (.int .i64 0) (by simp);have HR1:Hid (w1.heap[w.heap.size]?=some (.cells #[.int .i64 0,.int .i64 0,.int .i64 0] 38 (0,0))):=((a0.block _ (by simp)).trans (heap_alloc_new _ _):_=_);clear a0 a4 z0 z1 z2;go_wp2_with fail
 go_region_held3 (fun w'=>w'.cell? ⟨b,4,none⟩=some (.pointer (some ⟨bl,0,none⟩))/\w'.cell? ⟨b,5,none⟩=some (.pointer (some ⟨bt,0,none⟩))) (go_keep)
  (first
   | (go_at_call 113;refine(HPl.out _ ?_).mono ?_;exact((H8.out.below a3.out).kept (fun _ _ h=>h));rintro r w2 ⟨rfl,hB2d⟩;have a5:=((YQ w1.heap.size w1).drew).trans hB2d;have q1:=cell_kept a5 _ _ b4;have q2:=cell_kept a5 _ _ b5)
   | (go_at_call 112;refine(HT.out _ ?_).mono ?_;exact(((H16.out.below a3.out).kept (cell_kept a5)).kept (fun _ _ h=>h));rintro r w3 ⟨rfl,hB3⟩;have q3:=cell_kept hB3 _ _ q1;have q4:=cell_kept hB3 _ _ q2))
 have b0:Hid (Below w1.heap.size w1 w3):=(by first | exact chain a5 hB3 | exact chain a5 (((YQ w2.heap.size w2).drew).trans hB3):Below _ _ _);have HR3:Hid (w3.heap[w.heap.size]?=some (.cells #[.int .i64 0,.int .i64 0,.int .i64 0] 38 (0,0))):=((b0.out.block _ hs1).trans HR1.out:_=_);have hs3:=b0.out.size;clear q1 q2 q3 q4 b4 b5 hB2d a5 hB3;go_wp2_with fail
 refine(aC0 (HSr.out _ (HG.out.below (chain a3.out b0.out))) ?_);rintro r w4 ⟨rfl,hB4⟩;have b1:w4.heap[w.heap.size]?=some (.cells #[.int .i64 0,.int .i64 0,.int .i64 0] 38 (0,0)):=(hB4.block _ (by omega)).trans HR3.out;have b9:Hid _:=chain (chain a3.out b0.out) hB4;have y0:w4.cell? ⟨w.heap.size,0,none⟩=some (.int .i64 0):=by rw[cell_of_row w4 _ 0 _ _ _ b1];rfl
 have y1:w4.cell? ⟨w.heap.size,1,none⟩=some (.int .i64 0):=by rw[cell_of_row w4 _ 1 _ _ _ b1];rfl
 have y2:w4.cell? ⟨w.heap.size,2,none⟩=some (.int .i64 0):=by rw[cell_of_row w4 _ 2 _ _ _ b1];rfl
 have f0:=frozen_of_row w4 _ 0 _ _ b1;have f1:=frozen_of_row w4 _ 1 _ _ b1;have f2:=frozen_of_row w4 _ 2 _ _ b1;have hs4:=hB4.size;clear hB4 b1;go_wp2;refine bodyPost_ret (v:=.agg #[.int .i64 e1,.int .i64 (c:Int),.int .i64 (d:Int)]) (by simp[results,Tryz.results63,go_sem, *]) rfl ?_;exact⟨rfl,((b9.out.setCell (p:=⟨w.heap.size,0,none⟩) (V7 _) _).setCell (p:=⟨w.heap.size,1,none⟩) (V7 _) _).setCell (p:=⟨w.heap.size,2,none⟩) (V7 _) _⟩
end Go.Proofs.YtphjbbbnbmafnaaGreatDoor.G
namespace Go.Proofs.YtphjbbbnbmafnaaGreatDoor.G
open Go.RowKit
variable {w:World} {b n s:Nat} {L:List E3}
attribute [local go_sem ↓] Go.wp_at_zero Go.wp_at_succ
def upTo(a b:Nat):List Nat:=(List.range (b-a)).map (a + ·)
theorem zN(a b:Nat):(upTo a b).length=b-a:=by simp[upTo]
theorem NG(a k:Nat)(h:a<=k):upTo a (k+1)=upTo a k++[k]:=by
 unfold upTo;rw[show k+1-a=(k-a)+1 by omega,List.range_succ,aJ3];simp;omega
theorem N8(a:Nat):upTo a a=[]:=by unfold upTo;simp
theorem vO(w:World)(a b c d:Value)(t:TypeId):((w.alloc (.cells #[a,b] t)).alloc (.cells #[c,d] t)).cell? ⟨w.heap.size,0,none⟩=some a/\((w.alloc (.cells #[a,b] t)).alloc (.cells #[c,d] t)).cell? ⟨w.heap.size,1,none⟩=some b/\((w.alloc (.cells #[a,b] t)).alloc (.cells #[c,d] t)).cell? ⟨w.heap.size+1,0,none⟩=some c/\((w.alloc (.cells #[a,b] t)).alloc (.cells #[c,d] t)).cell? ⟨w.heap.size+1,1,none⟩=some d /\
 ((w.alloc (.cells #[a,b] t)).alloc (.cells #[c,d] t)).frozen? ⟨w.heap.size+1,0,none⟩=false/\((w.alloc (.cells #[a,b] t)).alloc (.cells #[c,d] t)).frozen? ⟨w.heap.size+1,1,none⟩=false:=by
 have h1:((w.alloc (.cells #[a,b] t)).alloc (.cells #[c,d] t)).heap[w.heap.size]?=some (.cells #[a,b] t (0,0)):=by rw[dI (by simp)];exact heap_alloc_new _ _
 have h2:((w.alloc (.cells #[a,b] t)).alloc (.cells #[c,d] t)).heap[w.heap.size+1]?=some (.cells #[c,d] t (0,0)):=by
  have:=heap_alloc_new (w.alloc (.cells #[a,b] t)) (.cells #[c,d] t);rwa [aD1]at this
 exact⟨by rw[cell_of_row _ _ 0 _ _ _ h1];rfl,by rw[cell_of_row _ _ 1 _ _ _ h1];rfl,by rw[cell_of_row _ _ 0 _ _ _ h2];rfl,by rw[cell_of_row _ _ 1 _ _ _ h2];rfl,frozen_of_row _ _ 0 _ _ h2,frozen_of_row _ _ 1 _ _ h2⟩
theorem wN(h:aJ w b n s L)(x y:Nat):
 Calls Tryz.prog 64 #[.agg #[.int .i64 (x:Int),.int .i64 (y:Int)],.func (.func 65) #[.pointer (some ⟨b,0,none⟩)] #[]] w fun e w'=>e = .returned (.agg #[.int .i64 (Gm.ah L x:Int),.int .i64 (Gm.ah L y:Int)])/\Below w.heap.size w w':=by
 have hB:=jJ w (.cells #[.int .i64 (x:Int),.int .i64 (y:Int)] 40) (.cells #[.int .i64 0,.int .i64 0] 40);have HB:Hid _:=hB;have HG:Hid _:=h.below hB;obtain⟨k0,k1,k2,k3,m0,m1⟩:=vO w (.int .i64 (x:Int)) (.int .i64 (y:Int)) (.int .i64 0) (.int .i64 0) 40;have HX:Hid (∀ W,aJ W b n s L->Calls Tryz.prog 65 #[.pointer (some ⟨b,0,none⟩),.int .i64 (x:Int)] W _):=fun W h=>wS h x;have HY:Hid (∀ W,aJ W b n s L->Calls Tryz.prog 65 #[.pointer (some ⟨b,0,none⟩),.int .i64 (y:Int)] W _):=fun W h=>wS h y;clear h hB;go_enter Tryz.func64,Tryz.ntmps64
 go_wp2_with fail
 go_region_held3 (fun w'=>w'.cell? ⟨w.heap.size,0,none⟩=some (.int .i64 (x:Int))/\w'.cell? ⟨w.heap.size,1,none⟩=some (.int .i64 (y:Int))) (go_keep)
  (first
   | (go_at_call_of 65 (Value.int IntKind.i64 (x:Int));refine(HX.out _ ?_).mono ?_;(first | exact(HG.out.kept (fun _ _ h=>h)) | exact(HG.out.below a9) | exact((HG.out.below a9).kept (fun _ _ h=>h)));rintro r wx ⟨rfl,hB0x⟩;have a7:Below ((w.alloc (.cells #[.int .i64 (x:Int),.int .i64 (y:Int)] 40)).alloc (.cells #[.int .i64 0,.int .i64 0] 40)).heap.size ((w.alloc (.cells #[.int .i64 (x:Int),.int .i64 (y:Int)] 40)).alloc (.cells #[.int .i64 0,.int .i64 0] 40)) wx:=(by first | exact(((YQ _ _).drew).trans hB0x) | exact chain a9 hB0x | exact chain a9 (((YQ _ _).drew).trans hB0x));have q1x:=cell_kept a7 _ _ k0;have q2x:=cell_kept a7 _ _ k1;have q3x:=cell_kept a7 _ _ k2;have q4x:=cell_kept a7 _ _ k3;have q5x:=(a7.frozen (p:=⟨w.heap.size+1,0,none⟩) (by simp)).trans m0;have q6x:=(a7.frozen (p:=⟨w.heap.size+1,1,none⟩) (by simp)).trans m1;have q7x:=a7.size)
   | (go_at_call_of 65 (Value.int IntKind.i64 (y:Int));refine(HY.out _ ?_).mono ?_;(first | exact(HG.out.kept (fun _ _ h=>h)) | exact(HG.out.below a7) | exact((HG.out.below a7).kept (fun _ _ h=>h)));rintro r wy ⟨rfl,hB0y⟩;have a9:Below ((w.alloc (.cells #[.int .i64 (x:Int),.int .i64 (y:Int)] 40)).alloc (.cells #[.int .i64 0,.int .i64 0] 40)).heap.size ((w.alloc (.cells #[.int .i64 (x:Int),.int .i64 (y:Int)] 40)).alloc (.cells #[.int .i64 0,.int .i64 0] 40)) wy:=(by first | exact(((YQ _ _).drew).trans hB0y) | exact chain a7 hB0y | exact chain a7 (((YQ _ _).drew).trans hB0y));have q1y:=cell_kept a9 _ _ k0;have q2y:=cell_kept a9 _ _ k1;have q3y:=cell_kept a9 _ _ k2;have q4y:=cell_kept a9 _ _ k3;have q5y:=(a9.frozen (p:=⟨w.heap.size+1,0,none⟩) (by simp)).trans m0;have q6y:=(a9.frozen (p:=⟨w.heap.size+1,1,none⟩) (by simp)).trans m1;have q7y:=a9.size))
 all_goals
  go_wp2;refine bodyPost_ret (v:=.agg #[.int .i64 (Gm.ah L x:Int),.int .i64 (Gm.ah L y:Int)]) (by simp[results,Tryz.results64,go_sem, *]) rfl ?_;first
   | exact⟨rfl,((chain HB.out a9).setCell (p:=⟨w.heap.size+1,0,none⟩) (aK2 _) _).setCell (p:=⟨w.heap.size+1,1,none⟩) (aK2 _) _⟩
   | exact⟨rfl,((chain HB.out a7).setCell (p:=⟨w.heap.size+1,0,none⟩) (aK2 _) _).setCell (p:=⟨w.heap.size+1,1,none⟩) (aK2 _) _⟩
theorem Tryz.infoI:(Tryz.prog.info? 3).map (fun i=>(i.zero,i.size,i.bytes))=some (some (.int .i64 0),1,8):=by kernel_rfl
def aA4(w wr:World)(v:Value)(l:List Nat):Prop:=wr.ownsRow w.heap.size 3 1 v l.length (vals .i64 l)/\Below w.heap.size w wr
theorem QR{wr w2:World}{v v':Value}{l:List Nat}{x:Nat}{o:Obj}(h:aA4 w wr v l)(hown:w2.ownsRow w.heap.size 3 1 v' (l.length+1) (vals .i64 l++[.int .i64 (x:Int)]))(hg:(wr.alloc o).grownBy w2 v.ownBlock):aA4 w w2 v' (l++[x]):=by
 refine⟨by rw[pU,WT];exact hown,?_⟩;exact(h.2.alloc h.2.size o).grown hg (by have:=h.2.size;simp;omega) (fun j hj=>(h.1.lt j hj).1)
theorem XI(w:World)(a b:Value)(t:TypeId):(w.alloc (.cells #[a,b] t)).cell? ⟨w.heap.size,0,none⟩=some a/\(w.alloc (.cells #[a,b] t)).cell? ⟨w.heap.size,1,none⟩=some b:=by
 refine⟨?_,?_⟩ <;> simp
theorem vY(h:aJ w b n s L)(x y:Nat):
 Calls Tryz.prog 34 #[.pointer (some ⟨b,0,none⟩),.agg #[.int .i64 (x:Int),.int .i64 (y:Int)]] w fun e w'=>∃ v,e = .returned v/\bA .i64 w' v (upTo (Gm.ah L x) (Gm.ah L y))/\Below w.heap.size w w':=by
 have a6:=aA w (.cells #[.int .i64 (x:Int),.int .i64 (y:Int)] 40);have aL:Hid _:=a6;have HE:Hid (Calls Tryz.prog 64 _ (w.alloc (.cells #[.int .i64 (x:Int),.int .i64 (y:Int)] 40)) _):=wN (h.below a6) x y;have hx1:=Gm.ah_le L x;have hy1:=Gm.ah_le L y;have bS:=h.bd;obtain⟨i0,hi,c0,c7,c8⟩:=info_parts Tryz.infoI;generalize Gm.ah L x=X at HE hx1;generalize Gm.ah L y=Y at HE hy1;clear h a6;go_enter Tryz.func34,Tryz.ntmps34
 go_wp2_with fail
 refine(aC0 HE.out ?_);rintro e w1 ⟨rfl,a0⟩;have b2:=chain aL.out a0;have aE:Hid _:=b2.alloc b2.size (.cells #[.int .i64 (X:Int),.int .i64 (Y:Int)] 40);have hsz1:=b2.size;clear a0 b2 HE;have a7:(w1.alloc (.cells #[.int .i64 (X:Int),.int .i64 (Y:Int)] 40)).heap[w1.heap.size]?=some (.cells #[.int .i64 (X:Int),.int .i64 (Y:Int)] 40 (0,0)):=heap_alloc_new _ _;have HBx:Hid _:=a7;clear a7;go_wp2;go_loopw [5,7] (fun sv sp wr=>∃ k:Nat,(k<=Y\/k=X)/\X<=k/\sp = .int .i64 (k:Int)/\(∃ a1 c1,sv = .slice a1 (k-X) c1)/\Hid (aA4 w wr sv (upTo X k)/\(∀ r,sv.ownBlock=some r->r≠w1.heap.size)/\wr.heap[w1.heap.size]?=some (.cells #[.int .i64 (X:Int),.int .i64 (Y:Int)] 40 (0,0)))) (fun _ sp _=>Y-(intOf sp).toNat)
 case atStart=>exact⟨X,.inr rfl,V7 _,rfl,⟨none,0,by rw[aJ1]⟩,⟨by rw[N8];exact aG2 _ _ _ _,aE.out⟩,(fun r hr=>by simp[Value.ownBlock]at hr),HBx.out⟩
 case round =>
  obtain⟨k,hk1,hk2,rfl,⟨a1,c1,rfl⟩,HI⟩:=hrel;have z1:wr.cell? ⟨w1.heap.size,1,none⟩=some (.int .i64 (Y:Int)):=by rw[cell_of_row wr _ 1 _ _ _ HI.out.2.2];rfl
  by_cases hlt:k<Y
  ·have a8:=HI.out.1.1;rw[zN]at a8;have hsz:=HI.out.1.2.size;have hgl:=(aC2.1 HI.out.2.2).1;go_wp2_with (at_builtin;refine wpList_append_lies _ rfl _ _ 64 rfl w.heap.size 3 i0 (.int .i64 0) 1 8 Tryz.underlying64 hi c0 c7 c8 rfl (by omega) _ _ _ rfl (a8.alloc _) ⟨wr.heap.size,0,none⟩ 1 1 [.int .i64 (k:Int)] rfl rfl ?c1 ?c2 (by omega) ?c3 ?c4 ?c5 (wr.heap.size+1) (by simp) ?_)
   case c1 =>
    intro j u hj
    match j,hj with
    | 0,hj=>simp at hj;subst hj;simp[Addr.add]
   case c2=>intro u hu;simp at hu;subst hu;rfl
   case c3=>unfold maxLen;omega
   case c4=>omega
   case c5=>simp;omega
   intro gg gc w2 hown hgrow hat hlt2;have HI2:Hid (aA4 w w2 (.slice (some ⟨gg,0,none⟩) (k-X+1) gc) (upTo X (k+1))/\(∀ r,(Value.slice (some ⟨gg,0,none⟩) (k-X+1) gc).ownBlock=some r->r≠w1.heap.size)/\w2.heap[w1.heap.size]?=some (.cells #[.int .i64 (X:Int),.int .i64 (Y:Int)] 40 (0,0))):=(by
    refine⟨?_,?_,?_⟩
    ·rw[NG X k hk2];exact QR HI.out.1 (by rw[zN];exact hown) hgrow
    ·intro r hr;have e:gg=r:=by simpa[Value.ownBlock]using hr
     subst e;rcases hat with h | h
     ·exact HI.out.2.1 gg h
     ·omega
    ·rw[hgrow.block _ (by simp;omega) (fun e=>HI.out.2.1 _ e.symm rfl),dI hgl];exact HI.out.2.2:_/\_)
   clear hown hgrow hat hlt2 a8;go_wp2;go_roundw;case rel=>exact⟨k+1,.inl (by omega),by omega,by go_num,⟨_,gc,by rw[show k+1-X=k-X+1 by omega]⟩,HI2.out⟩
   case measure=>simp[intOf];omega
  ·have hnl:¬(k:Int)<(Y:Int):=by omega
   have HN:Hid (bA .i64 wr (.slice a1 (k-X) c1) (upTo X Y)):=(by
    have h:=mQ HI.out.1.1;rcases aG5 Y X with h2 | h2
    ·obtain rfl:k=X:=by omega
     have e:upTo k Y=upTo k k:=by unfold upTo;rw[show Y-k=0 by omega,aJ1]
     rw[e];exact h
    ·obtain rfl:k=Y:=by omega
     exact h:bA _ _ _ _)
   have HB:Hid _:=HI.out.1.2;clear HI;go_wp2;go_ret;exact⟨_,rfl,HN.out,HB.out⟩
def vT(L:List E3)(ps:List Nat):List E3:=ps.map fun p=>L.getD p (0,0,0)
theorem AU(L:List E3)(ps:List Nat)(p:Nat):vT L (ps++[p])=vT L ps++[L.getD p (0,0,0)]:=by simp[vT]
theorem JH(L:List E3)(ps:List Nat):(vT L ps).length=ps.length:=by simp[vT]
theorem oN(w:World)(x y:Int):(w.alloc (.cells #[.int .i64 x,.int .i64 y] 40)).cell? ⟨w.heap.size,0,none⟩=some (.int .i64 x)/\(w.alloc (.cells #[.int .i64 x,.int .i64 y] 40)).cell? ⟨w.heap.size,1,none⟩=some (.int .i64 y):=XI w _ _ _
theorem wT(h:aJ w b n s L)(x y:Int)(hxy:¬(0<=x/\x<=y/\y<=(n:Int)))(fv:Value):
 Calls Tryz.prog 32 #[.pointer (some ⟨b,0,none⟩),.agg #[.int .i64 x,.int .i64 y],fv] w fun e w'=>e = .returned (.tuple #[.slice none 0 0,.int .i64 1])/\Below w.heap.size w w':=by
 have a6:=aA w (.cells #[.int .i64 x,.int .i64 y] 40);have aL:Hid _:=a6;obtain⟨k0,k1⟩:=oN w x y;have k2:=(h.below a6).sz0;have HS:Hid (∀ W,Calls Tryz.prog 39 _ W _):=fun W=>bO x y (n:Int) W;rw[decide_eq_false hxy]at HS;clear h hxy a6;go_enter Tryz.func32,Tryz.ntmps32
 go_wp2_with fail
 go_region_held3 (fun w'=>w'.cell? ⟨w.heap.size,0,none⟩=some (.int .i64 x)/\w'.cell? ⟨w.heap.size,1,none⟩=some (.int .i64 y)/\w'.cell? ⟨b,0,none⟩=some (.int .i64 (n:Int))) (go_keep)
  (first
   | (go_at_call 39;refine(HS.out _).mono ?_;rintro r w1 ⟨rfl,hB1d⟩;have a0:=((YQ _ _).drew).trans hB1d;have q1:=cell_kept a0 _ _ k0;have q2:=cell_kept a0 _ _ k1;have q3:=cell_kept a0 _ _ k2))
 go_wp2;go_ret2;exact⟨rfl,chain aL.out a0⟩
end Go.Proofs.YtphjbbbnbmafnaaGreatDoor.G
namespace Go.Proofs.YtphjbbbnbmafnaaGreatDoor.G
open Go.RowKit
variable {w:World} {B b k n s:Nat} {e:TypeId} {v:Value} {xs:List Value} {L:List E3}
attribute [local go_sem ↓] Go.wp_at_zero Go.wp_at_succ
theorem pE{A:Nat}(h:w.ownsRow A e k v n xs)(hB:B<=A):w.ownsRow B e k v n xs:=by
 refine⟨h.1,?_⟩;rcases h.2 with h0 | ⟨g,cap,cur,hv,hb,r⟩
 ·exact .inl h0
 ·exact .inr ⟨g,cap,cur,hv,aD9 hB hb,r⟩
theorem gQ{w':World}(h:w.ownsRow B e k v n xs)(hB:Below w.heap.size w w'):w'.ownsRow B e k v n xs:=by
 refine⟨h.1,?_⟩;rcases h.2 with h0 | ⟨g,cap,cur,hv,hb,hg,r⟩
 ·exact .inl h0
 ·exact .inr ⟨g,cap,cur,hv,hb,(hB.block g (aC2.1 hg).1).trans hg,r⟩
theorem GL(h:aJ w b n s L)(x y:Nat)(hxy:x<=y/\y<=n)(ps:List Nat)(hps:∀ p∈ps,p<L.length)(b8:ps.length<=20000)
 (hK:∀ W,aJ W b n s L->Calls Tryz.prog 34 #[.pointer (some ⟨b,0,none⟩),.agg #[.int .i64 (x:Int),.int .i64 (y:Int)]] W fun e w'=>∃ v,e = .returned v/\bA .i64 w' v ps/\Below W.heap.size W w') :
 Calls Tryz.prog 32 #[.pointer (some ⟨b,0,none⟩),.agg #[.int .i64 (x:Int),.int .i64 (y:Int)],.func (.func 34) #[] #[]] w fun e w'=>∃ v,e = .returned (.tuple #[v,.int .i64 0])/\eO w w' v (vT L ps):=by
 have a6:=aA w (.cells #[.int .i64 (x:Int),.int .i64 (y:Int)] 40);have aL:Hid _:=a6;obtain⟨k0,k1⟩:=oN w (x:Int) (y:Int);have k2:=(h.below a6).sz0;have HS:Hid (∀ W,Calls Tryz.prog 39 _ W _):=fun W=>bO (x:Int) (y:Int) (n:Int) W;rw[decide_eq_true (by omega:0<=(x:Int)/\(x:Int)<=(y:Int)/\(y:Int)<=(n:Int))]at HS;have HG:Hid _:=h;have HK:Hid _:=hK;have HP:Hid _:=hps;obtain⟨i0,hi,c0,c7,c8⟩:=info_parts Tryz.infoE;clear h a6 hK hps;go_enter Tryz.func32,Tryz.ntmps32
 go_wp2_with fail
 go_region_held3 (fun w'=>w'.cell? ⟨w.heap.size,0,none⟩=some (.int .i64 (x:Int))/\w'.cell? ⟨w.heap.size,1,none⟩=some (.int .i64 (y:Int))/\w'.cell? ⟨b,0,none⟩=some (.int .i64 (n:Int))) (go_keep)
  (first
   | (go_at_call 39;refine(HS.out _).mono ?_;rintro r w1 ⟨rfl,hB1d⟩;have a0:=((YQ _ _).drew).trans hB1d;have q1:=cell_kept a0 _ _ k0;have q2:=cell_kept a0 _ _ k1;have q3:=cell_kept a0 _ _ k2))
 have a3:Hid _:=chain aL.out a0;clear a0 hB1d k0 k1 k2;go_wp2_with fail
 refine(aC0 (HK.out w1 (HG.out.below a3.out)) ?_);rintro r w2 ⟨v2,rfl,hnum,a5⟩;have aE:Hid _:=chain a3.out a5;obtain⟨a2,cap2,rfl,hc2⟩:=hnum.open;have HC:Hid _:=hc2;clear hnum a5 hc2 HS HK q1 q2 q3;go_wp2;go_loopw [8,24] (fun sv si wr=>∃ k:Nat,k<=ps.length/\si = .int .i64 (k:Int)/\Hid (eO w2 wr sv (vT L (ps.take k)))) (fun _ si _=>ps.length-(intOf si).toNat)
 case atStart=>exact⟨0,aC6 _,rfl,⟨aG2 _ _ _ _,YQ _ _⟩⟩
 case round =>
  obtain⟨k,hk,rfl,HI⟩:=hrel;by_cases hlt:k<ps.length
  ·obtain⟨p,hp⟩:=jI hlt;obtain⟨g,off,rfl,hc⟩:=HC.out k p hp;have hc1:=cell_kept HI.out.2 _ _ hc;have bX:=HP.out p (aC3 hp);obtain⟨e,he⟩:∃ e,L[p]?=some e:=⟨_,A7 bX⟩;have HE:Hid (Calls Tryz.prog 63 _ wr _):=xN (HG.out.below (chain aE.out HI.out.2)) p e he;have HN:Hid (vT L (ps.take (k+1))=vT L (ps.take k)++[e]):=(by
    rw[aE0,hp,aH4,AU,aC1,he];rfl:_=_)
   have hkI:(k:Int)<(ps.length:Int):=by omega
   have hel:=JH L (ps.take k);rw[aD7,aI0 (by omega)]at hel;clear hc hp he;go_wp2_with fail
   refine(aC0 HE.out ?_);rintro r w3 ⟨rfl,hB3⟩;have a8:=gQ HI.out.1 hB3;have HO3:Hid (eO w2 w3 _ (vT L (ps.take k))):=⟨a8,chain HI.out.2 hB3⟩;have hsz:=HO3.out.2.size;clear hB3;go_wp2_with (at_builtin;refine wpList_append_own _ rfl _ _ 24 rfl w2.heap.size 38 i0 (.agg #[.int .i64 0,.int .i64 0,.int .i64 0]) 3 24 Tryz.underlying24 hi c0 c7 c8 rfl (by decide) _ _ _ rfl (a8.alloc _) ⟨w3.heap.size,0,none⟩ 1 1 [.int .i64 e.1,.int .i64 e.2.1,.int .i64 e.2.2] rfl rfl (SK _ _ _ _ _) (ED _ _ _) (by unfold maxLen;omega) (by omega) (by simp;omega) ?_;intro v' w4 hown hgrow hnil)
   have HO2:Hid _:=eP (e:=e) HO3.out hown hgrow;clear hown hgrow hnil a8;go_wp2;go_roundw;case rel=>exact⟨k+1,by omega,by go_num,by rw[HN.out];exact HO2.out⟩
   case measure=>simp[intOf];omega
  ·obtain rfl:k=ps.length:=by omega
   have HO:Hid (eO w _ _ (vT L ps)):=(by
    have h:=HI.out;rw[aE3]at h;exact⟨pE h.1 aE.out.size,chain aE.out h.2⟩:eO _ _ _ _)
   clear HI;go_wp2;go_ret2;exact⟨_,rfl,HO.out⟩
theorem NE(L:List E3)(a b:Nat)(hb:b<=L.length):vT L (upTo a b)=(L.take b).drop a:=by
 apply aG6;intro i;unfold vT upTo;rw[List.map_map];by_cases h:i<b-a
 ·rw[aD0,aI7 h,aH9,List.getElem?_drop,aI4 (by omega)];simp only[Function.comp];rw[aC1,A7 (by omega)];rfl
 ·rw[aC7 (by simp;omega),aC7 (by simp;omega)]
def qP(x y:Int)(e:E3):Bool:=decide (x<=e.1/\e.1<y)
theorem Q9(h:aJ w b n s L)(x y:Nat):vT L (upTo (Gm.ah L x) (Gm.ah L y))=L.filter (qP x y):=by
 rw[NE L _ _ (Gm.ah_le L y)];exact JW L (Gm.SY h.st) x y
theorem ZR{a p:Nat}(h:p∈upTo a b):p<b:=by
 unfold upTo at h;obtain⟨i,hi,rfl⟩:=List.mem_map.1 h;have:=List.mem_range.1 hi;omega
theorem rO(h:aJ w b n s L)(x y:Nat)(hxy:x<=y/\y<=n):
 Calls Tryz.prog 32 #[.pointer (some ⟨b,0,none⟩),.agg #[.int .i64 (x:Int),.int .i64 (y:Int)],.func (.func 34) #[] #[]] w fun e w'=>∃ v,e = .returned (.tuple #[v,.int .i64 0])/\eO w w' v (L.filter (qP x y)):=by
 have bS:=h.bd;have hy:=Gm.ah_le L y;have:=GL h x y hxy (upTo (Gm.ah L x) (Gm.ah L y)) (fun p hp=>aF0 (ZR hp) hy) (by rw[zN];omega) (fun W hW=>vY hW x y);rw[Q9 h]at this;exact this
theorem PI(h:aJ w b n s L):L.filter (qP (0:Nat) n)=L:=by
 rw[List.filter_eq_self];intro e he;have:=h.ok.2 e he;unfold qP;simp;omega
theorem AR(h:aJ w b n s L):
 Calls Tryz.prog 33 #[.pointer (some ⟨b,0,none⟩)] w fun e w'=>e = .returned (.agg #[.int .i64 0,.int .i64 (n:Int)])/\Below w.heap.size w w':=by
 have k0:=(h.below (aA w (.cells #[.int .i64 0,.int .i64 0] 40))).sz0;clear h;go_enter Tryz.func33,Tryz.ntmps33
 go_wp2;refine bodyPost_ret (v:=.agg #[.int .i64 0,.int .i64 (n:Int)]) (by simp[results,Tryz.results33,go_sem]) rfl ?_;exact⟨rfl,aA _ _⟩
theorem KH(h:aJ w b n s L):
 Calls Tryz.prog 13 #[.pointer (some ⟨b,0,none⟩)] w fun e w'=>∃ v,e = .returned v/\eO w w' v L:=by
 have HA:Hid (Calls Tryz.prog 33 _ w _):=AR h;have HE:Hid (∀ W,Below w.heap.size w W->Calls Tryz.prog 32 #[.pointer (some ⟨b,0,none⟩),.agg #[.int .i64 0,.int .i64 (n:Int)],.func (.func 34) #[] #[]] W fun e w'=>∃ v,e = .returned (.tuple #[v,.int .i64 0])/\eO W w' v L):=(fun W hW=>by
  have:=rO (h.below hW) 0 n ⟨aC6 _,V7 _⟩;rw[PI h]at this;exact this:∀ W,_)
 clear h;go_enter Tryz.func13,Tryz.ntmps13
 go_wp2_with fail
 refine(aC0 HA.out ?_);rintro e w1 ⟨rfl,a0⟩;have a3:Hid _:=a0;clear a0;go_wp2_with fail
 refine(aC0 (HE.out w1 a3.out) ?_);rintro e w2 ⟨v,rfl,hO⟩;have HO:Hid (eO w w2 v L):=(⟨pE hO.1 a3.out.size,chain a3.out hO.2⟩:eO _ _ _ _);clear hO;go_wp2;go_ret;exact⟨v,rfl,HO.out⟩
theorem QH(h:aJ w b n s L):
 Calls Tryz.prog 12 #[.pointer (some ⟨b,0,none⟩)] w fun e w'=>e = .returned (.agg #[.int .i64 (n:Int),.int .i64 (s:Int),.int .i64 (L.length:Int)])/\Below w.heap.size w w':=by
 have h2:=h.below (aA w (.cells #[.int .i64 0,.int .i64 0,.int .i64 0] 23));have k0:=h2.sz0;have k1:=h2.sz1;have k2:=h2.sz2;clear h h2;go_enter Tryz.func12,Tryz.ntmps12
 go_wp2;refine bodyPost_ret (v:=.agg #[.int .i64 (n:Int),.int .i64 (s:Int),.int .i64 (L.length:Int)]) (by simp[results,Tryz.results12,go_sem]) rfl ?_;exact⟨rfl,aA _ _⟩
end Go.Proofs.YtphjbbbnbmafnaaGreatDoor.G
