/- Parts: RefOp. -/
import Derived.Test.YtphjbbbnbmafnaaGreatDoorExt
import Derived.Test.YtphjbbbnbmafnaaGreatDoorRefOut
import Derived.Test.YtphjbbbnbmafnaaGreatDoorDec
import Derived.Test.YtphjbbbnbmafnaaGreatDoorRBuild
import Derived.Deep.RegionHeld3
import Derived.Deep.DrawnRows
import Derived.Test.YtphjbbbnbmafnaaGreatDoorPOpen
import Derived.Lib.AppendStr
import Derived.BigRegion
import Derived.Test.YtphjbbbnbmafnaaGreatDoorPEo
set_option maxHeartbeats 8000000
set_option maxRecDepth 100000
namespace Go.Proofs.YtphjbbbnbmafnaaGreatDoor.G
open Go.RowKit
theorem LG(s:ByteArray)(a k:Nat)(ha:a<=1000000000)(hk:k<=30)(hs:s.size<=1000000000)(w:World):
 Calls Tryz.prog 110 #[.string s,.int .i64 (a:Int),.int .i64 (k:Int)] w fun e w'=>e = .returned (.int .i64 (numOf (part s a k):Int))/\w'=w:=by
 go_enter Tryz.func110,Tryz.ntmps110
 go_wp2;go_loop [7,8] (fun sn si=>∃ p m:Nat,a<=p/\p<=a+k/\si = .int .i64 (p:Int)/\sn = .int .i64 (m:Int)/\m<1073741824/\Hid (m=numOf (part s a (p-a)))) (fun _ si=>a+k-(intOf si).toNat)
 case atStart=>exact⟨a,0,V7 _,by omega,rfl,rfl,by decide,(by rw[aJ1];rfl:0=numOf (part s a (a-a)))⟩
 case round =>
  obtain⟨p,m,hp1,hp2,rfl,rfl,hm,HM⟩:=hrel;by_cases cA:p<a+k
  ·have hN:=mR (part s a (p-a)) (s.data.toList[a+(p-a)]? == some 49);rw[<-PU,<-HM.out,show a+(p-a)=p by omega]at hN;have hL:=gW (part s a (p-a+1));rw[VH]at hL;have hp:2 ^ (p-a+1)<=2 ^ 30:=aL0 (by decide) (by omega);have hlI:(p:Int)<(a:Int)+(k:Int):=by omega
   have e1:p+1-a=p-a+1:=by omega
   by_cases hin:p<s.size
   ·rw[aAe s p hin]at hN;have d1:(p:Int)<(s.size:Int):=by omega
    cases hone:((s[p].toNat:Int) == 49)
    ·rw[hone]at hN;have HN:Hid (2*m=numOf (part s a (p+1-a))):=(by rw[e1,hN];simp:_=_);have cM:2*m<1073741824:=by rw[HN.out,e1];omega
     clear hN hL hp e1 HM;go_wp2;go_round;case rel=>exact⟨p+1,2*m,by omega,by omega,by go_num,by go_num,cM,HN.out⟩
     case measure=>simp[intOf];omega
    ·rw[hone]at hN;have HN:Hid (2*m+1=numOf (part s a (p+1-a))):=(by rw[e1,hN];simp:_=_);have cM:2*m+1<1073741824:=by rw[HN.out,e1];omega
     clear hN hL hp e1 HM;go_wp2;go_round;case rel=>exact⟨p+1,2*m+1,by omega,by omega,by go_num,by go_num,cM,HN.out⟩
     case measure=>simp[intOf];omega
   ·have d1:¬(p:Int)<(s.size:Int):=by omega
    rw[aC7 (by simp;omega)]at hN;have HN:Hid (2*m=numOf (part s a (p+1-a))):=(by rw[e1,hN];rfl:_=_);have cM:2*m<1073741824:=by rw[HN.out,e1];omega
    clear hN hL hp e1 HM;go_wp2;go_round;case rel=>exact⟨p+1,2*m,by omega,by omega,by go_num,by go_num,cM,HN.out⟩
    case measure=>simp[intOf];omega
  ·obtain rfl:p=a+k:=by omega
   have hE:=HM.out;rw[show a+k-a=k by omega]at hE;have HE:Hid (m=numOf (part s a k)):=hE;clear hE HM;go_wp2;go_ret;exact⟨by rw[<-HE.out];rfl,rfl⟩
end Go.Proofs.YtphjbbbnbmafnaaGreatDoor.G
namespace Go.Proofs.YtphjbbbnbmafnaaGreatDoor.G
open Go.RowKit
variable {B N S cap g j m n:Nat} {l:List E3} {w wr:World} {u v:Value} {e:E3}
attribute [local go_sem ↓] Go.wp_at_zero Go.wp_at_succ
theorem UI(t:List Bool)(a k:Nat):part (txt t) a k=sub t a k:=by
 unfold part sub;refine aF2 (fun i _ => ?_);unfold txt;simp only[aD0,aC1];cases t[a+i]? with
 | none=>rfl
 | some b=>cases b <;> rfl
def EH(t:List Bool)(N K:Nat):Prop:=(∀ k<K,(rdf t 34 k).2<N/\34+k<t.length)/\¬((rdf t 34 K).2<N/\34+K<t.length)
def MZ(t:List Bool)(N S:Nat)(l:List E3):Prop :=
 (N=0/\S=0/\l=[]/\∃ K,EH t (numOf (sub t 0 14)) K/\(rdf t 34 K).1.length≠numOf (sub t 19 15)) \/
 (N=numOf (sub t 0 14)/\S=numOf (sub t 14 5)/\∃ K,EH t N K/\(rdf t 34 K).1.length=numOf (sub t 19 15)/\l=edg t 34 N S K)
theorem CK{t:List Bool}{K J:Nat}(h1:EH t N K)(h2:EH t N J):K=J:=by
 rcases Nat.lt_trichotomy K J with h | h | h
 ·exact absurd (h2.1 K h) h1.2
 ·exact h
 ·exact absurd (h1.1 J h) h2.2
theorem UR{img:ByteArray}{s:Nat}{L:List E3}(h:Is img n s L){np:Nat}(hnp:img.size=256*np)(hr:MZ (bH img np) N S l):N=n/\S=s/\l=L:=by
 obtain⟨a1,a2,a3,a4⟩:=h.read hnp;have e:np=bK (dG n s L).length:=by have:=h.size.2.1;omega
 have ht:=FH (dG n s L);rw[<-h.2.2,<-e]at ht;have cF:=kH img np;generalize bH img np=t at hr a1 a2 a3 a4 ht cF;have bX:∀ x∈L,0<=x.1/\x.1<(n:Int):=fun x hx=>⟨(h.1.2 x hx).1,(h.1.2 x hx).2.1⟩;have hsr:At t 34 (eF L n):=by
  unfold dG at ht;have:=ht.left.left.right;simpa only[WT,aU,aG1]using this
 obtain⟨hst,cN⟩:=uY L (Gm.SY h.2.1) bX (by have:=h.1.1.1;omega) hsr;have hgl:=l7 n s L (Gm.ah_zero L (fun x hx=>(bX x hx).1)) (Gm.ah_all L n (fun x hx=>(bX x hx).2));have hlen:34+n+L.length<=t.length:=by
  have:=AL (dG n s L).length;rw[hgl]at this;rw[cF,e,hgl];omega
 have hrs:EH t n (L.length+n):=by
  refine⟨fun k hk=>⟨(hst.1 k hk).1,by omega⟩,fun hc => ?_⟩;have h1:=NS t 34 (L.length+n);have h2:(rdf t 34 (L.length+n)).1.length=L.length:=by rw[cN];simp[frs]
  omega
 have hfl:(rdf t 34 (L.length+n)).1.length=L.length:=by rw[cN];simp[frs]
 rcases hr with ⟨_,_,_,K,hK,b4⟩ | ⟨rfl,rfl,K,hK,_,rfl⟩
 ·rw[a1]at hK;obtain rfl:=CK hK hrs;rw[a3]at b4;exact absurd hfl b4
 ·rw[a1]at hK ⊢;rw[a2];obtain rfl:=CK hK hrs;exact⟨rfl,rfl,(a4 _ hst).1⟩
theorem BR(k:Nat)(h2:k<=100000)(w:World):
 Calls Tryz.prog 96 #[.int .i64 (k:Int)] w fun e w'=>e = .returned (.int .i64 (wid (k-1):Int))/\w'=w:=by
 rcases Nat.eq_zero_or_pos k with rfl | h
 ·go_enter Tryz.func96,Tryz.ntmps96
  go_wp2;go_loop [0,3] (fun sk sn=>sk = .int .i64 (-1)/\sn = .int .i64 0) (fun _ _=>0)
  case atStart=>exact⟨rfl,rfl⟩
  case round =>
   obtain⟨rfl,rfl⟩:=hrel;go_wp2;go_ret;exact⟨rfl,rfl⟩
 ·exact tQ k h h2 w
def RS(w wr:World)(N S:Nat)(v:Value)(l:List E3):Prop :=
 wr.heap[w.heap.size]?=some (.cells #[.int .i64 (N:Int),.int .i64 (S:Int),v] 53 (0,0))/\wr.ownsRow (w.heap.size+1) 38 3 v l.length (flat l)/\Below w.heap.size w wr
theorem RS.cells(h:RS w wr N S v l):wr.cell? ⟨w.heap.size,0,none⟩=some (.int .i64 (N:Int))/\wr.cell? ⟨w.heap.size,1,none⟩=some (.int .i64 (S:Int))/\wr.cell? ⟨w.heap.size,2,none⟩=some v/\wr.frozen? ⟨w.heap.size,2,none⟩=false :=
 ⟨by rw[cell_of_row _ _ 0 _ _ _ h.1];rfl,by rw[cell_of_row _ _ 1 _ _ _ h.1];rfl,by rw[cell_of_row _ _ 2 _ _ _ h.1];rfl,frozen_of_row _ _ 2 _ _ h.1⟩
theorem RS.app{w2:World}{v':Value}{o:Obj}(h:RS w wr N S v l)(a5:w2.ownsRow (w.heap.size+1) 38 3 v' (l.length+1) (flat l++[.int .i64 e.1,.int .i64 e.2.1,.int .i64 e.2.2]))(hg:(wr.alloc o).grownBy w2 v.ownBlock):
 RS w (w2.setCell ⟨w.heap.size,2,none⟩ v') N S v' (l++[e])/\w2.cell? ⟨w.heap.size,2,none⟩=some v/\w2.frozen? ⟨w.heap.size,2,none⟩=false:=by
 have cA:w.heap.size<wr.heap.size:=(aC2.1 h.1).1;have b4:some w.heap.size≠v.ownBlock:=fun e=>by have:=(h.2.1.lt w.heap.size e.symm).1;omega
 have hb:w2.heap[w.heap.size]?=some (.cells #[.int .i64 (N:Int),.int .i64 (S:Int),v] 53 (0,0)):=by
  rw[hg.block _ (by simp;omega) b4,dI cA];exact h.1
 refine⟨⟨by rw[heap_setCell_same w2 _ 2 _ _ _ hb];rfl,?_,?_⟩,by rw[cell_of_row _ _ 2 _ _ _ hb];rfl,frozen_of_row _ _ 2 _ _ hb⟩
 ·rw[kL,WT];refine⟨a5.1,?_⟩;rcases a5.2 with h0 | ⟨g,cap,a7,hv,cY,d0,r⟩
  ·exact .inl h0
  ·exact .inr ⟨g,cap,a7,hv,cY,by rw[heap_setCell_other _ _ _ _ (by show g≠w.heap.size;omega)];exact d0,r⟩
 ·have h1:=(h.2.2.alloc h.2.2.size o).grown hg (by have:=h.2.2.size;simp;omega) (fun j hj=>by have:=(h.2.1.lt j hj).1;omega);exact h1.setCell (p:=⟨w.heap.size,2,none⟩) (V7 _) _
theorem RS.put{l':List E3}(h:RS w wr N S (.slice (some ⟨g,0,none⟩) m cap) l)(hf:(flat l).set j u=flat l')(hm:l.length=m)(hl:l'.length=m):RS w (wr.setCell ⟨g,j,none⟩ u) N S (.slice (some ⟨g,0,none⟩) m cap) l'/\w.heap.size<g:=by
 subst hm;have h2:=h.2.1.stored j u;have hgk:=(h.2.1.lt g rfl).1;refine⟨⟨?_,by rw[hl,<-hf];exact h2.1,?_⟩,by omega⟩
 ·rw[heap_setCell_other _ _ _ _ (by show w.heap.size≠g;omega)];exact h.1
 ·exact h.2.2.setCell (p:=⟨g,j,none⟩) (by show w.heap.size<=g;omega) _
theorem RS.drew(h:RS w wr N S v l):RS w wr.drew N S v l:=⟨h.1,h.2.1.drew,h.2.2.drew⟩
theorem RS.cellAt(h:RS w wr N S (.slice (some ⟨g,0,none⟩) m cap) l)(hm:l.length=m)(hj:l[j]?=some e):
 (wr.cell? ⟨g,j*3+1,none⟩=some (.int .i64 e.2.1)/\wr.frozen? ⟨g,j*3+1,none⟩=false)/\wr.cell? ⟨g,j*3+2,none⟩=some (.int .i64 e.2.2)/\wr.frozen? ⟨g,j*3+2,none⟩=false:=by
 subst hm;have hl:=bN hj;obtain⟨_,h1,h2⟩:=iQ hj;exact⟨⟨by rw[h.2.1.cellAt _ (by omega)];exact h1,h.2.1.frozenAt _⟩,by rw[h.2.1.cellAt _ (by omega)];exact h2,h.2.1.frozenAt _⟩
theorem RS.some{a0:Option Addr}(h:RS w wr N S (.slice a0 m cap) l)(hm:l.length=m)(h0:0<m):∃ g,a0=some ⟨g,0,none⟩:=by
 rcases h.2.1.2 with ⟨h',h2⟩ | ⟨g',cap',a7,h',_⟩
 ·cases h';omega
 ·cases h';exact⟨g',rfl⟩
theorem NF{W:World}{o:Nat}{z:Value}(b4:g≠B)(h:W.cell? ⟨B,o,none⟩=some z):(W.setCell ⟨g,j,none⟩ u).cell? ⟨B,o,none⟩=some z:=by
 rw[aI9 _ ⟨g,j,none⟩ ⟨B,o,none⟩ u (fun e=>b4 (congrArg Addr.block e))];exact h
theorem OY{e:TypeId}{k:Nat}{xs:List Value}(h:w.ownsRow B e k v n xs):uO v:=by
 intro a0 m cap hv;rcases h.2 with ⟨h0,_⟩ | ⟨g,c,a7,h0,_,_,r1,_⟩
 ·rw[h0]at hv;cases hv;exact V7 _
 ·rw[h0]at hv;cases hv;exact r1
theorem MX(h:wr.ownsRow B 38 3 v l.length (flat l)):aI wr v l:=by
 rcases h.2 with ⟨rfl,h0⟩ | ⟨g,cap,a7,rfl,_,hg,r1,r2,r3,r4⟩
 ·obtain rfl:l=[]:=aD8 h0;exact⟨none,0,rfl,fun j e hj=>by cases hj⟩
 ·refine⟨some ⟨g,0,none⟩,cap,rfl,fun j e hj=>⟨g,0,rfl,?_⟩⟩;have hR:aR wr g cap l:=⟨a7,hg,r3,r4⟩;rw[aG1];exact hR.cells hj
theorem oZ(t:List Bool)(ht:t.length<=2016000)(a k:Nat)(ha:a<=10000000)(hk:k<=30)(w:World):
 Calls Tryz.prog 110 #[.string (txt t),.int .i64 (a:Int),.int .i64 (k:Int)] w fun e w'=>e = .returned (.int .i64 (numOf (sub t a k):Int))/\w'=w:=by
 have h:=LG (txt t) a k (by omega) hk (by rw[bE];omega) w;rw[UI]at h;exact h
theorem PY(t:List Bool)(w:World)(ht:t.length<=2016000):
 Calls Tryz.prog 62 #[.string (txt t)] w fun e w'=>∃ b:Nat,e = .returned (.pointer (some ⟨b,0,none⟩))/\∃(N S:Nat) (v:Value) (l:List E3),Hid (dR w' b N S v l/\MZ t N S l/\uO v/\Below w.heap.size w w'):=by
 have hts:=bE t;have HN0:Hid (Calls Tryz.prog 110 _ w _):=oZ t ht 0 14 (by decide) (by decide) w;have HN1:Hid (Calls Tryz.prog 110 _ w _):=oZ t ht 14 5 (by decide) (by decide) w;have HN2:Hid (∀ W,Calls Tryz.prog 110 #[.string (txt t),.int .i64 ((19:Nat):Int),.int .i64 ((15:Nat):Int)] W _):=fun W=>oZ t ht 19 15 (by decide) (by decide) W;have l0:=gW (sub t 0 14);have l1:=gW (sub t 14 5);have l2:=gW (sub t 19 15);rw[lI]at l0 l1 l2;obtain⟨N,hN⟩:∃ N,N=numOf (sub t 0 14):=⟨_,rfl⟩;obtain⟨S,hS⟩:∃ S,S=numOf (sub t 14 5):=⟨_,rfl⟩;obtain⟨M,hM⟩:∃ M,M=numOf (sub t 19 15):=⟨_,rfl⟩;rw[<-hN]at HN0 l0;rw[<-hS]at HN1 l1;rw[<-hM]at HN2 l2;have HN:Hid _:=hN;have HS:Hid _:=hS;have HM:Hid _:=hM;have HTs:Hid _:=hts;clear hN hS hM;obtain⟨i0,hi,d6,d7,d8⟩:=info_parts Tryz.infoE;have H0:Hid (RS w (w.alloc (.cells #[.int .i64 (N:Int),.int .i64 (S:Int),.slice none 0 0] 53)) N S (.slice none 0 0) (lst [] (fun _=>0) (fun _=>0) 0 0)):=(⟨heap_alloc_new _ _,aG2 _ _ _ _,aA _ _⟩:RS _ _ _ _ _ _);go_enter Tryz.func62,Tryz.ntmps62
 go_wp2_with fail
 refine(aC0 HN0.out ?_);rintro e w1 ⟨rfl,hw⟩;rw[hw];clear hw w1;go_wp2_with fail
 refine(aC0 HN1.out ?_);rintro e w1 ⟨rfl,hw⟩;rw[hw];clear hw w1;go_wp2_with fail
 refine(aC0 (HN2.out _) ?_);rintro e w1 ⟨rfl,hw⟩;rw[hw];clear hw w1;go_wp2;go_loopw [5,6] (fun sa su wr=>∃(k:Nat) (fs:List Nat) (u:Nat) (v:Value),k<=t.length/\u<=N/\fs.length<=k/\sa = .int .i64 ((34+k:Nat):Int)/\su = .int .i64 (u:Int)/\(∃ a0 cap,v = .slice a0 fs.length cap)/\Hid (rdf t 34 k=(fs,u)/\RS w wr N S v (lst fs (fun _=>0) (fun _=>0) 0 0)/\∀ j<k,(rdf t 34 j).2<N/\34+j<t.length)) (fun sa _ _=>t.length+34-(intOf sa).toNat)
 case atStart=>exact⟨0,[],0,.slice none 0 0,aC6 _,aC6 _,V7 _,rfl,rfl,⟨none,0,rfl⟩,rfl,H0.out,fun j hj=>by omega⟩
 case round =>
  obtain⟨k,fs,u,v,hk0,hk1,hk2,rfl,rfl,⟨a0,cap,rfl⟩,HI⟩:=hrel;obtain⟨c0,c1,c2,f2⟩:=HI.out.2.1.cells;by_cases hgo:u<N/\34+k<t.length
  ·obtain⟨cA,hle⟩:=hgo;have a9:(u:Int)<(N:Int):=by omega
   have hleI:((34+k:Nat):Int)<(t.length:Int):=by omega
   have HJ:Hid (∀ j<k+1,(rdf t 34 j).2<N/\34+j<t.length):=(by
    intro j hj;rcases Nat.lt_succ_iff_lt_or_eq.1 hj with h | h
    ·exact HI.out.2.2 j h
    ·rw[h,HI.out.1];exact⟨cA,hle⟩:∀ j<k+1,_)
   have hx:=IK t (34+k) (by rw[HTs.out];exact hle);cases hbit:t.getD (34+k) false
   ·rw[hbit]at hx;have HF:Hid (rdf t 34 (k+1)=(fs,u+1)):=(by show(if t.getD (34+k) false then _ else _)=_;rw[hbit,HI.out.1];rfl:_=_);have HI2:Hid (rdf t 34 (k+1)=(fs,u+1)/\RS w wr N S (.slice a0 fs.length cap) (lst fs (fun _=>0) (fun _=>0) 0 0)/\∀ j<k+1,(rdf t 34 j).2<N/\34+j<t.length):=(⟨HF.out,HI.out.2.1,HJ.out⟩:_/\_);clear hbit HI;go_wp2;refine⟨⟨k+1,fs,u+1,_,by omega,by omega,by omega,by go_num,by go_num,⟨a0,cap,rfl⟩,HI2.out⟩,?_⟩;simp[intOf];omega
   ·rw[hbit]at hx;have HF:Hid (rdf t 34 (k+1)=(fs++[u],u)):=(by show(if t.getD (34+k) false then _ else _)=_;rw[hbit,HI.out.1];rfl:_=_);have cC:=HI.out.2.1.2.1;have hln:=bF fs (fun _=>0) (fun _=>0) 0 0;have hsz:w.heap.size<wr.heap.size:=(aC2.1 HI.out.2.1.1).1;clear hbit;rw[hln]at cC;have HI1:Hid _:=HI.out.2.1;go_wp2_with (at_builtin;refine wpList_append_lies _ rfl _ _ 24 rfl (w.heap.size+1) 38 i0 (.agg #[.int .i64 0,.int .i64 0,.int .i64 0]) 3 24 Tryz.underlying24 hi d6 d7 d8 rfl (by decide) _ _ _ rfl (cC.alloc _) ⟨wr.heap.size,0,none⟩ 1 1 [.int .i64 (u:Int),.int .i64 0,.int .i64 0] rfl rfl (SK _ _ _ _ _) (ED _ _ _) (by omega) (by unfold maxLen;omega) (by omega) (by simp;omega) (wr.heap.size+1) (by simp) ?_;intro gg gc w3 a5 hgrow c7 hlt3;have HOw:Hid _:=a5;have HGw:Hid _:=hgrow;obtain⟨hA,c2',f2'⟩:=RS.app (e:=((u:Int),0,0)) HI1.out (by rw[hln];exact a5) hgrow;have HA:Hid _:=hA;have hs3:=hgrow.size;simp at hs3;clear a5 hgrow c7 hA cC c0 c1 c2 f2 HI)
    refine⟨⟨k+1,fs++[u],u,_,by omega,by omega,by rw[WT];simp;omega,by go_num,rfl,⟨_,gc,by rw[WT]⟩,HF.out,by rw[R3];exact HA.out,HJ.out⟩,?_⟩;simp[intOf];omega
  ·have HSt:Hid (EH t N k):=(⟨HI.out.2.2,by rw[HI.out.1];exact hgo⟩:EH t N k);have HF:Hid _:=HI.out.1;have cJ:Hid _:=HI.out.2.1;have HW1:Hid (∀ W,Calls Tryz.prog 96 _ W _):=fun W=>BR S (by omega) W;have HW2:Hid (∀ W,Calls Tryz.prog 96 _ W _):=fun W=>BR N (by omega) W;have hw1:=mF (S-1) (by omega);have hw2:=mF (N-1) (by omega);have a6:(decide ((u:Int)<(N:Int))&&decide (((34+k:Nat):Int)<(t.length:Int)))=false:=by
    rw[aK4,decide_eq_false_iff_not,decide_eq_false_iff_not];by_cases h:u<N
    ·right;intro h2;exact hgo ⟨h,by omega⟩
    ·left;omega
   clear hgo HI;by_cases hm:fs.length=M
   ·have hmI:((fs.length:Int) != (M:Int))=false:=by rw[hm];simp
    have hb0:Below w.heap.size w wr:=cJ.out.2.2;have cP:Hid _:=hb0;clear hb0;obtain⟨lb,d3⟩:∃ lb:Nat->Nat,lb=fun i=>numOf (sub t (34+k+i*wid (S-1)) (wid (S-1))):=⟨_,rfl⟩;obtain⟨tb,d5⟩:∃ tb:Nat->Nat,tb=fun i=>numOf (sub t (34+k+fs.length*wid (S-1)+i*wid (N-1)) (wid (N-1))):=⟨_,rfl⟩;have cS:Hid (edg t 34 N S k=lst fs lb tb fs.length fs.length):=(by unfold edg;rw[HF.out,d3,d5]:_=_);have HLB:Hid _:=d3;have HTB:Hid _:=d5;have b7:Hid _:=hm;clear d3 d5 hm;by_cases hun:(u:Int)<(N:Int);all_goals
     have c7:¬(((34+k:Nat):Int)<(t.length:Int))\/¬(u:Int)<(N:Int):=by
      rw[aK4,decide_eq_false_iff_not,decide_eq_false_iff_not]at a6;exact a6.symm
     try (have cX:¬(((34+k:Nat):Int)<(t.length:Int)):=c7.resolve_right (fun h=>h hun))
     clear c7 a6;go_wp2_with fail
     refine(aC0 (HW1.out _) ?_);rintro e w2 ⟨rfl,hw⟩;rw[hw];clear hw w2;go_wp2;go_loopw [5,8] (fun sa si wx=>∃ i:Nat,i<=fs.length/\sa = .int .i64 ((34+k+i*wid (S-1):Nat):Int)/\si = .int .i64 (i:Int)/\Hid (RS w wx N S (.slice a0 fs.length cap) (lst fs lb tb i 0))) (fun _ si _=>fs.length-(intOf si).toNat)
     case atStart=>exact⟨0,aC6 _,by rw[Nat.zero_mul];rfl,rfl,cJ.out⟩
     case round =>
      obtain⟨i,hi2,rfl,rfl,HI⟩:=hrel;clear c0 c1 c2 f2;obtain⟨c0,c1,c2,f2⟩:=HI.out.cells;have hMl:fs.length<32768:=by have:=b7.out;omega
      have cB:i*wid (S-1)<=32768*20:=aJ9 (by omega) hw1;by_cases hlt2:i<fs.length
      ·have a9:(i:Int)<(M:Int):=by have:=b7.out;omega
       obtain⟨g,rfl⟩:=HI.out.some (bF _ _ _ _ _) (by omega);obtain⟨⟨hcl,cN⟩,_⟩:=HI.out.cellAt (bF _ _ _ _ _) (kD fs lb tb i 0 i hlt2);obtain⟨aL,d0⟩:=HI.out.put (PG fs lb tb i 0 hlt2) (bF _ _ _ _ _) (bF _ _ _ _ _);have b9:Hid _:=aL;have cL:34+k+(i+1)*wid (S-1)=34+k+i*wid (S-1)+wid (S-1):=by rw[Nat.add_mul];omega
       have cG:Hid _:=cL;have a8:Hid (∀ W,Calls Tryz.prog 110 #[.string (txt t),.int .i64 ((34+k+i*wid (S-1):Nat):Int),.int .i64 (wid (S-1):Int)] W fun e w'=>e = .returned (.int .i64 (lb i:Int))/\w'=W):=(fun W=>by
        have h:=oZ t ht (34+k+i*wid (S-1)) (wid (S-1)) (by omega) (by omega) W;rw[HLB.out];exact h:∀ W,_)
       have hiI:(i:Int)<(fs.length:Int):=by omega
       have hi0:(0:Int)<=(i:Int):=by omega
       generalize hA:34+k+i*wid (S-1)=A at a8 cG;have hAl:A<=10000000:=by omega
       clear aL cL hA cB;go_wp2_with fail
       go_region_held3 (fun w'=>w'.cell? ⟨w.heap.size,2,none⟩=some (.slice (some ⟨g,0,none⟩) fs.length cap))
        (first | assumption | exact NF (by omega) (by assumption))
        (first
         | (go_at_call 110;refine(a8.out _).mono ?_;rintro r w2 ⟨rfl,rfl⟩))
       go_wp2;go_roundw;case rel=>exact⟨i+1,by omega,by rw[cG.out];go_num,by go_num,RS.drew b9.out⟩
       case measure=>simp[intOf];omega
      ·have a9:¬(i:Int)<(M:Int):=by have:=b7.out;omega
       obtain rfl:i=fs.length:=by omega
       have cT:Hid _:=HI.out;obtain⟨W0,rfl⟩:∃ W0,W0=wr:=⟨wr,rfl⟩;clear HI;go_wp2_with fail
       refine(aC0 (HW2.out _) ?_);rintro e w2 ⟨rfl,hw⟩;rw[hw];clear hw w2;go_wp2;go_loopw [5,9] (fun sa si wx=>∃ i:Nat,i<=fs.length/\sa = .int .i64 ((34+k+fs.length*wid (S-1)+i*wid (N-1):Nat):Int)/\si = .int .i64 (i:Int)/\Hid (RS w wx N S (.slice a0 fs.length cap) (lst fs lb tb fs.length i))) (fun _ si _=>fs.length-(intOf si).toNat)
       case atStart=>exact⟨0,aC6 _,by rw[Nat.zero_mul];rfl,rfl,cT.out⟩
       case round =>
        clear c0 c1 c2 f2 a9;obtain⟨i,hi2,rfl,rfl,HI⟩:=hrel;obtain⟨c0,c1,c2,f2⟩:=HI.out.cells;have hmul2:fs.length*wid (S-1)<=32768*20:=aJ9 (by omega) hw1;have cB:i*wid (N-1)<=32768*20:=aJ9 (by omega) hw2;by_cases hlt2:i<fs.length
        ·have a9:(i:Int)<(M:Int):=by have:=b7.out;omega
         obtain⟨g,rfl⟩:=HI.out.some (bF _ _ _ _ _) (by omega);obtain⟨_,hcl,cN⟩:=HI.out.cellAt (bF _ _ _ _ _) (kD fs lb tb fs.length i i hlt2);obtain⟨aL,d0⟩:=HI.out.put (WF fs lb tb fs.length i hlt2) (bF _ _ _ _ _) (bF _ _ _ _ _);have b9:Hid _:=aL;have cL:34+k+fs.length*wid (S-1)+(i+1)*wid (N-1)=34+k+fs.length*wid (S-1)+i*wid (N-1)+wid (N-1):=by rw[Nat.add_mul i];omega
         have cG:Hid _:=cL;have a8:Hid (∀ W,Calls Tryz.prog 110 #[.string (txt t),.int .i64 ((34+k+fs.length*wid (S-1)+i*wid (N-1):Nat):Int),.int .i64 (wid (N-1):Int)] W fun e w'=>e = .returned (.int .i64 (tb i:Int))/\w'=W):=(fun W=>by
          have h:=oZ t ht (34+k+fs.length*wid (S-1)+i*wid (N-1)) (wid (N-1)) (by omega) (by omega) W;rw[HTB.out];exact h:∀ W,_)
         have hiI:(i:Int)<(fs.length:Int):=by omega
         have hi0:(0:Int)<=(i:Int):=by omega
         generalize hA:34+k+fs.length*wid (S-1)+i*wid (N-1)=A at a8 cG;have hAl:A<=10000000:=by omega
         clear aL cL hA cB;go_wp2_with fail
         go_region_held3 (fun w'=>w'.cell? ⟨w.heap.size,2,none⟩=some (.slice (some ⟨g,0,none⟩) fs.length cap))
          (first | assumption | exact NF (by omega) (by assumption))
          (first
           | (go_at_call 110;refine(a8.out _).mono ?_;rintro r w2 ⟨rfl,rfl⟩))
         go_wp2;go_roundw;case rel=>exact⟨i+1,by omega,by rw[cG.out];go_num,by go_num,RS.drew b9.out⟩
         case measure=>simp[intOf];omega
        ·have a9:¬(i:Int)<(M:Int):=by have:=b7.out;omega
         obtain rfl:i=fs.length:=by omega
         have HG:Hid (dR _ w.heap.size N S _ _/\MZ t N S (lst fs lb tb fs.length fs.length)/\uO _/\Below w.heap.size w _):=⟨⟨c0,c1,c2,MX HI.out.2.1⟩,.inr ⟨HN.out,HS.out,k,HSt.out,by rw[HF.out,<-HM.out];exact b7.out,cS.out.symm⟩,OY HI.out.2.1,HI.out.2.2⟩;clear HI c0 c1 c2 f2;go_wp2;go_ret;exact⟨_,rfl,N,S,_,_,HG.out⟩
   ·have hmI:((fs.length:Int) != (M:Int))=true:=by simpa using(by omega:¬(fs.length:Int)=(M:Int))
    have b7:Hid _:=hm;by_cases hun:(u:Int)<(N:Int);all_goals
     have c7:¬(((34+k:Nat):Int)<(t.length:Int))\/¬(u:Int)<(N:Int):=by
      rw[aK4,decide_eq_false_iff_not,decide_eq_false_iff_not]at a6;exact a6.symm
     try (have cX:¬(((34+k:Nat):Int)<(t.length:Int)):=c7.resolve_right (fun h=>h hun))
     have HB:Hid (Below w.heap.size w (wr.alloc (.cells #[.int .i64 0,.int .i64 0,.slice none 0 0] 53))):=cJ.out.2.2.alloc cJ.out.2.2.size _;have HG:Hid (dR (wr.alloc (.cells #[.int .i64 0,.int .i64 0,.slice none 0 0] 53)) wr.heap.size (0:Nat) (0:Nat) (.slice none 0 0) []):=⟨by simp,by simp,by simp,none,0,rfl,fun j e hj=>by cases hj⟩;have HR:Hid (MZ t 0 0 []):=(.inl ⟨rfl,rfl,rfl,k,by rw[<-HN.out];exact HSt.out,by rw[HF.out,<-HM.out];exact b7.out⟩:MZ t 0 0 []);clear c7 a6 hm cJ;go_wp2;go_ret;exact⟨_,rfl,0,0,_,[],HG.out,HR.out,(fun a n c e=>by cases e;exact V7 _),HB.out⟩
end Go.Proofs.YtphjbbbnbmafnaaGreatDoor.G
namespace Go.Proofs.YtphjbbbnbmafnaaGreatDoor.G
open Go.RowKit
variable {w w' w2 wr:World} {v:Value} {L:List Bool} {g:Nat} {l:List Nat}
def RG(w:World)(b n s:Nat)(L:List E3):Prop:=∃ v,dR w b n s v L
theorem YE(a b c d S:Nat)(ha:a<256)(hb:b<256)(hc:c<256)(hd:d<256)(hS:S<4294967296):([a,b,c,d]=Crc.be4 S)↔S=16777216*a+65536*b+256*c+d:=by
 unfold Crc.be4;simp only[aK0,and_true];omega
theorem byt4(s:ByteArray)(a:Nat):byt s a 4=[(s.data.toList.getD a 0).toNat,(s.data.toList.getD (a+1) 0).toNat,(s.data.toList.getD (a+2) 0).toNat,(s.data.toList.getD (a+3) 0).toNat]:=rfl
theorem zZ(s:ByteArray)(a b i:Nat)(hb:b<=s.size)(hi:a+i<b):∀ h:i<(s.extract a b).size,((s.extract a b)[i].toNat)=(s.data.toList.getD (a+i) 0).toNat:=by
 intro h;have hsz:s.data.size=s.size:=rfl;have e:(s.extract a b)[i]=s[a+i]'(by omega):=ByteArray.getElem_extract ..;rw[e,aC1,aK5,aE2 (by omega)];rfl
theorem L6(img:ByteArray)(w:World)(hs:¬ kQ img)(hb:img.size<=9223372036854775807):Calls Tryz.prog 31 #[.string img] w (nH RG img w):=by
 have HS:Hid _:=hs;have htd:(img.size:Int).tdiv 256=(img.size:Int) / 256:=Int.tdiv_eq_ediv_of_nonneg (by omega);by_cases h1:(img.size:Int) / 256<1
 ·clear hs;go_enter Tryz.func31,Tryz.ntmps31
  go_wp2;go_ret2;exact⟨YQ _ _,.inl ⟨HS.out,rfl⟩⟩
 ·by_cases h2:(img.size:Int) / 256>1000
  ·clear hs;go_enter Tryz.func31,Tryz.ntmps31
   go_wp2;go_ret2;exact⟨YQ _ _,.inl ⟨HS.out,rfl⟩⟩
  ·have h3:((img.size:Int) != 256*((img.size:Int) / 256))=true:=by
    have:¬(img.size:Int)=256*((img.size:Int) / 256):=fun e=>hs ⟨by omega,by omega,by omega⟩;simpa using this
   clear hs;go_enter Tryz.func31,Tryz.ntmps31
   go_wp2;go_ret2;exact⟨YQ _ _,.inl ⟨HS.out,rfl⟩⟩
def Bt(w wr:World)(v:Value)(L:List Bool):Prop:=wr.ownsRow w.heap.size 5 1 v L.length (aX L)/\Below w.heap.size w wr
theorem XT{v':Value}{M:List Bool}(h:Bt w wr v L)(a5:w2.ownsRow w.heap.size 5 1 v' (L.length+(txt M).size) (aX L++Lib.strCells (txt M)))(hg:wr.grownBy w2 v.ownBlock):Bt w w2 v' (L++M):=by
 refine⟨by rw[dF,WT,<-aBc M,<-bE M];exact a5,?_⟩;exact h.2.grown hg h.2.size (fun j hj=>(h.1.lt j hj).1)
theorem rY(h:Bt w wr v L)(hb:Below wr.heap.size wr w2):Bt w w2 v L:=⟨own_below h.1 hb,chain h.2 hb⟩
theorem bt_end(h:Bt w wr v L)(hl:0<L.length):∃ g cap,v = .slice (some ⟨g,0,none⟩) L.length cap/\(convert 113 9 (.slice (some ⟨g,0,none⟩) L.length cap)).run Tryz.prog wr = .ok (.string (txt L)) wr:=by
 rcases h.1.2 with ⟨_,h0⟩ | ⟨g,cap,a7,rfl,_⟩
 ·omega
 ·refine⟨g,cap,rfl,?_⟩;have:=run_convert_bytes_back (P:=Tryz.prog) wr 113 9 5 ⟨g,0,none⟩ cap (L.map fun b=>if b then (49:UInt8)else 48) Tryz.underlying113 Tryz.underlying5 Tryz.underlying9 (fun j hj=>by
   have d2:j<L.length:=by simpa using hj
   rw[addr_add,aG1,h.1.cellAt j (by omega)];unfold aX;simp only[aD0,A7 d2,List.getElem_map,aH9];cases L[j] <;> rfl)
  rw[aH6]at this;exact this
def vV(w:World)(g:Nat)(l:List Nat):Prop:=∃ a7 fz,w.heap[g]?=some (.cells a7 5 fz)/\fz≠(0,0)/\∀(j x:Nat),l[j]?=some x->a7[j]?=some (.int .u8 (x:Int))
theorem vV.cell(h:vV w g l){j x:Nat}(hj:l[j]?=some x):w.cell? ⟨g,j,none⟩=some (.int .u8 (x:Int)):=by
 obtain⟨a7,fz,h1,_,h3⟩:=h;rw[cell_of_row w g j a7 _ fz h1];exact h3 j x hj
theorem vV.lt(h:vV w g l):g<w.heap.size:=by
 obtain⟨a7,fz,h1,_⟩:=h;exact(aC2.1 h1).1
theorem vV.below(h:vV w g l)(hb:Below w.heap.size w w'):vV w' g l:=by
 have hl:=h.lt;obtain⟨a7,fz,h1,h2,h3⟩:=h;exact⟨a7,fz,(hb.block g hl).trans h1,h2,h3⟩
theorem vV.grown{B k:Nat}{xs:List Value}(h:vV w g l)(a5:w.ownsRow B 5 1 v k xs)(hg:w.grownBy w' v.ownBlock):vV w' g l:=by
 have hl:=h.lt;obtain⟨a7,fz,h1,h2,h3⟩:=h;refine⟨a7,fz,(hg.block g hl (fun e => ?_)).trans h1,h2,h3⟩;rcases a5.2 with ⟨rfl,_⟩ | ⟨g2,cap,cur2,rfl,_,hg2,_⟩
 ·cases e
 ·simp only[Value.ownBlock,aC5]at e;subst e;rw[h1]at hg2;simp only[aC5,Obj.cells.injEq]at hg2;exact h2 hg2.2.2
theorem MV(img:ByteArray)(a n:Nat)(h:a+n<=img.size)(w:World):∃ g cap w1,(convert 9 113 (.string (img.extract a (a+n)))).run Tryz.prog w = .ok (.slice (some ⟨g,0,none⟩) n cap) w1/\vV w1 g (byt img a n)/\Below w.heap.size w w1:=by
 have hx:(img.extract a (a+n)).size=n:=by simp;omega
 have c8:=run_bytes_of_string (P:=Tryz.prog) w 9 113 5 (img.extract a (a+n)) Tryz.underlying9 Tryz.underlying113 Tryz.underlying5;rw[hx]at c8;refine⟨_,_,_,c8,⟨_,_,heap_alloc_new w.drew _,by simp,fun j x hj => ?_⟩,(YQ _ w).drew.alloc (V7 _) _⟩;have d2:j<n:=by have:=(aC4.1 hj).1;rwa [fA]at this
 have hj2:j<(img.extract a (a+n)).data.size:=by show j<(img.extract a (a+n)).size;omega
 unfold bytesRow;rw[Array.getElem?_append_left (by simp;omega),Array.getElem?_map,aE2 hj2];have e:=zZ img a (a+n) j h (by omega) hj2;have hx2:x=(img.data.toList.getD (a+j) 0).toNat:=by
  unfold byt at hj;rw[aD0,aI7 d2]at hj;simpa using hj.symm
 simp only[aH9];rw[hx2,<-e];rfl
theorem OQ(img:ByteArray)(w:World)(hb:img.size<=9223372036854775807):Calls Tryz.prog 31 #[.string img] w (nH RG img w):=by
 by_cases hs:kQ img
 ·obtain⟨n,hn⟩:∃ n,n=img.size / 256:=⟨_,rfl⟩;have hn1:img.size=256*n:=by have:=hs.2.1;omega
  have hn2:1<=n/\n<=1000:=by have:=hs.1;have:=hs.2.2;omega
  have bW:Hid _:=hn1;have HS:Hid _:=hs;have HN:Hid _:=hn;obtain⟨hn3,hn4⟩:=hn2;have hszI:(img.size:Int)=256*(n:Int):=by omega
  have htd:(256*(n:Int)).tdiv 256=(n:Int):=by rw[Int.tdiv_eq_ediv_of_nonneg (by omega)];omega
  have hneI:((256*(n:Int)) != 256*(n:Int))=false:=by simp
  obtain⟨i0,hi,d6,d7,d8⟩:=info_parts Tryz.infoB;clear hs hn hn1 hb;go_enter Tryz.func31,Tryz.ntmps31
  go_wp2;go_loopw [5,6] (fun sb sp wr=>∃ p:Nat,p<=n/\sp = .int .i64 (p:Int)/\Hid (Bt w wr sb (bH img p)/\∀ q<p,eT img q)) (fun _ sp _=>n-(intOf sp).toNat)
  case atStart=>exact⟨0,aC6 _,rfl,⟨aG2 _ _ _ _,YQ _ _⟩,fun q hq=>by omega⟩
  case round =>
   obtain⟨p,hp,rfl,HI⟩:=hrel;obtain⟨vb,rfl⟩:∃ vb,vb=u5:=⟨u5,rfl⟩;obtain⟨W0,rfl⟩:∃ W0,W0=wr:=⟨wr,rfl⟩;by_cases cA:p<n
   ·have a9:(p:Int)<(n:Int):=by omega
    obtain⟨g,cap,w1,c8,d4,b8⟩:=MV img (256*p) 252 (by have:=bW.out;omega) W0;have HPC:Hid _:=d4;have b5:Hid _:=b8;have bS:Hid (Calls Tryz.prog 60 _ w1 _):=Q4 p (byt img (256*p) 252) (.slice (some ⟨g,0,none⟩) 252 cap) w1 (by omega) (by rw[fA];omega) ⟨g,0,cap,by rw[fA],fun j x hj=>by rw[aG1];exact vV.cell d4 hj⟩ (fun x hx=>xL _ _ _ _ hx);have hSl:=Crc.sum_lt p (byt img (256*p) 252);obtain⟨S,hS⟩:∃ S,S=Crc.sumOf p (byt img (256*p) 252):=⟨_,rfl⟩;rw[<-hS]at bS hSl;have hx4:(img.extract (256*p+252) (256*p+256)).size=4:=by have:=bW.out;simp;omega
    have b0:((img.extract (256*p+252) (256*p+256))[0]'(by omega)).toNat=(img.data.toList.getD (256*p+252) 0).toNat:=zZ img (256*p+252) (256*p+256) 0 (by have:=bW.out;omega) (by omega) (by omega);have b1:=zZ img (256*p+252) (256*p+256) 1 (by have:=bW.out;omega) (by omega) (by omega);have b2:=zZ img (256*p+252) (256*p+256) 2 (by have:=bW.out;omega) (by omega) (by omega);have b3:=zZ img (256*p+252) (256*p+256) 3 (by have:=bW.out;omega) (by omega) (by omega);have HPk:Hid (eT img p↔byt img (256*p+252) 4=Crc.be4 S):=(by rw[hS];exact Iff.rfl:_↔_);have HSe:Hid _:=hS;have cD:=byt4 img (256*p+252);have k0:=UInt8.toNat_lt (img.data.toList.getD (256*p+252) 0);have k1:=UInt8.toNat_lt (img.data.toList.getD (256*p+252+1) 0);have k2:=UInt8.toNat_lt (img.data.toList.getD (256*p+252+2) 0);have k3:=UInt8.toNat_lt (img.data.toList.getD (256*p+252+3) 0);generalize (img.data.toList.getD (256*p+252) 0).toNat=x0 at b0 k0 cD;generalize (img.data.toList.getD (256*p+252+1) 0).toNat=x1 at b1 k1 cD;generalize (img.data.toList.getD (256*p+252+2) 0).toNat=x2 at b2 k2 cD;generalize (img.data.toList.getD (256*p+252+3) 0).toNat=x3 at b3 k3 cD;have b6:Hid (eT img p↔S=16777216*x0+65536*x1+256*x2+x3):=(by rw[HPk.out,cD];exact YE x0 x1 x2 x3 S k0 k1 k2 k3 hSl:_↔_);clear hS d4 b8 cD HPk;by_cases hq:S=16777216*x0+65536*x1+256*x2+x3
    ·have hqI:((S:Int) != 16777216*(x0:Int)+65536*(x1:Int)+256*(x2:Int)+(x3:Int))=false:=by
      rw[bne_eq_false_iff_eq];omega
     have HOk:Hid (eT img p):=b6.out.2 hq;clear hq b6;go_wp2_with fail
     refine(aC0 bS.out ?_);rintro e w2 ⟨rfl,hB2⟩;have aE:Hid _:=hB2;clear hB2;go_wp2_with fail
     go_region;have HP2:Hid (vV w2.drew g (byt img (256*p) 252)):=vV.below (vV.below HPC.out aE.out) (YQ _ _).drew;have HT2:Hid (Bt w w2.drew vb (bH img p)):=rY (rY (rY HI.out.1 b5.out) aE.out) (YQ _ _).drew;go_wp2;go_loopw [5,10] (fun sb si wq=>∃ i:Nat,i<=252/\si = .int .i64 (i:Int)/\Hid (Bt w wq sb (bH img p++nums 8 ((byt img (256*p) 252).take i))/\vV wq g (byt img (256*p) 252))) (fun _ si _=>252-(intOf si).toNat)
     case atStart=>exact⟨0,aC6 _,rfl,by rw[List.take_zero,show bH img p++nums 8 []=bH img p from aE4 _];exact HT2.out,HP2.out⟩
     case round =>
      obtain⟨i,hi2,rfl,HJ⟩:=hrel;obtain⟨vc,rfl⟩:∃ vc,vc=u5:=⟨u5,rfl⟩;by_cases hlt2:i<252
      ·have hltI2:(i:Int)<252:=by omega
       obtain⟨x,hx⟩:∃ x,(byt img (256*p) 252)[i]?=some x:=⟨_,A7 (by rw[fA];exact hlt2)⟩;have hcl:=vV.cell HJ.out.2 hx;have hxl:=xL _ _ _ _ (aC3 hx);have HNx:Hid _:=mD (k:=8) hx;have HDg:Hid (Calls Tryz.prog 61 _ wr _):=iP x 8 (by omega) (by decide) wr;have hLl:(bH img p++nums 8 ((byt img (256*p) 252).take i)).length<=5000000:=by
        have:=fM 8 (byt img (256*p) 252) i;rw[fA]at this;rw[WT,kH];omega
       generalize hLJ:bH img p++nums 8 ((byt img (256*p) 252).take i)=LJ at HJ hLl;have HLJ:Hid _:=hLJ;have hdz:(txt (dD 8 x)).size=8:=by rw[bE,aU]
       clear hLJ hx;go_wp2_with fail
       refine(aC0 HDg.out ?_);rintro e w3 ⟨rfl,aG⟩;have cV:Hid (Bt w w3 vc LJ):=rY HJ.out.1 aG;have HP3:Hid (vV w3 g (byt img (256*p) 252)):=vV.below HJ.out.2 aG;have a5:=cV.out.1;have cY:=cV.out.2.size;clear aG;go_wp2_with (at_builtin;refine Lib.wpList_append_own_string _ rfl _ _ 113 9 rfl w.heap.size 5 i0 Tryz.underlying113 Tryz.underlying9 hi d6 d7 d8 _ _ _ rfl a5 (txt (dD 8 x)) rfl (by rw[hdz];unfold maxLen;omega) (by rw[hdz];omega) cY ?_)
       intro v' w4 hown' hgrow _;have HT4:Hid (Bt w w4 v' (bH img p++nums 8 ((byt img (256*p) 252).take (i+1)))):=(by
        rw[HNx.out,<-aD3,HLJ.out];exact XT cV.out hown' hgrow:Bt _ _ _ _)
       have HP4:Hid (vV w4 g (byt img (256*p) 252)):=vV.grown HP3.out a5 hgrow;clear hown' hgrow a5;go_wp2;go_roundw;case rel=>exact⟨i+1,by omega,by go_num,HT4.out,HP4.out⟩
       case measure=>simp[intOf] <;> omega
      ·obtain rfl:i=252:=by omega
       have hJ:=HJ.out.1;rw[aD2 (by rw[fA];exact V7 _)]at hJ;have HT5:Hid (Bt w wr vc (bH img (p+1))):=hJ;clear hJ;go_wp2;go_roundw;case rel=>exact⟨p+1,by omega,by go_num,HT5.out,fun q hq=>by
        rcases Nat.lt_succ_iff_lt_or_eq.1 hq with h | h
        ·exact HI.out.2 q h
        ·rw[h];exact HOk.out⟩
       case measure=>simp[intOf] <;> omega
    ·have hqI:((S:Int) != 16777216*(x0:Int)+65536*(x1:Int)+256*(x2:Int)+(x3:Int))=true:=by
      rw[bne_iff_ne];omega
     have cI:Hid (¬ eT img p):=fun h=>hq (b6.out.1 h);clear hq b6;go_wp2_with fail
     refine(aC0 bS.out ?_);rintro e w2 ⟨rfl,hB2⟩;have aE:Hid _:=hB2;clear hB2;go_wp2_with fail
     go_region;have cR:Hid (Below w.heap.size w w2.drew):=(chain (chain HI.out.1.2 b5.out) aE.out).drew;go_wp2;go_ret2;exact⟨cR.out,.inr (.inl ⟨HS.out,⟨p,by rw[<-HN.out];exact cA,cI.out⟩,rfl⟩)⟩
   ·obtain rfl:p=n:=by omega
    obtain⟨g,cap,hv,c8⟩:=bt_end HI.out.1 (by rw[kH];omega);have cF:=kH img p;have cU:Hid (Calls Tryz.prog 62 _ W0 _):=PY (bH img p) W0 (by rw[cF];omega);have cH:Hid (∀ q<img.size / 256,eT img q):=(by rw[<-HN.out];exact HI.out.2:∀ q<_,_);have cP:Hid _:=HI.out.1.2;have HT:Hid (∃ t,t=bH img p):=⟨_,rfl⟩;have cW:Hid (∀ N S l,MZ (bH img p) N S l->∀ n' s' L,Is img n' s' L->N=n'/\S=s'/\l=L):=(fun N S l hr n' s' L h=>UR h bW.out hr:∀ N S l,_);rw[cF]at hv c8;rw[hv];generalize bH img p=t at c8 cU cW;clear cA hv cF HI HT;have hpp:¬(p:Int)<(p:Int):=by omega
    go_wp2_with fail
    refine(aC0 cU.out ?_);rintro e w1 ⟨b,rfl,N,S,v,l,HG⟩;have c0:=HG.out.1.cn;have c1:=HG.out.1.cs;have c2:=HG.out.1.ce;have b5:Hid _:=chain cP.out HG.out.2.2.2;have HU:Hid _:=cW.out N S l HG.out.2.1;have HBd:Hid (∀ W,aI W v l->Calls Tryz.prog 29 #[.int .i64 (N:Int),.int .i64 (S:Int),v] W _):=fun W h=>wP N S l v W h HG.out.2.2.1;clear cW cU c8 cP;go_wp2_with fail
    go_region_held3 (fun w'=>w'.cell? ⟨b,0,none⟩=some (.int .i64 (N:Int))/\w'.cell? ⟨b,1,none⟩=some (.int .i64 (S:Int))/\w'.cell? ⟨b,2,none⟩=some v) (go_keep)
     (first
      | (go_at_call 29;refine(HBd.out _ ?_).mono ?_;exact(HG.out.1.ed.below (YQ _ _).drew);rintro r w2 ⟨rfl,hB2⟩;have q1:=cell_kept hB2 _ _ c0;have q2:=cell_kept hB2 _ _ c1;have q3:=cell_kept hB2 _ _ c2))
    have aG:Below w1.heap.size w1 w2:=((YQ _ _).drew).trans hB2;have cQ:Hid _:=chain b5.out aG;have HG3:Hid (RG w2 b N S l):=(⟨v,dR.below HG.out.1 aG⟩:RG _ _ _ _ _);clear q1 q2 q3 hB2 aG;by_cases hgood:okG N S l
    ·have cE:jV N S l=0:=by unfold jV;rw[if_pos hgood]
     rw[cE];by_cases himg:eY N S l=img
     ·have HIs:Hid (Is img N S l):=(by
       have h:=xX hgood;rw[himg]at h;have h2:=(HU.out N S _ h).2.2;rw[<-h2]at h;exact h:Is _ _ _ _)
      have b4:=wJ _ _ himg;generalize eY N S l=again at b4;clear himg hgood cE;go_wp2;go_ret2;exact⟨cQ.out,.inr (.inr (.inr ⟨N,S,l,b,HIs.out,rfl,HG3.out⟩))⟩
     ·have cI:Hid (∀ n' s' L,¬ Is img n' s' L):=(fun n' s' L h=>by
       obtain⟨rfl,rfl,rfl⟩:=HU.out n' s' L h;exact himg (WR h).1:∀ n' s' L,_)
      have b4:=sO _ _ himg;generalize eY N S l=again at b4;clear himg hgood cE;go_wp2;go_ret2;exact⟨cQ.out,.inr (.inr (.inl ⟨HS.out,cH.out,cI.out,rfl⟩))⟩
    ·have cI:Hid (∀ n' s' L,¬ Is img n' s' L):=(fun n' s' L h=>by
      obtain⟨rfl,rfl,rfl⟩:=HU.out n' s' L h;exact hgood h.1:∀ n' s' L,_)
     have cE:¬ jV N S l=0:=by
      unfold jV;rw[if_neg hgood];decide
     have he1:(jV N S l != 0)=true:=by rw[bne_iff_ne];exact cE
     generalize jV N S l=er at cE he1;generalize eY N S l=again;clear hgood;go_wp2;go_ret2;exact⟨cQ.out,.inr (.inr (.inl ⟨HS.out,cH.out,cI.out,rfl⟩))⟩
 ·exact L6 img w hs hb
end Go.Proofs.YtphjbbbnbmafnaaGreatDoor.G
namespace Go.Proofs.YtphjbbbnbmafnaaGreatDoor.G
open Go.RowKit
variable {n s:Nat} {L:List E3} {w w':World}
theorem nA(n:Int)(w:World):Calls Tryz.prog 17 #[.int .i64 n] w fun e w'=>e = .returned (.int .i64 n)/\w'=w:=by
 go_enter Tryz.func17,Tryz.ntmps17
 go_wp2;go_ret;exact⟨rfl,rfl⟩
theorem Is.ok{img:ByteArray}(h:Is img n s L):kQ img/\∀ p<img.size / 256,eT img p:=by
 have k:=h.size;refine⟨k.1,fun p hp=>k.2.2.2.2 p ?_⟩;rw[k.2.1]at hp;omega
theorem RG.below{b:Nat}(h:RG w b n s L)(hB:Below w.heap.size w w'):RG w' b n s L:=by
 obtain⟨v,hv⟩:=h;exact⟨v,dR.below hv hB⟩
def jB(w:World)(q n s:Nat)(L:List E3):Prop:=∃ a b,w.cell? ⟨q,0,none⟩=some (.pointer (some ⟨a,0,none⟩))/\w.cell? ⟨q,1,none⟩=some (.pointer (some ⟨b,0,none⟩))/\aJ w a n s L/\RG w b n s L
theorem jB.below{q:Nat}(h:jB w q n s L)(hB:Below w.heap.size w w'):jB w' q n s L:=by
 obtain⟨a,b,h1,h2,h3,h4⟩:=h;exact⟨a,b,cell_kept hB _ _ h1,cell_kept hB _ _ h2,h3.below hB,h4.below hB⟩
def xE(img:ByteArray)(w:World)(e:Ending)(w':World):Prop :=
 Below w.heap.size w w' /\
 (((∀ n s L,¬ Is img n s L)/\e = .returned (.tuple #[.pointer none,.bool true])) \/
  (∃ n s L q,Is img n s L/\e = .returned (.tuple #[.pointer (some ⟨q,0,none⟩),.bool true])/\jB w' q n s L))
theorem KU(img:ByteArray)(w:World)(hb:img.size<=9223372036854775807):Calls Tryz.prog 11 #[.string img] w (xE img w):=by
 have HA:Hid (Calls Tryz.prog 30 #[.string img] w (nH aJ img w)):=TG img w hb;have HR:Hid (∀ W,Calls Tryz.prog 31 #[.string img] W (nH RG img W)):=fun W=>OQ img W hb;have a8:∀(q:Int) W,Hid (Calls Tryz.prog 17 #[.int .i64 q] W _):=fun q W=>nA q W;clear hb;go_enter Tryz.func11,Tryz.ntmps11
 go_wp2_with fail
 refine(aC0 HA.out ?_);rintro e w1 ⟨b8,h1⟩;have b5:Hid _:=b8;rcases h1 with ⟨p1,rfl⟩ | ⟨p1,p2,rfl⟩ | ⟨p1,p2,p3,rfl⟩ | ⟨n,s,L,a,his,rfl,hg⟩
 ·have H1:Hid _:=p1;clear b8 p1;go_wp2_with fail
  refine(aC0 (HR.out _) ?_);rintro e w2 ⟨hB2,⟨_,rfl⟩ | ⟨k1,_⟩ | ⟨k1,_⟩ | ⟨_,_,_,_,k1,_⟩⟩
  ·have aE:Hid _:=chain b5.out hB2;clear hB2;go_wp2_with fail
   refine(aC0 (a8 _ _).out ?_);rintro e w3 ⟨rfl,hw⟩;rw[hw];clear hw w3;go_wp2_with fail
   refine(aC0 (a8 _ _).out ?_);rintro e w3 ⟨rfl,hw⟩;rw[hw];clear hw w3;go_wp2;go_ret2;exact⟨aE.out,.inl ⟨fun n s L h=>H1.out (Is.ok h).1,rfl⟩⟩
  ·exact absurd k1 H1.out
  ·exact absurd k1 H1.out
  ·exact absurd (Is.ok k1).1 H1.out
 ·have H1:Hid _:=p1;have H2:Hid _:=p2;clear b8 p1 p2;go_wp2_with fail
  refine(aC0 (HR.out _) ?_);rintro e w2 ⟨hB2,⟨k1,_⟩ | ⟨_,_,rfl⟩ | ⟨_,k1,_⟩ | ⟨_,_,_,_,k1,_⟩⟩
  ·exact absurd H1.out k1
  ·have aE:Hid _:=chain b5.out hB2;clear hB2;go_wp2_with fail
   refine(aC0 (a8 _ _).out ?_);rintro e w3 ⟨rfl,hw⟩;rw[hw];clear hw w3;go_wp2_with fail
   refine(aC0 (a8 _ _).out ?_);rintro e w3 ⟨rfl,hw⟩;rw[hw];clear hw w3;go_wp2;go_ret2;exact⟨aE.out,.inl ⟨fun n s L h=>by obtain⟨p,hp,hq⟩:=H2.out;exact hq ((Is.ok h).2 p hp),rfl⟩⟩
  ·obtain⟨p,hp,hq⟩:=H2.out;exact absurd (k1 p hp) hq
  ·obtain⟨p,hp,hq⟩:=H2.out;exact absurd ((Is.ok k1).2 p hp) hq
 ·have H1:Hid _:=p1;have H2:Hid _:=p2;have H3:Hid _:=p3;clear b8 p1 p2 p3;go_wp2_with fail
  refine(aC0 (HR.out _) ?_);rintro e w2 ⟨hB2,⟨k1,_⟩ | ⟨_,⟨p,hp,hq⟩,_⟩ | ⟨_,_,_,rfl⟩ | ⟨_,_,_,_,k1,_⟩⟩
  ·exact absurd H1.out k1
  ·exact absurd (H2.out p hp) hq
  ·have aE:Hid _:=chain b5.out hB2;clear hB2;go_wp2_with fail
   refine(aC0 (a8 _ _).out ?_);rintro e w3 ⟨rfl,hw⟩;rw[hw];clear hw w3;go_wp2_with fail
   refine(aC0 (a8 _ _).out ?_);rintro e w3 ⟨rfl,hw⟩;rw[hw];clear hw w3;go_wp2;go_ret2;exact⟨aE.out,.inl ⟨H3.out,rfl⟩⟩
  ·exact absurd k1 (H3.out _ _ _)
 ·have H1:Hid _:=his;have HG:Hid _:=hg;clear b8 his hg;go_wp2_with fail
  refine(aC0 (HR.out _) ?_);rintro e w2 ⟨hB2,⟨k1,_⟩ | ⟨_,⟨p,hp,hq⟩,_⟩ | ⟨_,_,k1,_⟩ | ⟨n',s',L',b,k1,rfl,hg2⟩⟩
  ·exact absurd (Is.ok H1.out).1 k1
  ·exact absurd ((Is.ok H1.out).2 p hp) hq
  ·exact absurd H1.out (k1 _ _ _)
  ·obtain⟨rfl,rfl,rfl⟩:=Is.one H1.out k1;have aE:Hid _:=chain b5.out hB2;have HG1:Hid (aJ w2 a n s L):=aJ.below HG.out hB2;have HG2:Hid _:=hg2;clear hB2 hg2 k1;have aG:Below w2.heap.size w2 (w2.alloc (.cells #[.pointer (some ⟨a,0,none⟩),.pointer (some ⟨b,0,none⟩)] 50)):=aA _ _;have HP:Hid (jB (w2.alloc (.cells #[.pointer (some ⟨a,0,none⟩),.pointer (some ⟨b,0,none⟩)] 50)) w2.heap.size n s L):=(⟨a,b,by simp,by simp,aJ.below HG1.out aG,RG.below HG2.out aG⟩:jB _ _ _ _ _);have cR:Hid _:=chain aE.out aG;clear aG;go_wp2_with fail
   refine(aC0 (a8 _ _).out ?_);rintro e w3 ⟨rfl,hw⟩;rw[hw];clear hw w3;go_wp2_with fail
   refine(aC0 (a8 _ _).out ?_);rintro e w3 ⟨rfl,hw⟩;rw[hw];clear hw w3;go_wp2;go_ret2;exact⟨cR.out,.inr ⟨n,s,L,_,H1.out,rfl,HP.out⟩⟩
end Go.Proofs.YtphjbbbnbmafnaaGreatDoor.G
