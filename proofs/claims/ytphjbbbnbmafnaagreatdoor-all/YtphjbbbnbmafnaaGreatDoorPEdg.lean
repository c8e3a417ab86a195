/- Parts: PBuild Known Look PEdg. -/
import Derived.Test.YtphjbbbnbmafnaaGreatDoorInOrd
import Derived.Test.YtphjbbbnbmafnaaGreatDoorPText
import Derived.Test.YtphjbbbnbmafnaaGreatDoorExt
import Derived.Test.YtphjbbbnbmafnaaGreatDoorPRead
import Derived.Deep.AppendLies
import Derived.RangeFuncBox
set_option maxHeartbeats 8000000
set_option maxRecDepth 100000
namespace Go.Proofs.YtphjbbbnbmafnaaGreatDoor.G
open Go.RowKit
theorem JQ{v:World}{w a b:World}(h1:Below v.heap.size w a)(h2:Below a.heap.size a b)(hs:v.heap.size<=w.heap.size:=by exact V7 _):Below v.heap.size w b:=h1.trans (h2.mono (aD9 hs h1.size))
abbrev okG(n s:Int)(l:List E3):Prop:=Gm.sizeOk n s l.length/\∀ e∈l,Gm.edgeOk n s e
def eY(n s:Int)(l:List E3):ByteArray:=if okG n s l then built n.toNat s.toNat l else ⟨#[]⟩
def jV(n s:Int)(l:List E3):Int:=if okG n s l then 0 else 2
theorem yS(n s:Nat)(l:List E3)(h0:Gm.ah l 0=0)(hn:Gm.ah l n=l.length)(h1:n<=10000)(h2:s<=26)(h3:l.length<=20000):(dG n s l).length<=2016000:=by
 rw[l7 n s l h0 hn];have hw1:=mF (s-1) (by omega);have hw2:=mF (n-1) (by omega);have e1:wid (s-1)*l.length<=20*20000:=aJ9 hw1 h3;have e2:wid (n-1)*l.length<=20*20000:=aJ9 hw2 h3;omega
theorem AO(n s:Int)(l:List E3)(v:Value)(w:World)(he:aI w v l):
 Calls Tryz.prog 28 #[.int .i64 n,.int .i64 s,v] w fun e w'=>e = .returned (.tuple #[.string (eY n s l),.int .i64 (jV n s l)])/\Below w.heap.size w w':=by
 have HEd:Hid _:=he;obtain⟨a0,cap,rfl,hed⟩:=he;have HE:Hid _:=hed;have hb8:=aA w (.cells #[.int .i64 n,.int .i64 s,.int .i64 (l.length:Int)] 23);have c8:Hid (Calls Tryz.prog 48 _ (w.alloc (.cells #[.int .i64 n,.int .i64 s,.int .i64 (l.length:Int)] 23)) _):=BP n s l.length _;have hbx:∀ W,Below (w.alloc (.cells #[.int .i64 n,.int .i64 s,.int .i64 (l.length:Int)] 23)).heap.size (w.alloc (.cells #[.int .i64 n,.int .i64 s,.int .i64 (l.length:Int)] 23)) W->W.cell? ⟨w.heap.size,0,none⟩=some (.int .i64 n)/\W.cell? ⟨w.heap.size,1,none⟩=some (.int .i64 s)/\W.cell? ⟨w.heap.size,2,none⟩=some (.int .i64 (l.length:Int)):=fun W hW =>
  ⟨cell_kept hW _ _ (by simp),cell_kept hW _ _ (by simp),cell_kept hW _ _ (by simp)⟩
 have HBx:Hid _:=hbx;have cB:Hid _:=hb8;clear hed hb8 hbx;by_cases aG:Gm.sizeOk n s l.length
 ·have HD:Hid _:=decide_eq_true aG;rw[HD.out]at c8;have a8:Hid _:=aG;have hl2:l.length<=20000:=aG.2.2.2.2;clear aG;go_enter Tryz.func28,Tryz.ntmps28
  go_wp2_with fail
  refine(aC0 c8.out ?_);rintro e w1 ⟨rfl,hB1⟩;have cA:Hid _:=hB1;clear hB1;go_wp2;go_loopw [21] (fun si wr=>∃ i:Nat,i<=l.length/\si = .int .i64 (i:Int)/\Hid ((∀ e∈l.take i,Gm.edgeOk n s e)/\Below (w.alloc (.cells #[.int .i64 n,.int .i64 s,.int .i64 (l.length:Int)] 23)).heap.size (w.alloc (.cells #[.int .i64 n,.int .i64 s,.int .i64 (l.length:Int)] 23)) wr)) (fun si _=>l.length-(intOf si).toNat)
  case atStart=>exact⟨0,aC6 _,rfl,(fun e he=>by simp at he),cA.out⟩
  case round =>
   obtain⟨i,hi,rfl,HI⟩:=hrel;have a9:Below w.heap.size w wr:=chain cB.out HI.out.2;obtain⟨s0,s1,s2⟩:=HBx.out wr HI.out.2;by_cases a6:i<l.length
   ·obtain⟨x,hx⟩:∃ x,l[i]?=some x:=⟨_,A7 a6⟩;obtain⟨g,off,rfl,c0,c1,c2⟩:=HE.out i x hx;have d0:=cell_kept a9 _ _ c0;have d1:=cell_kept a9 _ _ c1;have d2:=cell_kept a9 _ _ c2;have hiI:(i:Int)<(l.length:Int):=by omega
    have hT:=take_snoc' hx;have b4:=aC3 hx;obtain⟨x1,x2,x3⟩:=x;simp only at d0 d1 d2;obtain⟨b0,b1,b2⟩:=TU wr (.int .i64 x1) (.int .i64 x2) (.int .i64 x3) 38;have t0:=dL (o:=.cells #[.int .i64 x1,.int .i64 x2,.int .i64 x3] 38) s0;have t1:=dL (o:=.cells #[.int .i64 x1,.int .i64 x2,.int .i64 x3] 38) s1;have t2:=dL (o:=.cells #[.int .i64 x1,.int .i64 x2,.int .i64 x3] 38) s2;have bX:Hid (Calls Tryz.prog 49 _ (wr.alloc (.cells #[.int .i64 x1,.int .i64 x2,.int .i64 x3] 38)) _):=RN x1 x2 x3 n s (l.length:Int) _;have HBa:Hid _:=HI.out.2.alloc HI.out.2.size (.cells #[.int .i64 x1,.int .i64 x2,.int .i64 x3] 38);have HBw:Hid _:=a9;by_cases hok:Gm.edgeOk n s (x1,x2,x3)
    ·rw[decide_eq_true hok]at bX;have b7:Hid (∀ e∈l.take (i+1),Gm.edgeOk n s e):=(fun e he=>by
      rw[hT]at he;rcases aC9.1 he with h | h
      ·exact HI.out.1 e h
      ·simp at h;rw[h];exact hok:∀ e∈l.take (i+1),Gm.edgeOk n s e)
     clear hok c0 c1 c2 hx hT b4 a9;go_wp2_with fail
     refine(aC0 bX.out ?_);rintro e w3 ⟨rfl,hB3⟩;have b6:Hid _:=JQ HBa.out hB3;clear hB3;go_wp2;go_roundw;case rel=>exact⟨i+1,by omega,by go_num,b7.out,b6.out⟩
     case measure=>simp[intOf] <;> omega
    ·rw[decide_eq_false hok]at bX;have HN:Hid (¬ okG n s l):=(fun h=>hok (h.2 _ b4):¬ okG n s l);clear hok c0 c1 c2 hx hT b4 a9;go_wp2_with fail
     refine(aC0 bX.out ?_);rintro e w3 ⟨rfl,hB3⟩;have b6:Hid _:=JQ HBa.out hB3;clear hB3;go_wp2;go_ret2;exact⟨by rw[eY,if_neg HN.out,jV,if_neg HN.out];rfl,chain cB.out b6.out⟩
   ·obtain rfl:i=l.length:=by omega
    have hI:=HI.out.1;rw[aE3]at hI;have hOk:okG n s l:=⟨a8.out,hI⟩;have hEw:=aI.below HEd.out a9;have HIn:Hid (Calls Tryz.prog 52 _ wr _):=FN _ l (by omega) wr hEw;have cD:Hid _:=hOk;have HBw:Hid _:=a9;obtain⟨n',hn'⟩:∃ n':Nat,n=(n':Int):=⟨n.toNat,by have:=a8.out.1;omega⟩;obtain⟨s',hs'⟩:∃ s':Nat,s=(s':Int):=⟨s.toNat,by have:=a8.out.2.2.1;omega⟩;clear hI hOk hEw a9 s0 s1 s2;go_wp2_with fail
    refine(aC0 HIn.out ?_);rintro e w3 ⟨v3,rfl,a4,hB3⟩;have hE3:aI w3 v3 (Gm.TM l):=kJ a4;subst hn' hs';have aE:∀ e∈Gm.TM l,Gm.edgeOk n' s' e:=fun e he=>cD.out.2 e ((Gm.VW l e).1 he);have b3:=Gm.ordE_len l;have HT:Hid (Calls Tryz.prog 51 _ w3 _):=LZ n' s' (Gm.TM l) v3 w3 hE3 (Gm.F3 l) aE (by have:=a8.out.1;omega) (by have:=a8.out.2.1;omega) (by have:=a8.out.2.2.1;omega) (by have:=a8.out.2.2.2.1;omega) (by omega);have HP:∀ W,Hid (Calls Tryz.prog 50 #[.string (txt (dG n' s' (Gm.TM l)))] W _):=fun W=>MP (dG n' s' (Gm.TM l)) (yS n' s' _ (Gm.ah_zero _ (fun e h=>(aE e h).1)) (Gm.ah_all _ n' (fun e h=>(aE e h).2.1)) (by have:=a8.out.2.1;omega) (by have:=a8.out.2.2.2.1;omega) (by omega)) W;have b6:Hid _:=chain HBw.out hB3;clear hE3 a4 hB3 aE b3;go_wp2_with fail
    refine(aC0 HT.out ?_);rintro e w4 ⟨rfl,hB4⟩;have HB4:Hid _:=chain b6.out hB4;clear hB4;go_wp2_with fail
    refine(aC0 (HP w4).out ?_);rintro e w5 ⟨rfl,hB5⟩;have HB5:Hid _:=chain HB4.out hB5;clear hB5;go_wp2;go_ret2;exact⟨by rw[eY,if_pos cD.out,jV,if_pos cD.out,built,aG3,aG3];rfl,HB5.out⟩
 ·have HD:Hid _:=decide_eq_false aG;rw[HD.out]at c8;have HN:Hid (¬ okG n s l):=(fun h=>aG h.1:¬ okG n s l);clear aG;go_enter Tryz.func28,Tryz.ntmps28
  go_wp2_with fail
  refine(aC0 c8.out ?_);rintro e w1 ⟨rfl,hB1⟩;have cA:Hid _:=chain cB.out hB1;clear hB1;go_wp2;go_ret2;exact⟨by rw[eY,if_neg HN.out,jV,if_neg HN.out];rfl,cA.out⟩
end Go.Proofs.YtphjbbbnbmafnaaGreatDoor.G
namespace Go.Proofs.YtphjbbbnbmafnaaGreatDoor.G
open Go.RowKit
theorem CJ:eY 2 1 [(0,0,1)]=image (dG 2 1 [(0,0,1)]):=by
 have h:okG 2 1 [(0,0,1)]:=by decide
 unfold eY built;rw[if_pos h,Gm.BU [(0,0,1)] (List.pairwise_singleton _ _)];rfl
theorem K3:(eY 2 1 [(0,0,1)]).size=256:=by
 rw[CJ,xI];have h:=l7 2 1 [(0,0,1)] (by decide) (by decide);rw[h];decide
theorem KA:(eY 2 1 [(0,0,1)]).extract 0 5=⟨#[0,8,32,0,100]⟩:=by
 rw[CJ];decide +kernel
end Go.Proofs.YtphjbbbnbmafnaaGreatDoor.G
namespace Go.Proofs.YtphjbbbnbmafnaaGreatDoor.G
open Go.RowKit
end Go.Proofs.YtphjbbbnbmafnaaGreatDoor.G
namespace Go.Proofs.YtphjbbbnbmafnaaGreatDoor.G
open Go.RowKit
variable {w:World} {base:Nat} {e:TypeId}
theorem IB{k:Nat}{v:Value}{n:Nat}{xs:List Value}(h:w.ownsRow base e k v n xs):∃ a c,v = .slice a n c:=by
 rcases h.2 with ⟨rfl,rfl⟩ | ⟨g,cap,cur,rfl,_⟩
 ·exact⟨none,0,rfl⟩
 ·exact⟨_,cap,rfl⟩
theorem BB{c:Nat}{a:Option Addr}{l:List (Value×Int)}(h:w.ownsRow base e 2 (.slice a l.length c) l.length (kR l))(k:Nat)(p:Value×Int)(hp:l[k]?=some p):∃ g,a=some ⟨g,0,none⟩/\w.cell? ⟨g,k*2,none⟩=some p.1/\w.cell? ⟨g,k*2+1,none⟩=some (.int .i64 p.2):=by
 have hk:=(aC4.1 hp).1;rcases h.2 with ⟨_,h0⟩ | ⟨g,cap,cur,hv,_,hg,_,_,_,ht⟩
 ·omega
 ·injection hv with e1 _ _;obtain⟨h0,h1⟩:=V4 l k p hp;rw[<-ht,aI4 (by omega),aK5]at h0 h1;exact⟨g,e1,by rw[cell_of_row w g _ cur _ _ hg];exact h0,by rw[cell_of_row w g _ cur _ _ hg];exact h1⟩
theorem RO{B N:Nat}{v1 v2:Value}{es is:List (Value×Int)}(hb:Bk w B N v1 v2 es is)(hn1:es.length<=6000000000000)(hn2:is.length<=6000000000000):
 Calls Tryz.prog 9 #[.pointer (some ⟨B,0,none⟩)] w fun e w'=>e = .returned (.bool true)/\Below w.heap.size w w':=by
 obtain⟨a1,c1,rfl⟩:=IB hb.own1;obtain⟨a2,c2,rfl⟩:=IB hb.own2;have a4:=hb.row;have b1:w.cell? ⟨B,1,none⟩=some (.slice a1 es.length c1):=by rw[cell_of_row _ _ 1 _ _ _ a4];rfl
 have b2:w.cell? ⟨B,2,none⟩=some (.slice a2 is.length c2):=by rw[cell_of_row _ _ 2 _ _ _ a4];rfl
 have bW:Hid _:=hb;clear hb a4;go_enter Tryz.func9,Tryz.ntmps9
 go_wp2;go_loopw [3] (fun sk wr=>∃ k q:Nat,k<=es.length/\sk = .int .i64 (k:Int)/\wr=w.drewN q) (fun sk _=>es.length-(intOf sk).toNat)
 case atStart=>exact⟨0,0,aC6 _,rfl,rfl⟩
 case round =>
  obtain⟨k,q,hk,rfl,rfl⟩:=hrel;by_cases a6:k<es.length
  ·obtain⟨p,hp⟩:∃ p,es[k]?=some p:=⟨_,A7 a6⟩;have hm:=aC3 hp;obtain⟨g,rfl,d0,d1⟩:=BB bW.out.own1 k p hp;obtain⟨a0,len,cap,bS,b3,hc⟩:=bW.out.l1 p hm;obtain⟨p1,n⟩:=p;simp only at bS d0 d1 hc;subst bS;have HC:Hid _:=hc;have hkI:(k:Int)<(es.length:Int):=by omega
   clear hp hm hc;go_wp2;go_loopw [4] (fun si wr=>∃ i q:Nat,i<=len/\si = .int .i64 (i:Int)/\wr=w.drewN q) (fun si _=>len-(intOf si).toNat)
   case atStart=>exact⟨0,q,aC6 _,rfl,rfl⟩
   case round =>
    obtain⟨i,q2,hi,rfl,rfl⟩:=hrel;by_cases hlt2:i<len
    ·obtain⟨g',off,rfl,e0,e12⟩:=HC.out i hlt2;obtain⟨e1,e2⟩:=e12 trivial;clear e12;have hiI:(i:Int)<(len:Int):=by omega
     have gE:=guardE;have hEq:=EC n 0 0 n 0 0 true (decide_eq_true rfl);go_wp2;go_quiet (fail)
     go_wp2;go_roundw;case rel=>exact⟨i+1,_,by omega,by go_num,rfl⟩
     case measure=>simp[intOf];omega
    ·obtain rfl:i=len:=by omega
     go_wp2;go_roundw;case rel=>exact⟨k+1,_,by omega,by go_num,rfl⟩
     case measure=>simp[intOf];omega
  ·obtain rfl:k=es.length:=by omega
   go_wp2;go_loopw [5] (fun sk wr=>∃ k q:Nat,k<=is.length/\sk = .int .i64 (k:Int)/\wr=w.drewN q) (fun sk _=>is.length-(intOf sk).toNat)
   case atStart=>exact⟨0,q,aC6 _,rfl,rfl⟩
   case round =>
    obtain⟨k,q,hk,rfl,rfl⟩:=hrel;by_cases a6:k<is.length
    ·obtain⟨p,hp⟩:∃ p,is[k]?=some p:=⟨_,A7 a6⟩;have hm:=aC3 hp;obtain⟨g,rfl,d0,d1⟩:=BB bW.out.own2 k p hp;obtain⟨a0,len,cap,bS,b3,hc⟩:=bW.out.l2 p hm;obtain⟨p1,n⟩:=p;simp only at bS d0 d1 hc;subst bS;have HC:Hid _:=hc;have hkI:(k:Int)<(is.length:Int):=by omega
     clear hp hm hc;go_wp2;go_loopw [6] (fun si wr=>∃ i q:Nat,i<=len/\si = .int .i64 (i:Int)/\wr=w.drewN q) (fun si _=>len-(intOf si).toNat)
     case atStart=>exact⟨0,q,aC6 _,rfl,rfl⟩
     case round =>
      obtain⟨i,q2,hi,rfl,rfl⟩:=hrel;by_cases hlt2:i<len
      ·obtain⟨g',off,rfl,e0,_⟩:=HC.out i hlt2;have hiI:(i:Int)<(len:Int):=by omega
       rw[Nat.mul_one]at e0;go_wp2;go_quiet (fail)
       go_wp2;go_roundw;case rel=>exact⟨i+1,_,by omega,by go_num,rfl⟩
       case measure=>simp[intOf];omega
      ·obtain rfl:i=len:=by omega
       go_wp2;go_roundw;case rel=>exact⟨k+1,_,by omega,by go_num,rfl⟩
       case measure=>simp[intOf];omega
    ·obtain rfl:k=is.length:=by omega
     go_wp2;go_ret;exact⟨rfl,below_drewN (YQ _ _) _⟩
end Go.Proofs.YtphjbbbnbmafnaaGreatDoor.G
namespace Go.Proofs.YtphjbbbnbmafnaaGreatDoor.G
open Go.RowKit
variable {a b:Nat} {t:List Bool} {w:World}
def Rd(b:Nat)(t:List Bool)(a:Nat)(w:World):Prop:=w.heap[b]?=some (.cells #[.string (txt t),.int .i64 (a:Int)] 110 (0,0))
theorem EP(w:World)(row:Option Nat):w.grownBy w row:=⟨rfl,rfl,rfl,V7 _,fun _ _ _=>rfl⟩
theorem Y0(w w':World)(row:Option Nat)(h:w.grownBy w' row)(n:Nat):w.grownBy (w'.drewN n) row:=⟨h.os,h.tape,h.output,h.size,h.block⟩
theorem sS{w':World}{row:Option Nat}(h:Rd b t a w)(hg:w.grownBy w' row)(b5:some b≠row):Rd b t a w':=(hg.block b ((aC2.1 h).1) b5).trans h
theorem xV(h:Rd b t a w):w.cell? ⟨b,0,none⟩=some (.string (txt t))/\w.cell? ⟨b,1,none⟩=some (.int .i64 (a:Int))/\w.frozen? ⟨b,1,none⟩=false:=by
 refine⟨by rw[cell_of_row w b 0 _ _ _ h];rfl,by rw[cell_of_row w b 1 _ _ _ h];rfl,?_⟩;exact frozen_of_row w b 1 _ _ h
def nx(t:List Bool)(a:Nat):Nat:=if a<t.length then a+1 else a
theorem CY(b:Nat)(t:List Bool)(a:Nat)(w:World)(h:Rd b t a w)(ht:t.length<=100000000)(ha:a<=t.length):
 Calls Tryz.prog 100 #[.pointer (some ⟨b,0,none⟩)] w fun e w'=>e = .returned (.int .i64 ((t.getD a false).toNat:Int))/\Rd b t (nx t a) w'/\w.grownBy w' (some b):=by
 obtain⟨c0,c1,c2⟩:=xV h;have hts:=bE t;have HH:Hid _:=h;clear h;by_cases a6:a<t.length
 ·have hlI:¬(a:Int)>=(t.length:Int):=by omega
  have hx:=IK t a (by omega);have HR:Hid (Rd b t (nx t a) (w.setCell ⟨b,1,none⟩ (.int .i64 ((a:Int)+1)))):=(by
   have h2:=heap_setCell_same w b 1 _ _ (.int .i64 ((a:Int)+1)) HH.out;unfold Rd nx;rw[if_pos a6,h2];rfl:Rd _ _ _ _)
  have d0:(w.setCell ⟨b,1,none⟩ (.int .i64 ((a:Int)+1))).cell? ⟨b,0,none⟩=some (.string (txt t)):=(xV HR.out).1;have d1:(w.setCell ⟨b,1,none⟩ (.int .i64 ((a:Int)+1))).cell? ⟨b,1,none⟩=some (.int .i64 ((a:Int)+1)):=by
   have:=(xV HR.out).2.1;unfold nx at this;rw[if_pos a6]at this;exact this
  go_enter Tryz.func100,Tryz.ntmps100
  go_wp2_with fail
  go_quiet (fail)
  go_wp2_with fail
  go_quiet (fail)
  go_wp2;go_ret;refine⟨?_,HR.out,Y0 _ _ _ ((Y0 _ _ _ (EP _ _) _).trans (jR _ _ _ _)) _⟩;refine R7 ?_;show Value.int .i64 ((48+((t[a].toNat:Nat):Int)-48) % 256)=_;have e:t.getD a false=t[a]:=by rw[aC1,A7 a6];rfl
  have hb:=Bool.toNat_le t[a];rw[e];congr 1;omega
 ·have hlI:(a:Int)>=(t.length:Int):=by omega
  have hg:t.getD a false=false:=by rw[aC1,aC7 (by omega)];rfl
  have hnx:nx t a=a:=by unfold nx;rw[if_neg a6]
  rw[hg,hnx];go_enter Tryz.func100,Tryz.ntmps100
  go_wp2_with fail
  go_quiet (fail)
  go_wp2_with fail
  go_ret;exact⟨rfl,HH.out,Y0 _ _ _ (EP _ _) _⟩
def mv(t:List Bool)(a k:Nat):Nat:=min (a+k) t.length
theorem aB1(t:List Bool)(a k:Nat):nx t (mv t a k)=mv t a (k+1):=by unfold nx mv;split <;> omega
theorem O9(t:List Bool)(a j k:Nat):mv t (mv t a j) k=mv t a (j+k):=by unfold mv;omega
theorem yP(t:List Bool)(a k:Nat):t.getD (mv t a k) false=t.getD (a+k) false:=by
 unfold mv;rcases Nat.le_total (a+k) t.length with h | h
 ·rw[aI0 h]
 ·rw[Nat.min_eq_right h,aC1,aC1,aC7 (by omega),aC7 (by omega)]
theorem G8(t:List Bool)(a j k:Nat):sub t (mv t a j) k=sub t (a+j) k:=by
 unfold sub;refine aF2 (fun i _ => ?_);have h1:=yP t a (j+i);rw[<-O9,yP]at h1;rw[h1,Nat.add_assoc]
theorem or_bit(m:Nat)(x:Bool)(hm:m<1073741824):bits .or .i64 ((m:Int)*2) ((x.toNat:Nat):Int)=((2*m+x.toNat:Nat):Int):=by
 have hx:=Bool.toNat_le x;show IntKind.i64.wrap ((BitVec.ofInt 64 ((m:Int)*2) ||| BitVec.ofInt 64 ((x.toNat:Nat):Int)).toNat:Int)=_;rw[BitVec.toNat_or];have e1:(BitVec.ofInt 64 ((m:Int)*2)).toNat=2 ^ 1*m:=by simp;omega
 have e2:(BitVec.ofInt 64 ((x.toNat:Nat):Int)).toNat=x.toNat:=by simp;omega
 rw[e1,e2,<-Nat.two_pow_add_eq_or_of_lt (i:=1) (b:=x.toNat) (by omega),aK6];omega
theorem lZ(b:Nat)(t:List Bool)(a k:Nat)(w:World)(h:Rd b t a w)(ht:t.length<=100000000)(ha:a<=t.length)(hk:k<=20):
 Calls Tryz.prog 99 #[.pointer (some ⟨b,0,none⟩),.int .i64 (k:Int)] w fun e w'=>e = .returned (.int .i64 (numOf (sub t a k):Int))/\Rd b t (mv t a k) w'/\w.grownBy w' (some b):=by
 have HH:Hid _:=h;clear h;go_enter Tryz.func99,Tryz.ntmps99
 go_wp2;go_loopw [5,7] (fun sn si wr=>∃ i m:Nat,i<=k/\si = .int .i64 (i:Int)/\sn = .int .i64 (m:Int)/\m<1073741824/\Hid (m=numOf (sub t a i)/\Rd b t (mv t a i) wr/\w.grownBy wr (some b))) (fun _ si _=>k-(intOf si).toNat)
 case atStart=>exact⟨0,0,aC6 _,rfl,rfl,by decide,rfl,by unfold mv;rw[Nat.add_zero,aI0 ha];exact HH.out,EP _ _⟩
 case round =>
  obtain⟨i,m,hi,rfl,rfl,hm,HI⟩:=hrel;by_cases a6:i<k
  ·have hC:=CY b t (mv t a i) wr HI.out.2.1 ht (by unfold mv;omega);rw[aB1,yP]at hC;have HC:Hid (Calls Tryz.prog 100 _ wr _):=hC;have hN:=mR (sub t a i) (t.getD (a+i) false);rw[<-I9,<-HI.out.1]at hN;have hL:=gW (sub t a (i+1));rw[lI]at hL;have hp:2 ^ (i+1)<=2 ^ 20:=aL0 (by decide) (by omega);have hmm:m<1048576:=by omega
   have HO:Hid _:=or_bit m (t.getD (a+i) false) hm;generalize t.getD (a+i) false=x at HC HO hN;have hx:=Bool.toNat_le x;have HN:Hid _:=hN;have hm2:2*m+x.toNat<1073741824:=by rw[<-hN];omega
   clear hC hL hp hN;go_wp2_with fail
   refine(aC0 HC.out ?_);rintro e w2 ⟨rfl,hr2,a3⟩;have b7:Hid (2*m+x.toNat=numOf (sub t a (i+1))/\Rd b t (mv t a (i+1)) w2/\w.grownBy w2 (some b)):=(⟨HN.out.symm,hr2,HI.out.2.2.trans a3⟩:_/\_);clear hr2 a3;go_wp2_with fail
   rw[HO.out];refine⟨⟨i+1,2*m+x.toNat,by omega,by go_num,rfl,hm2,b7.out⟩,?_⟩;simp[intOf];omega
  ·obtain rfl:i=k:=by omega
   have HE:Hid _:=HI.out.1;go_wp2;go_ret;exact⟨by rw[<-HE.out];rfl,HI.out.2⟩
theorem J5(b:Nat)(t:List Bool)(w:World)(h:Rd b t 0 w)(ht:t.length<=100000000):
 Calls Tryz.prog 57 #[.pointer (some ⟨b,0,none⟩)] w fun e w'=>e = .returned (.agg #[.int .i64 (numOf (sub t 0 14):Int),.int .i64 (numOf (sub t 14 5):Int),.int .i64 (numOf (sub t 19 15):Int)])/\Rd b t (mv t 0 34) w'/\w.grownBy w' (some b):=by
 have hb:b<w.heap.size:=(aC2.1 h).1;have hg0:=aF9 w (.cells #[.int .i64 0,.int .i64 0,.int .i64 0] 23) (some b);have hr0:=sS h (aF9 w (.cells #[.int .i64 0,.int .i64 0,.int .i64 0] 23) none) (by simp);have HG0:Hid _:=hg0;have H1:Hid (Calls Tryz.prog 99 _ _ _):=lZ b t 0 14 _ hr0 ht (aC6 _) (by decide);clear h hg0 hr0;go_enter Tryz.func57,Tryz.ntmps57
 go_wp2_with fail
 refine(aC0 H1.out ?_);rintro e w1 ⟨rfl,hr1,hg1⟩;have HG1:Hid _:=HG0.out.trans hg1;have H2:Hid (Calls Tryz.prog 99 _ _ _):=(by
  have h:=lZ b t (mv t 0 14) 5 w1 hr1 ht (by unfold mv;omega) (by decide);rw[O9,G8]at h;exact h:Calls Tryz.prog 99 _ _ _)
 have hS1:w1.heap[w.heap.size]?=some (.cells #[.int .i64 0,.int .i64 0,.int .i64 0] 23 (0,0)):=by
  rw[hg1.block _ (by simp) (by simp;omega)];exact heap_alloc_new _ _
 have cG:=hg1.size;clear H1 hr1 hg1;go_wp2_with fail
 refine(aC0 H2.out ?_);rintro e w2 ⟨rfl,hr2,a3⟩;have HG2:Hid _:=HG1.out.trans a3;have H3:Hid (Calls Tryz.prog 99 _ _ _):=(by
  have h:=lZ b t (mv t 0 (14+5)) 15 w2 hr2 ht (by unfold mv;omega) (by decide);rw[O9,G8]at h;exact h:Calls Tryz.prog 99 _ _ _)
 have hS2:w2.heap[w.heap.size]?=some (.cells #[.int .i64 0,.int .i64 0,.int .i64 0] 23 (0,0)):=by
  rw[a3.block _ (by simp at cG;omega) (by simp;omega)];exact hS1
 have hs2:=a3.size;clear H2 hr2 a3 hS1;go_wp2_with fail
 refine(aC0 H3.out ?_);rintro e w3 ⟨rfl,hr3,hg3⟩;have c7:Hid _:=HG2.out.trans hg3;have aL:w3.heap[w.heap.size]?=some (.cells #[.int .i64 0,.int .i64 0,.int .i64 0] 23 (0,0)):=by
  rw[hg3.block _ (by simp at cG;omega) (by simp;omega)];exact hS2
 have HR3:Hid _:=hr3;have k0:w3.cell? ⟨w.heap.size,0,none⟩=some (.int .i64 0):=by rw[cell_of_row w3 _ 0 _ _ _ aL];rfl
 have k1:w3.cell? ⟨w.heap.size,1,none⟩=some (.int .i64 0):=by rw[cell_of_row w3 _ 1 _ _ _ aL];rfl
 have k2:w3.cell? ⟨w.heap.size,2,none⟩=some (.int .i64 0):=by rw[cell_of_row w3 _ 2 _ _ _ aL];rfl
 have f0:=frozen_of_row w3 _ 0 _ _ aL;have f1:=frozen_of_row w3 _ 1 _ _ aL;have f2:=frozen_of_row w3 _ 2 _ _ aL;have hs3:=hg3.size;clear H3 hr3 hg3 hS2 aL;go_wp2;refine bodyPost_ret (v:=.agg #[.int .i64 (numOf (sub t 0 14):Int),.int .i64 (numOf (sub t 14 5):Int),.int .i64 (numOf (sub t 19 15):Int)]) (by simp[results,Tryz.results57,go_sem, *]) rfl ?_;refine⟨rfl,?_,?_⟩
 ·unfold Rd;rw[heap_setCell_other _ _ _ _ (by show b≠w.heap.size;omega),heap_setCell_other _ _ _ _ (by show b≠w.heap.size;omega),heap_setCell_other _ _ _ _ (by show b≠w.heap.size;omega)];exact HR3.out
 ·exact⟨c7.out.os,c7.out.tape,c7.out.output,by simp at cG ⊢;omega,fun k hk b5=>by
   rw[heap_setCell_other _ _ _ _ (by show k≠w.heap.size;omega),heap_setCell_other _ _ _ _ (by show k≠w.heap.size;omega),heap_setCell_other _ _ _ _ (by show k≠w.heap.size;omega)];exact c7.out.block k hk b5⟩
end Go.Proofs.YtphjbbbnbmafnaaGreatDoor.G
namespace Go.Proofs.YtphjbbbnbmafnaaGreatDoor.G
open Go.RowKit
variable {l:List E3} {E a b cap g j k m n s:Nat} {e:E3} {w w2 wr:World} {t:List Bool} {v:Value}
def rdf(t:List Bool)(a:Nat):Nat->List Nat×Nat
 | 0=>([],0)
 | k+1=>if t.getD (a+k) false then ((rdf t a k).1++[(rdf t a k).2],(rdf t a k).2)else ((rdf t a k).1,(rdf t a k).2+1)
theorem NS(t:List Bool)(a k:Nat):(rdf t a k).1.length+(rdf t a k).2=k:=by
 induction k with
 | zero=>rfl
 | succ k ih=>unfold rdf;split <;> simp <;> omega
def lst(fs:List Nat)(lb tb:Nat->Nat)(i j:Nat):List E3:=(List.range fs.length).map fun x=>(((fs.getD x 0:Nat):Int),(((if x<i then lb x else 0:Nat)):Int),((if x<j then tb x else 0:Nat):Int))
theorem bF(fs:List Nat)(lb tb:Nat->Nat)(i j:Nat):(lst fs lb tb i j).length=fs.length:=by simp[lst]
theorem kD(fs:List Nat)(lb tb:Nat->Nat)(i j x:Nat)(h:x<fs.length):(lst fs lb tb i j)[x]?=some (((fs.getD x 0:Nat):Int),(((if x<i then lb x else 0:Nat)):Int),((if x<j then tb x else 0:Nat):Int)):=by
 unfold lst;rw[aD0,aI7 h];rfl
theorem R3(fs:List Nat)(lb tb:Nat->Nat)(u:Nat):lst (fs++[u]) lb tb 0 0=lst fs lb tb 0 0++[((u:Int),0,0)]:=by
 unfold lst;rw[WT,aF6,List.range_succ,aJ3];congr 1
 ·refine aF2 (fun x hx => ?_);have hx':x<fs.length:=by simpa using hx
  have e:(fs++[u]).getD x 0=fs.getD x 0:=by
   simp only[aC1];rw[aD4 hx']
  rw[e]
 ·simp
theorem rU{α:Type}(l:List α)(i:Nat)(v:α)(h:l[i]?=some v):l.set i v=l:=by
 apply aG6;intro j;rw[List.getElem?_set];split
 ·rename_i e;subst e;have:=(aC4.1 h).1;rw[if_pos this,h]
 ·rfl
theorem S9(h:l[k]?=some e)(y:Int):(flat l).set (k*3+1) (.int .i64 y)=flat (l.set k (e.1,y,e.2.2)):=by
 obtain⟨h0,_,h2⟩:=iQ h;rw[rT l k _ (bN h),rU _ _ _ h0];rw[List.set_comm _ _ (by omega),rU _ _ _ h2]
theorem YN(h:l[k]?=some e)(y:Int):(flat l).set (k*3+2) (.int .i64 y)=flat (l.set k (e.1,e.2.1,y)):=by
 obtain⟨h0,h1,_⟩:=iQ h;rw[rT l k _ (bN h),rU _ _ _ h0,rU _ _ _ h1]
theorem PG(fs:List Nat)(lb tb:Nat->Nat)(i j:Nat)(h:i<fs.length):(flat (lst fs lb tb i j)).set (i*3+1) (.int .i64 (lb i:Int))=flat (lst fs lb tb (i+1) j):=by
 rw[S9 (kD fs lb tb i j i h)];congr 1;apply aG6;intro x;rw[List.getElem?_set,bF];by_cases hx:x<fs.length
 ·rw[kD _ _ _ _ _ x hx,kD _ _ _ _ _ x hx];by_cases e:i=x
  ·subst e;simp[h]
  ·have e2:(x<i+1)=(x<i):=by apply propext;omega
   simp only[if_neg e,e2]
 ·have e:¬ i=x:=by omega
  rw[if_neg e,aC7 (by rw[bF];omega),aC7 (by rw[bF];omega)]
theorem WF(fs:List Nat)(lb tb:Nat->Nat)(i j:Nat)(h:j<fs.length):(flat (lst fs lb tb i j)).set (j*3+2) (.int .i64 (tb j:Int))=flat (lst fs lb tb i (j+1)):=by
 rw[YN (kD fs lb tb i j j h)];congr 1;apply aG6;intro x;rw[List.getElem?_set,bF];by_cases hx:x<fs.length
 ·rw[kD _ _ _ _ _ x hx,kD _ _ _ _ _ x hx];by_cases e:j=x
  ·subst e;simp[h]
  ·have e2:(x<j+1)=(x<j):=by apply propext;omega
   simp only[if_neg e,e2]
 ·have e:¬ j=x:=by omega
  rw[if_neg e,aC7 (by rw[bF];omega),aC7 (by rw[bF];omega)]
def St(w:World)(b:Nat)(t:List Bool)(n s E:Nat)(v:Value)(l:List E3)(a:Nat)(wr:World):Prop :=
 wr.ownsRow (w.heap.size+1) 38 3 v l.length (flat l)/\Rd b t a wr/\wr.heap[w.heap.size]?=some (.cells #[.int .i64 (n:Int),.int .i64 (s:Int),.int .i64 (E:Int)] 23 (0,0))/\w.grownBy wr (some b)
theorem St.read{a':Nat}(h:St w b t n s E v l a wr)(hb:b<w.heap.size)(hr:Rd b t a' w2)(hg:wr.grownBy w2 (some b)):St w b t n s E v l a' w2:=by
 refine⟨h.1.kept hg ?_,hr,?_,h.2.2.2.trans hg⟩
 ·cases e:v.ownBlock with
  | none=>exact .inl rfl
  | some k=>exact .inr (by have:=(h.1.lt k e).1;intro e2;cases e2;omega)
 ·rw[hg.block _ ((aC2.1 h.2.2.1).1) (by simp;omega)];exact h.2.2.1
theorem St.box(h:St w b t n s E v l a wr):wr.cell? ⟨w.heap.size,0,none⟩=some (.int .i64 (n:Int))/\wr.cell? ⟨w.heap.size,1,none⟩=some (.int .i64 (s:Int))/\wr.cell? ⟨w.heap.size,2,none⟩=some (.int .i64 (E:Int)) :=
 ⟨by rw[cell_of_row wr _ 0 _ _ _ h.2.2.1];rfl,by rw[cell_of_row wr _ 1 _ _ _ h.2.2.1];rfl,by rw[cell_of_row wr _ 2 _ _ _ h.2.2.1];rfl⟩
theorem St.app{v':Value}{o:Obj}(h:St w b t n s E v l a wr)(hb:b<w.heap.size)(hown:w2.ownsRow (w.heap.size+1) 38 3 v' (l.length+1) (flat l++[.int .i64 e.1,.int .i64 e.2.1,.int .i64 e.2.2]))(hg:(wr.alloc o).grownBy w2 v.ownBlock):St w b t n s E v' (l++[e]) a w2:=by
 have b5:∀ k,k<=w.heap.size->some k≠v.ownBlock:=fun k hk e=>by
  have:=(h.1.lt k e.symm).1;omega
 have a3:=aF9 wr o none;have hx:w.heap.size<wr.heap.size:=(aC2.1 h.2.2.1).1;refine⟨by rw[kL,WT];exact hown,sS (sS h.2.1 a3 (by simp)) hg (b5 b (by omega)),?_,?_⟩
 ·rw[hg.block _ (by simp;omega) (b5 _ (V7 _)),a3.block _ hx (by simp)];exact h.2.2.1
 ·have hw:=h.2.2.2;refine⟨hg.os.trans (a3.os.trans hw.os),hg.tape.trans (a3.tape.trans hw.tape),hg.output.trans (a3.output.trans hw.output),aD9 hw.size (aD9 a3.size hg.size),fun k hk hne2 => ?_⟩;rw[hg.block k (by have:=hw.size;simp;omega) (b5 k (by omega)),a3.block k (by have:=hw.size;omega) (by simp)];exact hw.block k hk hne2
theorem St.put{l':List E3}{u:Value}(h:St w b t n s E (.slice (some ⟨g,0,none⟩) m cap) l a wr)(hb:b<w.heap.size)(hf:(flat l).set j u=flat l')(hm:l.length=m)(hl:l'.length=m):St w b t n s E (.slice (some ⟨g,0,none⟩) m cap) l' a (wr.setCell ⟨g,j,none⟩ u):=by
 subst hm;have h2:=h.1.stored j u;have hgk:=(h.1.lt g rfl).1;refine⟨by rw[hl,<-hf];exact h2.1,?_,?_,?_⟩
 ·unfold Rd;rw[heap_setCell_other _ _ _ _ (by show b≠g;omega)];exact h.2.1
 ·rw[heap_setCell_other _ _ _ _ (by show w.heap.size≠g;omega)];exact h.2.2.1
 ·have hw:=h.2.2.2;refine⟨hw.os,hw.tape,hw.output,by simp;exact hw.size,fun k hk hne2 => ?_⟩;rw[heap_setCell_other _ _ _ _ (by show k≠g;omega)];exact hw.block k hk hne2
theorem St.cellAt(h:St w b t n s E (.slice (some ⟨g,0,none⟩) m cap) l a wr)(hm:l.length=m)(hj:l[j]?=some e):
 (wr.cell? ⟨g,j*3+1,none⟩=some (.int .i64 e.2.1)/\wr.frozen? ⟨g,j*3+1,none⟩=false)/\wr.cell? ⟨g,j*3+2,none⟩=some (.int .i64 e.2.2)/\wr.frozen? ⟨g,j*3+2,none⟩=false:=by
 subst hm;have hl:=bN hj;obtain⟨_,h1,h2⟩:=iQ hj;exact⟨⟨by rw[h.1.cellAt _ (by omega)];exact h1,h.1.frozenAt _⟩,by rw[h.1.cellAt _ (by omega)];exact h2,h.1.frozenAt _⟩
theorem St.some{a0:Option Addr}(h:St w b t n s E (.slice a0 m cap) l a wr)(hm:l.length=m)(h0:0<m):∃ g,a0=some ⟨g,0,none⟩:=by
 rcases h.1.2 with ⟨h',h2⟩ | ⟨g',b9,cur,h',_⟩
 ·cases h';omega
 ·cases h';exact⟨g',rfl⟩
end Go.Proofs.YtphjbbbnbmafnaaGreatDoor.G
namespace Go.Proofs.YtphjbbbnbmafnaaGreatDoor.G
open Go.RowKit
def Stop(t:List Bool)(a n E K:Nat):Prop:=(∀ k<K,(rdf t a k).2<n/\(rdf t a k).1.length<=E)/\¬((rdf t a K).2<n/\(rdf t a K).1.length<=E)
def edg(t:List Bool)(a n s K:Nat):List E3 :=
 lst (rdf t a K).1 (fun i=>numOf (sub t (a+K+i*wid (s-1)) (wid (s-1)))) (fun i=>numOf (sub t (a+K+(rdf t a K).1.length*wid (s-1)+i*wid (n-1)) (wid (n-1)))) (rdf t a K).1.length (rdf t a K).1.length
theorem GM(b:Nat)(t:List Bool)(a n s E:Nat)(w:World)(h:Rd b t (mv t 0 a) w)(ht:t.length<=100000000)(hn:1<=n/\n<=10000)(hs:1<=s/\s<=26)(hE:E<=20000):
 Calls Tryz.prog 58 #[.pointer (some ⟨b,0,none⟩),.agg #[.int .i64 (n:Int),.int .i64 (s:Int),.int .i64 (E:Int)]] w fun e w'=>∃ K v a',Stop t a n E K/\e = .returned v/\w'.ownsRow (w.heap.size+1) 38 3 v (edg t a n s K).length (flat (edg t a n s K))/\Rd b t a' w'/\w.grownBy w' (some b):=by
 have hb:b<w.heap.size:=(aC2.1 h).1;obtain⟨i0,hi,a5⟩:=Option.map_eq_some_iff.1 Tryz.infoE;have hz0:i0.zero=some (.agg #[.int .i64 0,.int .i64 0,.int .i64 0]):=congrArg (fun x=>x.1) a5;have hz1:i0.size=3:=congrArg (fun x=>x.2.1) a5;have hz2:i0.bytes=24:=congrArg (fun x=>x.2.2) a5;clear a5;have H0:Hid (St w b t n s E (.slice none 0 0) (lst [] (fun _=>0) (fun _=>0) 0 0) (mv t 0 (a+0)) (w.alloc (.cells #[.int .i64 (n:Int),.int .i64 (s:Int),.int .i64 (E:Int)] 23))):=(by
  exact⟨aG2 _ _ _ _,sS h (aF9 w _ none) (by simp),heap_alloc_new _ _,aF9 w _ _⟩:St _ _ _ _ _ _ _ _ _ _)
 clear h;go_enter Tryz.func58,Tryz.ntmps58
 go_wp2;go_loopw [5,6] (fun sv su wr=>∃(k:Nat) (fs:List Nat) (u:Nat),u<=n/\fs.length<=E+1/\su = .int .i64 (u:Int)/\(∃ a0 cap,sv = .slice a0 fs.length cap)/\Hid (rdf t a k=(fs,u)/\St w b t n s E sv (lst fs (fun _=>0) (fun _=>0) 0 0) (mv t 0 (a+k)) wr/\∀ j<k,(rdf t a j).2<n/\(rdf t a j).1.length<=E)) (fun sv su _=>(n-(intOf su).toNat)+(E+1-lenV sv))
 case atStart=>exact⟨0,[],0,aC6 _,aC6 _,rfl,⟨none,0,rfl⟩,rfl,H0.out,fun j hj=>by omega⟩
 case round =>
  obtain⟨k,fs,u,hk1,hk2,rfl,⟨a0,cap,rfl⟩,HI⟩:=hrel;obtain⟨c0,c1,c2⟩:=HI.out.2.1.box;by_cases hgo:u<n/\fs.length<=E
  ·obtain⟨a6,hle⟩:=hgo;have hC:=CY b t (mv t 0 (a+k)) wr HI.out.2.1.2.1 ht (by unfold mv;omega);rw[aB1,yP,aG1]at hC;have HC:Hid (Calls Tryz.prog 100 _ wr _):=hC;clear hC;have HJ:Hid (∀ j<k+1,(rdf t a j).2<n/\(rdf t a j).1.length<=E):=(by
    intro j hj;rcases Nat.lt_succ_iff_lt_or_eq.1 hj with h | h
    ·exact HI.out.2.2 j h
    ·rw[h,HI.out.1];exact⟨a6,hle⟩:∀ j<k+1,_)
   cases hbit:t.getD (a+k) false
   ·have HF:Hid (rdf t a (k+1)=(fs,u+1)):=(by show(if t.getD (a+k) false then _ else _)=_;rw[hbit,HI.out.1];rfl:_=_);rw[hbit]at HC;clear hbit;go_wp2_with fail
    refine(aC0 HC.out ?_);rintro e w2 ⟨rfl,hr2,a3⟩;have b7:Hid (rdf t a (k+1)=(fs,u+1)/\St w b t n s E (.slice a0 fs.length cap) (lst fs (fun _=>0) (fun _=>0) 0 0) (mv t 0 (a+(k+1))) w2/\∀ j<k+1,(rdf t a j).2<n/\(rdf t a j).1.length<=E):=(⟨HF.out,HI.out.2.1.read hb hr2 a3,HJ.out⟩:_/\_);clear hr2 a3;go_wp2;go_roundw;case rel=>exact⟨k+1,fs,u+1,by omega,by omega,by go_num,⟨a0,cap,rfl⟩,b7.out⟩
    case measure=>simp[intOf,lenV];omega
   ·have HF:Hid (rdf t a (k+1)=(fs++[u],u)):=(by show(if t.getD (a+k) false then _ else _)=_;rw[hbit,HI.out.1];rfl:_=_);rw[hbit]at HC;clear hbit;go_wp2_with fail
    refine(aC0 HC.out ?_);rintro e w2 ⟨rfl,hr2,a3⟩;have a7:Hid (St w b t n s E (.slice a0 fs.length cap) (lst fs (fun _=>0) (fun _=>0) 0 0) (mv t 0 (a+(k+1))) w2):=HI.out.2.1.read hb hr2 a3;clear hr2 a3;have a4:=a7.out.1;have aG:w.heap.size<w2.heap.size:=(aC2.1 a7.out.2.2.1).1;have hln:=bF fs (fun _=>0) (fun _=>0) 0 0;go_wp2_with (at_builtin;refine wpList_append_own _ rfl _ _ 24 rfl (w.heap.size+1) 38 i0 (.agg #[.int .i64 0,.int .i64 0,.int .i64 0]) 3 24 Tryz.underlying24 hi hz0 hz1 hz2 rfl (by decide) _ _ _ rfl (a4.alloc _) ⟨w2.heap.size,0,none⟩ 1 1 [.int .i64 (u:Int),.int .i64 0,.int .i64 0] rfl rfl (SK _ _ _ _ _) (ED _ _ _) (by unfold maxLen;omega) (by omega) (by simp;omega) ?_;intro v' w3 hown hgrow hnil)
    have HO2:Hid _:=a7.out.app (e:=((u:Int),0,0)) hb hown hgrow;rw[hln]at hown;obtain⟨g',b9,rfl⟩:=ownsRow_succ hown;clear hown hgrow hnil a4;refine⟨⟨k+1,fs++[u],u,by omega,by simp;omega,rfl,⟨_,b9,by rw[WT];rfl⟩,HF.out,by rw[R3];exact HO2.out,HJ.out⟩,?_⟩;simp[lenV];omega
  ·have b8:Hid (Stop t a n E k):=(⟨HI.out.2.2,by rw[HI.out.1];exact hgo⟩:Stop t a n E k);have hw1:=mF (s-1) (by omega);have hw2:=mF (n-1) (by omega);have HF:Hid _:=HI.out.1;have HW1:∀ W,Hid (Calls Tryz.prog 91 _ W _):=fun W=>mZ s hs.1 (by omega) W;have HW2:∀ W,Hid (Calls Tryz.prog 91 _ W _):=fun W=>mZ n hn.1 (by omega) W;obtain⟨lb,cF⟩:∃ lb:Nat->Nat,lb=fun i=>numOf (sub t (a+k+i*wid (s-1)) (wid (s-1))):=⟨_,rfl⟩;obtain⟨tb,cH⟩:∃ tb:Nat->Nat,tb=fun i=>numOf (sub t (a+k+fs.length*wid (s-1)+i*wid (n-1)) (wid (n-1))):=⟨_,rfl⟩;have cC:Hid (edg t a n s k=lst fs lb tb fs.length fs.length):=(by unfold edg;rw[HF.out,cF,cH]:_=_);have HLB:Hid _:=cF;have HTB:Hid _:=cH;clear cF cH;have HS0:Hid (St w b t n s E (.slice a0 fs.length cap) (lst fs lb tb 0 0) (mv t 0 (a+k+0*wid (s-1))) wr):=(by
    have h:=HI.out.2.1;rw[show a+k+0*wid (s-1)=a+k by omega];exact h:St _ _ _ _ _ _ _ _ _ _)
   clear HI;rcases aG5 u n with hun | hun;case' inl=>have hle:¬ fs.length<=E:=fun h=>hgo ⟨hun,h⟩
   case' inr=>have hun2:¬(u:Int)<(n:Int):=by omega
   all_goals
    clear hgo;go_wp2;go_loopw [32] (fun si wr=>∃ i:Nat,i<=fs.length/\si = .int .i64 (i:Int)/\Hid (St w b t n s E (.slice a0 fs.length cap) (lst fs lb tb i 0) (mv t 0 (a+k+i*wid (s-1))) wr)) (fun si _=>fs.length-(intOf si).toNat)
    case atStart=>exact⟨0,aC6 _,rfl,HS0.out⟩
    case round =>
     obtain⟨i,hi2,rfl,HI⟩:=hrel;by_cases hlt2:i<fs.length
     ·obtain⟨g,rfl⟩:=HI.out.some (bF _ _ _ _ _) (by omega);have d1:=HI.out.box.2.1;clear c0 c1 c2;have hC:=lZ b t (mv t 0 (a+k+i*wid (s-1))) (wid (s-1)) wr HI.out.2.1 ht (by unfold mv;omega) (by omega);rw[O9,G8,aG1,show a+k+i*wid (s-1)+wid (s-1)=a+k+(i+1)*wid (s-1) by rw[Nat.add_mul];omega]at hC;have HV:Hid (numOf (sub t (a+k+i*wid (s-1)) (wid (s-1)))=lb i):=(by rw[HLB.out]:_=_);rw[HV.out]at hC;have HC:Hid (Calls Tryz.prog 99 _ wr _):=hC;clear hC;go_wp2_with fail
      refine(aC0 (HW1 _).out ?_);rintro e w1 ⟨rfl,hw1e⟩;rw[hw1e];clear hw1e w1;go_wp2_with fail
      refine(aC0 HC.out ?_);rintro e w2 ⟨rfl,hr2,a3⟩;have a7:Hid (St w b t n s E (.slice (some ⟨g,0,none⟩) fs.length cap) (lst fs lb tb i 0) (mv t 0 (a+k+(i+1)*wid (s-1))) w2):=HI.out.read hb hr2 a3;clear hr2 a3;have hcl:=(a7.out.cellAt (bF _ _ _ _ _) (kD fs lb tb i 0 i hlt2)).1.1;have hfr:=(a7.out.cellAt (bF _ _ _ _ _) (kD fs lb tb i 0 i hlt2)).1.2;have cE:Hid (St w b t n s E (.slice (some ⟨g,0,none⟩) fs.length cap) (lst fs lb tb (i+1) 0) (mv t 0 (a+k+(i+1)*wid (s-1))) (w2.setCell ⟨g,i*3+1,none⟩ (.int .i64 (lb i:Int)))):=a7.out.put hb (PG fs lb tb i 0 hlt2) (bF _ _ _ _ _) (bF _ _ _ _ _);go_wp2;go_roundw;case rel=>exact⟨i+1,by omega,by go_num,cE.out⟩
      case measure=>simp[intOf];omega
     ·obtain rfl:i=fs.length:=by omega
      have HS1:Hid (St w b t n s E (.slice a0 fs.length cap) (lst fs lb tb fs.length 0) (mv t 0 (a+k+fs.length*wid (s-1)+0*wid (n-1))) wr):=(by
       have h:=HI.out;rw[show a+k+fs.length*wid (s-1)+0*wid (n-1)=a+k+fs.length*wid (s-1) by omega];exact h:St _ _ _ _ _ _ _ _ _ _)
      clear HI c0 c1 c2;go_wp2;go_loopw [47] (fun si wr=>∃ i:Nat,i<=fs.length/\si = .int .i64 (i:Int)/\Hid (St w b t n s E (.slice a0 fs.length cap) (lst fs lb tb fs.length i) (mv t 0 (a+k+fs.length*wid (s-1)+i*wid (n-1))) wr)) (fun si _=>fs.length-(intOf si).toNat)
      case atStart=>exact⟨0,aC6 _,rfl,HS1.out⟩
      case round =>
       obtain⟨i,hi3,rfl,HI⟩:=hrel;by_cases hlt3:i<fs.length
       ·obtain⟨g,rfl⟩:=HI.out.some (bF _ _ _ _ _) (by omega);have d0:=HI.out.box.1;have hC:=lZ b t (mv t 0 (a+k+fs.length*wid (s-1)+i*wid (n-1))) (wid (n-1)) wr HI.out.2.1 ht (by unfold mv;omega) (by omega);rw[O9,G8,aG1,show a+k+fs.length*wid (s-1)+i*wid (n-1)+wid (n-1)=a+k+fs.length*wid (s-1)+(i+1)*wid (n-1) by rw[Nat.add_mul i];omega]at hC;have HV:Hid (numOf (sub t (a+k+fs.length*wid (s-1)+i*wid (n-1)) (wid (n-1)))=tb i):=(by rw[HTB.out]:_=_);rw[HV.out]at hC;have HC:Hid (Calls Tryz.prog 99 _ wr _):=hC;clear hC;go_wp2_with fail
        refine(aC0 (HW2 _).out ?_);rintro e w1 ⟨rfl,hw1e⟩;rw[hw1e];clear hw1e w1;go_wp2_with fail
        refine(aC0 HC.out ?_);rintro e w2 ⟨rfl,hr2,a3⟩;have a7:Hid (St w b t n s E (.slice (some ⟨g,0,none⟩) fs.length cap) (lst fs lb tb fs.length i) (mv t 0 (a+k+fs.length*wid (s-1)+(i+1)*wid (n-1))) w2):=HI.out.read hb hr2 a3;clear hr2 a3;have hcl:=(a7.out.cellAt (bF _ _ _ _ _) (kD fs lb tb fs.length i i hlt3)).2.1;have hfr:=(a7.out.cellAt (bF _ _ _ _ _) (kD fs lb tb fs.length i i hlt3)).2.2;have cE:Hid (St w b t n s E (.slice (some ⟨g,0,none⟩) fs.length cap) (lst fs lb tb fs.length (i+1)) (mv t 0 (a+k+fs.length*wid (s-1)+(i+1)*wid (n-1))) (w2.setCell ⟨g,i*3+2,none⟩ (.int .i64 (tb i:Int)))):=a7.out.put hb (WF fs lb tb fs.length i hlt3) (bF _ _ _ _ _) (bF _ _ _ _ _);go_wp2;go_roundw;case rel=>exact⟨i+1,by omega,by go_num,cE.out⟩
        case measure=>simp[intOf];omega
       ·obtain rfl:i=fs.length:=by omega
        go_wp2;go_ret;exact⟨k,_,_,b8.out,rfl,by rw[cC.out];exact HI.out.1,HI.out.2.1,HI.out.2.2.2⟩
end Go.Proofs.YtphjbbbnbmafnaaGreatDoor.G
