/- Parts: PWrite PText. -/
import Derived.Test.YtphjbbbnbmafnaaGreatDoorOwnM
import Derived.Test.YtphjbbbnbmafnaaGreatDoorBld
import Derived.Test.YtphjbbbnbmafnaaGreatDoorExt
set_option maxHeartbeats 4000000
set_option maxRecDepth 100000
namespace Go.Proofs.YtphjbbbnbmafnaaGreatDoor.G
open Go.RowKit
variable {w w':World} {B b:Nat} {bs:List Value}
def VI(l:List Bool)(a n:Nat):List Bool:=(l.drop a).take n
theorem tY(l:List Bool)(a b:Nat):(txt l).extract a b=txt ((l.drop a).take (b-a)):=by
 apply ByteArray.ext;simp[txt,ByteArray.data_extract]
theorem OL(l:List Bool)(a n k:Nat)(hk:k<n):(VI l a n).getD k false=l.getD (a+k) false:=by
 unfold VI;simp only[aC1,List.getElem?_take,List.getElem?_drop,if_pos hk]
theorem U3(l:List Bool)(p:Nat):dE (VI l (2016*p) 2016) 0 252=dE l p 252:=by
 unfold dE;refine aF2 (fun k hk => ?_);have hk':k<252:=by simpa using hk
 congr 1;unfold sub;refine aF2 (fun j hj => ?_);have hj':j<8:=by simpa using hj
 rw[OL _ _ _ _ (by omega)];congr 1;omega
theorem VO(l:List Bool)(a n:Nat):(VI l a n).length<=n:=by unfold VI;simp;omega
theorem M4(l:List Nat)(h:∀ x∈l,x<256):valsB l=Lib.byteCells (l.map UInt8.ofNat):=by
 unfold valsB Lib.byteCells;rw[List.map_map];refine aF2 (fun x hx => ?_);have:=h x hx;simp only[Function.comp];congr 1;have:(UInt8.ofNat x).toNat=x:=by simp;omega
 rw[this]
theorem wY{e:TypeId}{v:Value}{n:Nat}{xs:List Value}(h:w.ownsRowF B e 1 v n xs)(hB:Below w.heap.size w w'):w'.ownsRowF B e 1 v n xs:=by
 refine⟨h.1,?_⟩;rcases h.2 with h0 | ⟨g,cap,cur,fz,hv,hb,hg,r⟩
 ·exact .inl h0
 ·refine .inr ⟨g,cap,cur,fz,hv,hb,?_,r⟩;rw[hB.block g (LV hg)];exact hg
theorem nD(h:Bu B b bs w)(hB:Below w.heap.size w w'):Bu B b bs w':=by
 rcases h with ⟨h1,v,h2,h3,h4⟩ | ⟨h1,v,h2,h3,h4⟩
 ·exact .inl ⟨h1,v,by rw[hB.block _ (LV h2)];exact h2,wY h3 hB,h4⟩
 ·exact .inr ⟨h1,v,by rw[hB.block _ (LV h2)];exact h2,wY h3 hB,h4⟩
theorem JO(h:Bu B b bs w):b<w.heap.size:=by
 rcases h with h | h <;> exact h.lt
theorem XO(l:List Bool)(n:Nat):((txt l).extract (n*2016) l.length).extract 0 (min (2016:Int) ((l.length-n*2016:Nat):Int)).toNat=txt (VI l (2016*n) 2016):=by
 rw[tY,tY];congr 1;unfold VI;rw[List.drop_zero,Nat.mul_comm n 2016,List.take_take];have e:(min (2016:Int) ((l.length-2016*n:Nat):Int)).toNat=min 2016 (l.length-2016*n):=by omega
 rw[e,Nat.sub_zero];rcases Nat.le_total (l.length-2016*n) 2016 with h | h
 ·rw[aD2 (by simp;omega),aD2 (by simp;omega)]
 ·congr 1;omega
theorem MP(l:List Bool)(hl:l.length<=2016000)(w:World):
 Calls Tryz.prog 50 #[.string (txt l)] w fun e w'=>e = .returned (.string (image l))/\Below w.heap.size w w':=by
 have hts:=bE l;have hnp:bK l.length=(l.length+2015) / 2016:=rfl;go_enter Tryz.func50,Tryz.ntmps50
 go_wp2;go_loopw [4] (fun si wr=>∃ n:Nat,n<=bK l.length/\si = .int .i64 (n:Int)/\Hid (Bu w.heap.size w.heap.size (valsB (eQ l n)) wr/\Below w.heap.size w wr)) (fun si _=>bK l.length-(intOf si).toNat)
 case atStart=>exact⟨0,aC6 _,rfl,Lib.IsBuilderF.of (Lib.fresh_isBuilder 171 5 w),aA _ _⟩
 case round =>
  obtain⟨n,hn,rfl,HI⟩:=hrel;by_cases hlt:n<bK l.length
  ·have h1:2016*n<l.length:=by omega
   have hpl:=gK l n;have HPk:∀ W,Hid (Calls Tryz.prog 85 #[.string (txt (VI l (2016*n) 2016))] W fun e w'=>e = .returned (.agg (valsB (dE l n 252)).toArray)/\Below W.heap.size W w'):=fun W=>(by
    have h:=MS (VI l (2016*n) 2016) (VO _ _ _) W;rw[U3]at h;exact h:Calls Tryz.prog 85 _ W _)
   have HSe:∀ W,Hid (Calls Tryz.prog 84 _ W _):=fun W=>xH n (dE l n 252) (by omega) (bR _ _ _) (fun x hx=>sI _ _ _ _ hx) W;have HC:Hid _:=XO l n;go_wp2_with fail
   rw[HC.out];refine(aC0 (HPk wr).out ?_);rintro e w1 ⟨rfl,hB1⟩;have H1:Hid _:=hB1;clear hB1;go_wp2_with fail
   refine(aC0 (HSe w1).out ?_);rintro e w2 ⟨rfl,hB2⟩;have hBr:Below wr.heap.size wr w2:=chain H1.out hB2;have HBr:Hid _:=hBr;have b8:whole l n=dE l n 252++Crc.be4 (Crc.sumOf n (dE l n 252)):=rfl;rw[<-b8];have HSu:Hid _:=kV l n;have b9:(valsB (whole l n)).length=256:=by rw[b8];simp[valsB,bR,Crc.be4]
   generalize whole l n=wh at HSu b9;clear b8 hBr hB2 H1 HPk HSe HC;go_wp2_with fail
   rw[lQ (w2.alloc (.cells Tryz.zeroCells173 173)) w2.heap.size _ (valsB wh) 173 (heap_alloc_new _ _) (by rw[Tryz.zeroCells173_size];exact b9) (iA _),World.setRow_alloc_new];have hbb:=JO HI.out.1;have hbs:=HI.out.2.size;have b0:=HBr.out.size;have b7:Below wr.heap.size wr (w2.alloc (.cells (valsB wh).toArray 173)):=HBr.out.alloc b0 _;have HW:Hid (Calls Tryz.prog 86 _ _ _):=wr_k w.heap.size w.heap.size (valsB (eQ l n)) (valsB wh) w2.heap.size 256 256 (w2.alloc (.cells (valsB wh).toArray 173)) (nD HI.out.1 b7) b9 (by decide) (fun w1 ho j u hu=>by
    have hk:=ho w2.heap.size _ (heap_alloc_new w2 _) (by simp;omega) (by intro c fz e;cases e);rw[addr_add,cell_of_row w1 w2.heap.size (0+j) _ _ _ hk];simpa using hu) (iA _) (by rw[pM,hpl];omega) (by simp;omega)
   have HB3:Hid _:=HI.out.2.trans (b7.mono hbs);clear b7;go_wp2_with fail
   refine(aC0 HW.out ?_);rintro e w3 ⟨rfl,hb3,hl3,ho3⟩;have a3:Hid (Bu w.heap.size w.heap.size (valsB (eQ l (n+1))) w3/\Below w.heap.size w w3):=(by
    rw[HSu.out,fG];exact⟨hb3,HB3.out.trans hl3⟩:_/\_)
   clear hb3 hl3 ho3;go_wp2;go_roundw;case rel=>exact⟨n+1,by omega,by go_num,a3.out⟩
   case measure=>simp[intOf];omega
  ·obtain rfl:n=bK l.length:=by omega
   have h1:¬((bK l.length:Nat):Int)*2016<(l.length:Int):=by omega
   have hv:=M4 (eQ l (bK l.length)) (fun x hx=>vK l _ x hx);have hI:=HI.out.1;rw[hv]at hI;have a9:Hid (Calls Tryz.prog 87 _ wr _):=Tryz.Builder_String_any_k w.heap.size w.heap.size _ wr hI HI.out.2.size;clear hv hI;go_wp2_with fail
   refine(aC0 a9.out ?_);rintro e w3 ⟨rfl,hb3,hl3,ho3⟩;go_wp2;go_ret;exact⟨rfl,HI.out.2.trans hl3⟩
end Go.Proofs.YtphjbbbnbmafnaaGreatDoor.G
namespace Go.Proofs.YtphjbbbnbmafnaaGreatDoor.G
open Go.RowKit
theorem K9(x b:Int)(w:World):
 Calls Tryz.prog 43 #[.int .i64 x,.int .i64 b] w fun e w'=>e = .returned (.bool (decide (0<=x/\x<b)))/\w'=w:=by
 by_cases h1:0<=x
 ·by_cases h2:x<b
  ·have HD:Hid _:=decide_eq_true (show 0<=x/\x<b from⟨h1,h2⟩);rw[HD.out];go_enter Tryz.func43,Tryz.ntmps43
   go_wp2;go_ret;exact⟨rfl,rfl⟩
  ·have HD:Hid _:=decide_eq_false (show ¬(0<=x/\x<b)from fun h=>h2 h.2);rw[HD.out];go_enter Tryz.func43,Tryz.ntmps43
   go_wp2;go_ret;exact⟨rfl,rfl⟩
 ·have HD:Hid _:=decide_eq_false (show ¬(0<=x/\x<b)from fun h=>h1 h.1);rw[HD.out];go_enter Tryz.func43,Tryz.ntmps43
  go_wp2;go_ret;exact⟨rfl,rfl⟩
theorem oM(x b:Int)(q:Bool)(h:decide (0<=x/\x<b)=q)(w:World):Calls Tryz.prog 43 #[.int .i64 x,.int .i64 b] w fun e w'=>e = .returned (.bool q)/\w'=w:=by
 rw[<-h];exact K9 x b w
theorem SF(f l t n s:Int):decide (Gm.edgeOk n s (f,l,t))=(decide (0<=f/\f<n)&&(decide (0<=l/\l<s)&&decide (0<=t/\t<n))):=by
 unfold Gm.edgeOk;rw[<-Bool.decide_and,<-Bool.decide_and];apply decide_eq_decide.2;simp only;constructor
 ·intro h;exact⟨⟨h.1,h.2.1⟩,⟨h.2.2.1,h.2.2.2.1⟩,h.2.2.2.2⟩
 ·intro h;exact⟨h.1.1,h.1.2,h.2.1.1,h.2.1.2,h.2.2⟩
theorem RN(f l t n s m:Int)(w:World):
 Calls Tryz.prog 49 #[.agg #[.int .i64 f,.int .i64 l,.int .i64 t],.agg #[.int .i64 n,.int .i64 s,.int .i64 m]] w fun e w'=>e = .returned (.bool (decide (Gm.edgeOk n s (f,l,t))))/\Below w.heap.size w w':=by
 obtain⟨k0,k1,k2,k3,k4,_⟩:=two3 w (.int .i64 f) (.int .i64 l) (.int .i64 t) (.int .i64 n) (.int .i64 s) (.int .i64 m) 38;rw[SF];cases h1:decide (0<=f/\f<n)
 ·have H1:∀ w,Hid (Calls Tryz.prog 43 _ w _):=oM f n _ h1;clear h1;go_enter Tryz.func49,Tryz.ntmps49
  go_wp2_with fail
  refine(aC0 (H1 _).out ?_);rintro e w1 ⟨rfl,hw⟩;rw[hw];clear hw w1;go_wp2;go_ret;exact⟨rfl,jJ _ _ _⟩
 ·have H1:∀ w,Hid (Calls Tryz.prog 43 _ w _):=oM f n _ h1;clear h1;cases h2:decide (0<=l/\l<s)
  ·have H2:∀ w,Hid (Calls Tryz.prog 43 _ w _):=oM l s _ h2;clear h2;go_enter Tryz.func49,Tryz.ntmps49
   go_wp2_with fail
   refine(aC0 (H1 _).out ?_);rintro e w1 ⟨rfl,hw⟩;rw[hw];clear hw w1;go_wp2_with fail
   refine(aC0 (H2 _).out ?_);rintro e w1 ⟨rfl,hw⟩;rw[hw];clear hw w1;go_wp2;go_ret;exact⟨rfl,jJ _ _ _⟩
  ·have H2:∀ w,Hid (Calls Tryz.prog 43 _ w _):=oM l s _ h2;have H3:∀ w,Hid (Calls Tryz.prog 43 _ w _):=oM t n _ rfl;clear h2;generalize decide (0<=t/\t<n)=q at H3;go_enter Tryz.func49,Tryz.ntmps49
   go_wp2_with fail
   refine(aC0 (H1 _).out ?_);rintro e w1 ⟨rfl,hw⟩;rw[hw];clear hw w1;go_wp2_with fail
   refine(aC0 (H2 _).out ?_);rintro e w1 ⟨rfl,hw⟩;rw[hw];clear hw w1;go_wp2_with fail
   refine(aC0 (H3 _).out ?_);rintro e w1 ⟨rfl,hw⟩;rw[hw];clear hw w1;go_wp2;go_ret;exact⟨by simp,jJ _ _ _⟩
theorem BP(n s:Int)(m:Nat)(w:World):
 Calls Tryz.prog 48 #[.agg #[.int .i64 n,.int .i64 s,.int .i64 (m:Int)]] w fun e w'=>e = .returned (.bool (decide (Gm.sizeOk n s m)))/\Below w.heap.size w w':=by
 by_cases h1:1<=n
 ·by_cases h2:n<=10000
  ·by_cases h3:1<=s
   ·by_cases h4:s<=26
    ·by_cases h5:m<=20000
     ·have HD:Hid _:=decide_eq_true (show Gm.sizeOk n s m from⟨h1,h2,h3,h4,h5⟩);have h5I:(m:Int)<=20000:=by omega
      rw[HD.out];go_enter Tryz.func48,Tryz.ntmps48
      go_wp2;go_ret;exact⟨rfl,aA _ _⟩
     ·have HD:Hid _:=decide_eq_false (show ¬ Gm.sizeOk n s m from fun h=>h5 h.2.2.2.2);have h5I:¬(m:Int)<=20000:=by omega
      rw[HD.out];go_enter Tryz.func48,Tryz.ntmps48
      go_wp2;go_ret;exact⟨rfl,aA _ _⟩
    ·have HD:Hid _:=decide_eq_false (show ¬ Gm.sizeOk n s m from fun h=>h4 h.2.2.2.1);rw[HD.out];go_enter Tryz.func48,Tryz.ntmps48
     go_wp2;go_ret;exact⟨rfl,aA _ _⟩
   ·have HD:Hid _:=decide_eq_false (show ¬ Gm.sizeOk n s m from fun h=>h3 h.2.2.1);rw[HD.out];go_enter Tryz.func48,Tryz.ntmps48
    go_wp2;go_ret;exact⟨rfl,aA _ _⟩
  ·have HD:Hid _:=decide_eq_false (show ¬ Gm.sizeOk n s m from fun h=>h2 h.2.1);rw[HD.out];go_enter Tryz.func48,Tryz.ntmps48
   go_wp2;go_ret;exact⟨rfl,aA _ _⟩
 ·have HD:Hid _:=decide_eq_false (show ¬ Gm.sizeOk n s m from fun h=>h1 h.1);rw[HD.out];go_enter Tryz.func48,Tryz.ntmps48
  go_wp2;go_ret;exact⟨rfl,aA _ _⟩
theorem pV:∀(f n:Nat),n<2 ^ f->Lib.bitLenAux f n=wid n
 | 0,n,h=>by
  have:n=0:=by simpa using h
  subst this;rfl
 | f+1,n,h=>by
  unfold Lib.bitLenAux;by_cases h0:n=0
  ·subst h0;rfl
  ·rw[if_neg h0,pV f (n / 2) (by rw[Nat.pow_succ]at h;omega),IZ n h0];omega
theorem KX(n:Nat)(h:n<18446744073709551616):Lib.bitLen n=wid n:=pV 64 n h
theorem mZ(k:Nat)(h1:1<=k)(h2:k<=100000)(w:World):
 Calls Tryz.prog 91 #[.int .i64 (k:Int)] w fun e w'=>e = .returned (.int .i64 (wid (k-1):Int))/\w'=w:=by
 have HL:Hid (Calls Tryz.prog 128 _ w _):=Tryz.bits_Len ((k-1:Nat):Int) w (by omega) (by omega);have HE:Hid (wid (k-1)=Lib.bitLen (((k-1:Nat):Int)).toNat):=(by rw[aG3,KX _ (by omega)]:_=_);have hk:(k:Int)-1=((k-1:Nat):Int):=by omega
 go_enter Tryz.func91,Tryz.ntmps91
 go_wp2_with fail
 refine(aC0 HL.out ?_);rintro e w1 ⟨rfl,hw⟩;rw[hw,<-HE.out];clear hw w1;go_wp2;go_ret;exact⟨rfl,rfl⟩
def aX(l:List Bool):List Value:=l.map fun b=>Value.int .u8 (if b then 49 else 48)
theorem bU(l:List Bool):(aX l).length=l.length:=by simp[aX]
theorem FE(a b:Nat)(ha:a<9223372036854775808)(hb:b<9223372036854775808):bits .and .i64 (a:Int) (b:Int)=((a &&& b:Nat):Int):=by
 have hx:a &&& b<=a:=Nat.and_le_left;show IntKind.i64.wrap ((BitVec.ofInt 64 (a:Int) &&& BitVec.ofInt 64 (b:Int)).toNat:Int)=_;rw[BitVec.toNat_and];have e1:(BitVec.ofInt 64 (a:Int)).toNat=a:=by simp;omega
 have e2:(BitVec.ofInt 64 (b:Int)).toNat=b:=by simp;omega
 rw[e1,e2,aK6];omega
theorem UV(n a:Nat)(hn:n<1000000):(48+bits BinOp.and IntKind.i64 ((n:Int) / 2 ^ min a 64) 1) % 256=if n.testBit a then 49 else 48:=by
 have e:((n:Int) / 2 ^ min a 64)=((n / 2 ^ min a 64:Nat):Int):=by rw[aK1];congr 1
 have h1:n / 2 ^ min a 64<=n:=Nat.div_le_self _ _;have h2:=FE (n / 2 ^ min a 64) 1 (by omega) (by decide);have h3:n / 2 ^ min a 64 % 2=(n.testBit a).toNat:=by
  rcases Nat.le_total a 64 with h | h
  ·rw[aI0 h,rW]
  ·rw[Nat.min_eq_right h,rW,Nat.testBit_lt_two_pow (by omega),Nat.testBit_lt_two_pow (aF0 (by omega:n<2 ^ 64) (aL0 (by decide) h))]
 rw[Nat.and_one_is_mod,h3]at h2;rw[e,show bits BinOp.and IntKind.i64 ((n / 2 ^ min a 64:Nat):Int) 1=(((n.testBit a).toNat:Nat):Int)from h2];cases n.testBit a <;> rfl
theorem FX:∀(k n j:Nat),j<k->(dD k n)[j]?=some (n.testBit (k-1-j))
 | 0,_,_,h=>absurd h (Nat.not_lt_zero _)
 | k+1,n,0,_=>by simp[dD]
 | k+1,n,j+1,h=>by
  rw[dD,aJ5,FX k n j (by omega)];congr 2;omega
theorem dF(l m:List Bool):aX (l++m)=aX l++aX m:=by simp[aX]
theorem jZ(n k B b:Nat)(l:List Bool)(w:World)(hk:k<=100)(hn:n<1000000)(h:Bu B b (aX l) w)(hBw:B<=w.heap.size)(hl:l.length<=100000000):
 Calls Tryz.prog 88 #[.pointer (some ⟨b,0,none⟩),.int .i64 (n:Int),.int .i64 (k:Int)] w fun e w'=>e = .returned (.tuple #[])/\Bu B b (aX (l++dD k n)) w'/\Below B w w'/\Oth b w w':=by
 go_enter Tryz.func88,Tryz.ntmps88
 go_wp2;go_loopw [6] (fun si wr=>∃ j:Nat,j<=k/\si = .int .i64 ((k:Int)-1-(j:Int))/\Hid (Bu B b (aX (l++(dD k n).take j)) wr/\Below B w wr/\Oth b w wr)) (fun si _=>(intOf si+1).toNat)
 case atStart=>exact⟨0,aC6 _,by go_num,by simpa using h,YQ _ _,Lib.OthersKept.refl _ _ _⟩
 case round =>
  obtain⟨j,hj,rfl,HI⟩:=hrel;by_cases hlt:j<k
  ·obtain⟨a,ha⟩:∃ a:Nat,a+j+1=k:=⟨k-1-j,by omega⟩;have hT:(dD k n).take (j+1)=(dD k n).take j++[n.testBit a]:=by
    rw[aE0,FX k n j hlt,show k-1-j=a by omega];rfl
   have HT:Hid _:=hT;have ea:(k:Int)-1-(j:Int)=(a:Int):=by omega
   rw[ea];have hdl:(l++(dD k n).take j).length<=100000100:=by simp;omega
   have HV:Hid _:=UV n a hn;have HW:Hid (Calls Tryz.prog 145 _ wr _):=wb_k B b (aX (l++(dD k n).take j)) (if n.testBit a then 49 else 48) wr HI.out.1 (by rw[bU];omega) (aD9 hBw HI.out.2.1.size);clear hT hdl ea;go_wp2_with fail
   rw[HV.out];refine(aC0 HW.out ?_);rintro e w2 ⟨rfl,hb2,hl2,ho2⟩;have a3:Hid (Bu B b (aX (l++(dD k n).take (j+1))) w2/\Below B w w2/\Oth b w w2):=(by
    rw[HT.out,<-aD3,dF];exact⟨hb2,HI.out.2.1.trans hl2,HI.out.2.2.trans ho2⟩:_/\_)
   clear hb2 hl2 ho2;go_wp2;go_roundw;case rel=>exact⟨j+1,by omega,by go_num,a3.out⟩
   case measure=>simp[intOf] <;> omega
  ·obtain rfl:j=k:=by omega
   have hI:=HI.out;rw[aD2 (by rw[aU];exact V7 _)]at hI;have HE:Hid _:=hI;clear hI;go_wp2;go_end0;exact⟨rfl,HE.out⟩
end Go.Proofs.YtphjbbbnbmafnaaGreatDoor.G
namespace Go.Proofs.YtphjbbbnbmafnaaGreatDoor.G
open Go.RowKit
theorem lC(l:List Bool):aX l=Lib.byteCells (l.map fun b=>if b then (49:UInt8)else 48):=by
 unfold aX Lib.byteCells;rw[List.map_map];refine aF2 (fun b _ => ?_);cases b <;> rfl
theorem J7(l:List Bool)(j:Nat):aX (l++List.replicate (j+1) true)=aX (l++List.replicate j true)++[.int .u8 49]:=by
 rw[aL1,<-aD3,dF];rfl
theorem sZ(n:Nat)(l:List E3)(v:Value)(w:World)(he:aI w v l)(hr:Gm.P6 l)(h0:Gm.ah l 0=0)(hn:n<=100000)(hl:l.length<=100000):
 Calls Tryz.prog 90 #[.int .i64 (n:Int),v] w fun e w'=>e = .returned (.string (txt (eF l n)))/\Below w.heap.size w w':=by
 obtain⟨a0,cap,rfl,aG⟩:=he;have HE:Hid _:=aG;have HR:Hid _:=hr;have HL:∀ u,Hid ((eF l u).length=Gm.ah l u+u):=fun u=>iK l h0 u;have HA:Hid _:=h0;clear aG hr h0;go_enter Tryz.func90,Tryz.ntmps90
 go_wp2;go_loopw [6,9] (fun sa su wr=>∃ u:Nat,u<=n/\su = .int .i64 (u:Int)/\sa = .int .i64 (Gm.ah l u:Int)/\Hid (Bu w.heap.size w.heap.size (aX (eF l u)) wr/\Below w.heap.size w wr)) (fun _ su _=>n-(intOf su).toNat)
 case atStart=>exact⟨0,aC6 _,rfl,by rw[HA.out];rfl,Lib.IsBuilderF.of (Lib.fresh_isBuilder 171 5 w),aA _ _⟩
 case round =>
  obtain⟨u,hu,rfl,rfl,HI⟩:=hrel;by_cases hlt:u<n
  ·have hm:=Gm.Y4 l (show u<=u+1 by omega);have hle:=Gm.ah_le l (u+1);have b3:=(HL u).out;have HS:Hid (eF l (u+1)=eF l u++(List.replicate (Gm.ah l (u+1)-Gm.ah l u) true++[false])):=(rfl:eF l (u+1)=_);have b1:Hid (∀ i e,l[i]?=some e->Gm.ah l u<=i->(e.1=(u:Int)↔i<Gm.ah l (u+1))):=(fun i e hie hi=>by
    have h1:=Gm.ah_at l u i e HR.out hie;have h2:=Gm.ah_at l (u+1) i e HR.out hie;omega:∀ i e,l[i]?=some e->Gm.ah l u<=i->(e.1=(u:Int)↔i<Gm.ah l (u+1)))
   generalize ha:Gm.ah l u=a at hm b3 HS b1;generalize hb:Gm.ah l (u+1)=b at hm hle HS b1;have HBq:Hid _:=hb;clear ha hb HL;go_wp2;go_loopw [6] (fun sa wq=>∃ j:Nat,j<=b-a/\sa = .int .i64 ((a+j:Nat):Int)/\Hid (Bu w.heap.size w.heap.size (aX (eF l u++List.replicate j true)) wq/\Below w.heap.size w wq)) (fun sa _=>b-(intOf sa).toNat)
   case atStart=>exact⟨0,aC6 _,rfl,by rw[show eF l u++List.replicate 0 true=eF l u by simp];exact HI.out⟩
   case round =>
    obtain⟨j,hj,rfl,HJ⟩:=hrel;by_cases hlt2:a+j<b
    ·obtain⟨x,hx⟩:∃ x,l[a+j]?=some x:=⟨_,A7 (by omega)⟩;obtain⟨g,off,rfl,c0,c1,c2⟩:=HE.out (a+j) x hx;have a1:=(b1.out (a+j) x hx (by omega)).2 hlt2;have d0:=cell_kept HJ.out.2 _ _ c0;rw[a1]at d0;have hjl:((a+j:Nat):Int)<(l.length:Int):=by omega
     have HW:Hid (Calls Tryz.prog 145 _ wr _):=wb_k w.heap.size w.heap.size _ 49 wr HJ.out.1 (by rw[bU];simp;omega) HJ.out.2.size;clear c0 c1 c2 hx a1;go_wp2_with fail
     refine(aC0 HW.out ?_);rintro e w2 ⟨rfl,hb2,hl2,ho2⟩;have a7:Hid (Bu w.heap.size w.heap.size (aX (eF l u++List.replicate (j+1) true)) w2/\Below w.heap.size w w2):=(by
      rw[J7];exact⟨hb2,HJ.out.2.trans hl2⟩:_/\_)
     clear hb2 hl2 ho2;go_wp2;go_roundw;case rel=>exact⟨j+1,by omega,by go_num,a7.out⟩
     case measure=>simp[intOf] <;> omega
    ·have aL:a+j=b:=by omega
     have HJB:Hid (a+j=b):=aL;have HW:Hid (Calls Tryz.prog 145 _ wr _):=wb_k w.heap.size w.heap.size _ 48 wr HJ.out.1 (by rw[bU];simp;omega) HJ.out.2.size;have HS2:Hid (aX (eF l (u+1))=aX (eF l u++List.replicate j true)++[.int .u8 48]):=(by
      rw[HS.out,<-aD3,dF _ [false],show b-a=j by omega];rfl:_=_)
     clear aL;by_cases hend:a+j<l.length
     ·obtain⟨x,hx⟩:∃ x,l[a+j]?=some x:=⟨_,A7 hend⟩;obtain⟨g,off,rfl,c0,c1,c2⟩:=HE.out (a+j) x hx;have a1:¬ x.1=(u:Int):=fun e=>hlt2 ((b1.out (a+j) x hx (by omega)).1 e);have hfb:(x.1 == (u:Int))=false:=by simpa using a1
      have d0:=cell_kept HJ.out.2 _ _ c0;have hjl:((a+j:Nat):Int)<(l.length:Int):=by omega
      obtain⟨x1,x2,x3⟩:=x;simp only at d0 hfb a1;clear c0 c1 c2 hx;go_wp2_with fail
      refine(aC0 HW.out ?_);rintro e w2 ⟨rfl,hb2,hl2,ho2⟩;have a7:Hid (Bu w.heap.size w.heap.size (aX (eF l (u+1))) w2/\Below w.heap.size w w2):=(by
       rw[HS2.out];exact⟨hb2,HJ.out.2.trans hl2⟩:_/\_)
      clear hb2 hl2 ho2;go_wp2;go_roundw;case rel=>exact⟨u+1,by omega,by go_num,by rw[HBq.out,<-HJB.out];go_num,a7.out⟩
      case measure=>simp[intOf] <;> omega
     ·have hjl:¬((a+j:Nat):Int)<(l.length:Int):=by omega
      go_wp2_with fail
      refine(aC0 HW.out ?_);rintro e w2 ⟨rfl,hb2,hl2,ho2⟩;have a7:Hid (Bu w.heap.size w.heap.size (aX (eF l (u+1))) w2/\Below w.heap.size w w2):=(by
       rw[HS2.out];exact⟨hb2,HJ.out.2.trans hl2⟩:_/\_)
      clear hb2 hl2 ho2;go_wp2;go_roundw;case rel=>exact⟨u+1,by omega,by go_num,by rw[HBq.out,<-HJB.out];go_num,a7.out⟩
      case measure=>simp[intOf] <;> omega
  ·obtain rfl:u=n:=by omega
   have hI:=HI.out.1;rw[lC]at hI;have a9:Hid (Calls Tryz.prog 87 _ wr _):=Tryz.Builder_String_any_k w.heap.size w.heap.size _ wr hI HI.out.2.size;clear hI;go_wp2_with fail
   refine(aC0 a9.out ?_);rintro e w3 ⟨rfl,hb3,hl3,ho3⟩;go_wp2;go_ret;exact⟨rfl,HI.out.2.trans hl3⟩
end Go.Proofs.YtphjbbbnbmafnaaGreatDoor.G
namespace Go.Proofs.YtphjbbbnbmafnaaGreatDoor.G
open Go.RowKit
variable {i:Nat}
theorem aBc(l:List Bool):Lib.strCells (txt l)=aX l:=by rw[lC];rfl
theorem mD{k:Nat}{l:List Nat}{x:Nat}(h:l[i]?=some x):nums k (l.take (i+1))=nums k (l.take i)++dD k x:=by
 rw[aE0,h,aH4,BX]
theorem fM(k:Nat)(l:List Nat)(i:Nat):(nums k (l.take i)).length<=k*l.length:=by
 rw[jP];exact Nat.mul_le_mul_left _ (by simp;omega)
theorem OM{l:List Gm.E3}{e:Gm.E3}(h:l[i]?=some e):(aM l)[i]?=some e.2.1.toNat:=by unfold aM;rw[aD0,h];rfl
theorem WP{l:List Gm.E3}{e:Gm.E3}(h:l[i]?=some e):(tos l)[i]?=some e.2.2.toNat:=by unfold tos;rw[aD0,h];rfl
theorem TU(w:World)(a b c:Value)(t:TypeId):(w.alloc (.cells #[a,b,c] t)).cell? ⟨w.heap.size,0,none⟩=some a/\(w.alloc (.cells #[a,b,c] t)).cell? ⟨w.heap.size,1,none⟩=some b/\(w.alloc (.cells #[a,b,c] t)).cell? ⟨w.heap.size,2,none⟩=some c:=by
 refine⟨by simp,by simp,by simp⟩
theorem LZ(n s:Nat)(l:List E3)(v:Value)(w:World)(he:aI w v l)(hst:Gm.fO l)(hok:∀ e∈l,Gm.edgeOk n s e)(hn:1<=n)(hn2:n<=10000)(hs:1<=s)(hs2:s<=26)(hl:l.length<=20000):
 Calls Tryz.prog 51 #[.int .i64 (n:Int),.int .i64 (s:Int),v] w fun e w'=>e = .returned (.string (txt (dG n s l)))/\Below w.heap.size w w':=by
 have h0:Gm.ah l 0=0:=Gm.ah_zero l (fun e h=>(hok e h).1);have aE:Gm.ah l n=l.length:=Gm.ah_all l n (fun e h=>(hok e h).2.1);have a8:∀ W,Below w.heap.size w W->Hid (Calls Tryz.prog 90 #[.int .i64 (n:Int),v] W _):=fun W hW=>sZ n l v W (he.below hW) (Gm.SY hst) h0 (by omega) (by omega);have b3:=iK l h0 n;rw[aE]at b3;have hw1:=mF (s-1) (by omega);have hw2:=mF (n-1) (by omega);have HOk:Hid _:=hok;obtain⟨a0,cap,rfl,aG⟩:=he;have HE:Hid _:=aG;have hB0:Bu w.heap.size w.heap.size (aX []) (w.alloc (.cells #[.pointer none,.slice none 0 0] 171)):=Lib.IsBuilderF.of (Lib.fresh_isBuilder 171 5 w);have b2:Hid _:=hB0;clear aG h0 aE hst hok hB0;go_enter Tryz.func51,Tryz.ntmps51
 go_wp2_with fail
 refine(jZ n 14 _ _ [] _ (by decide) (by omega) b2.out (by simp) (by simp)).mono ?_;rintro e w1 ⟨rfl,hb1,hl1,ho1⟩;have H1:Hid (Bu w.heap.size w.heap.size (aX ([]++dD 14 n)) w1/\Below w.heap.size w w1):=(⟨hb1,(aA w _).trans hl1⟩:_/\_);clear hb1 hl1 ho1 b2;go_wp2_with fail
 refine(jZ s 5 _ _ _ _ (by decide) (by omega) H1.out.1 H1.out.2.size (by simp[aU])).mono ?_;rintro e w2 ⟨rfl,hb2,hl2,ho2⟩;have H2:Hid (Bu w.heap.size w.heap.size (aX ([]++dD 14 n++dD 5 s)) w2/\Below w.heap.size w w2):=(⟨hb2,H1.out.2.trans hl2⟩:_/\_);clear hb2 hl2 ho2 H1;go_wp2_with fail
 refine(jZ l.length 15 _ _ _ _ (by decide) (by omega) H2.out.1 H2.out.2.size (by simp[aU])).mono ?_;rintro e w3 ⟨rfl,hb3,hl3,ho3⟩;have H3:Hid (Bu w.heap.size w.heap.size (aX (dD 14 n++dD 5 s++dD 15 l.length)) w3/\Below w.heap.size w w3):=(⟨hb3,H2.out.2.trans hl3⟩:_/\_);clear hb3 hl3 ho3 H2;go_wp2_with fail
 refine(aC0 (a8 w3 H3.out.2).out ?_);rintro e w4 ⟨rfl,hB4⟩;have HW:Hid (Calls Tryz.prog 89 _ w4 _):=ws_k w.heap.size w.heap.size _ (txt (eF l n)) w4 (nD H3.out.1 hB4) (by rw[bU,bE];simp[aU];omega) (aD9 H3.out.2.size hB4.size);have HB4:Hid (Below w.heap.size w w4):=chain H3.out.2 hB4;clear hB4;go_wp2_with fail
 refine(aC0 HW.out ?_);rintro e w5 ⟨rfl,hb5,hl5,ho5⟩;rw[aBc,<-dF]at hb5;have H5:Hid (Bu w.heap.size w.heap.size (aX (dD 14 n++dD 5 s++dD 15 l.length++eF l n)) w5/\Below w.heap.size w w5):=(⟨hb5,HB4.out.trans hl5⟩:_/\_);have hT5:(dD 14 n++dD 5 s++dD 15 l.length++eF l n).length<=40000:=by simp[aU];omega
 have HG:Hid (dG n s l=dD 14 n++dD 5 s++dD 15 l.length++eF l n++nums (wid (s-1)) (aM l)++nums (wid (n-1)) (tos l)):=(rfl:dG n s l=_);generalize dD 14 n++dD 5 s++dD 15 l.length++eF l n=T5 at H5 hT5 HG;clear hb5 hl5 ho5 HB4 HW H3 a8 b3;go_wp2;go_loopw [25] (fun si wr=>∃ i:Nat,i<=l.length/\si = .int .i64 (i:Int)/\Hid (Bu w.heap.size w.heap.size (aX (T5++nums (wid (s-1)) ((aM l).take i))) wr/\Below w.heap.size w wr)) (fun si _=>l.length-(intOf si).toNat)
 case atStart=>exact⟨0,aC6 _,rfl,by rw[show T5++nums (wid (s-1)) ((aM l).take 0)=T5 by simp[nums]];exact H5.out⟩
 case round =>
  obtain⟨i,hi,rfl,HI⟩:=hrel;by_cases hlt:i<l.length
  ·obtain⟨x,hx⟩:∃ x,l[i]?=some x:=⟨_,A7 hlt⟩;obtain⟨g,off,rfl,c0,c1,c2⟩:=HE.out i x hx;have d0:=cell_kept HI.out.2 _ _ c0;have d1:=cell_kept HI.out.2 _ _ c1;have d2:=cell_kept HI.out.2 _ _ c2;have a5:=HOk.out x (aC3 hx);have HN:Hid _:=mD (k:=wid (s-1)) (OM hx);have a6:=fM (wid (s-1)) (aM l) i;have a4:(aM l).length=l.length:=by simp[aM]
   rw[a4]at a6;have a2:wid (s-1)*l.length<=20*20000:=aJ9 hw1 hl;obtain⟨x1,x2,x3⟩:=x;obtain⟨y,hy⟩:∃ y:Nat,x2=(y:Int):=⟨x2.toNat,by have:=a5.2.2.1;simp only at this;omega⟩;subst hy;have hyl:y<26:=by have:=a5.2.2.2.1;simp only at this;omega
   simp only[aG3]at d0 d1 d2 HN;obtain⟨bx0,bx1,bx2⟩:=TU wr (.int .i64 x1) (.int .i64 (y:Int)) (.int .i64 x3) 38;have hiI:(i:Int)<(l.length:Int):=by omega
   clear c0 c1 c2 hx a5;have b0:=HI.out.2.size;have b6:∀ W,Hid (Calls Tryz.prog 91 #[.int .i64 (s:Int)] W _):=fun W=>mZ s hs (by omega) W;have b4:Hid (Calls Tryz.prog 88 _ (wr.alloc (.cells #[.int .i64 x1,.int .i64 (y:Int),.int .i64 x3] 38)).drew _):=jZ y (wid (s-1)) w.heap.size w.heap.size (T5++nums (wid (s-1)) ((aM l).take i)) (wr.alloc (.cells #[.int .i64 x1,.int .i64 (y:Int),.int .i64 x3] 38)).drew (by omega) (by omega) (nD HI.out.1 (aA _ _).drew) (by show _<=(wr.alloc _).heap.size;simp;omega) (by simp;omega);have b5:Hid (Below w.heap.size w (wr.alloc (.cells #[.int .i64 x1,.int .i64 (y:Int),.int .i64 x3] 38)).drew):=(HI.out.2.alloc b0 _).drew;clear a2 a6 a4;go_wp2;go_region_with (first
    | (go_at_call 91;refine(aC0 (b6 _).out ?_);rintro e w' ⟨rfl,rfl⟩)
    | (go_at_call 88;refine(aC0 b4.out ?_);rintro e w' ⟨rfl,hb6,hl6,ho6⟩))
   all_goals
    have a3:Hid (Bu w.heap.size w.heap.size (aX (T5++nums (wid (s-1)) ((aM l).take (i+1)))) w'/\Below w.heap.size w w'):=(by
     rw[HN.out,<-aD3];exact⟨hb6,b5.out.trans hl6⟩:_/\_)
    clear hb6 hl6 ho6;go_wp2;go_roundw;case rel=>exact⟨i+1,by omega,by go_num,a3.out⟩
    case measure=>simp[intOf] <;> omega
  ·obtain rfl:i=l.length:=by omega
   have hI:=HI.out;rw[aD2 (by simp[aM])]at hI;have H6:Hid _:=hI;have a4:(aM l).length=l.length:=by simp[aM]
   have a2:wid (s-1)*l.length<=20*20000:=aJ9 hw1 hl;have hT6:(T5++nums (wid (s-1)) (aM l)).length<=500000:=by rw[WT,jP,a4];omega
   clear hI HI H5 a4 a2;generalize T5++nums (wid (s-1)) (aM l)=T6 at H6 hT6 HG;go_wp2;go_loopw [37] (fun si wr=>∃ i:Nat,i<=l.length/\si = .int .i64 (i:Int)/\Hid (Bu w.heap.size w.heap.size (aX (T6++nums (wid (n-1)) ((tos l).take i))) wr/\Below w.heap.size w wr)) (fun si _=>l.length-(intOf si).toNat)
   case atStart=>exact⟨0,aC6 _,rfl,by rw[show T6++nums (wid (n-1)) ((tos l).take 0)=T6 by simp[nums]];exact H6.out⟩
   case round =>
    obtain⟨i,hi,rfl,HI⟩:=hrel;by_cases hlt:i<l.length
    ·obtain⟨x,hx⟩:∃ x,l[i]?=some x:=⟨_,A7 hlt⟩;obtain⟨g,off,rfl,c0,c1,c2⟩:=HE.out i x hx;have d0:=cell_kept HI.out.2 _ _ c0;have d1:=cell_kept HI.out.2 _ _ c1;have d2:=cell_kept HI.out.2 _ _ c2;have a5:=HOk.out x (aC3 hx);have HN:Hid _:=mD (k:=wid (n-1)) (WP hx);have a6:=fM (wid (n-1)) (tos l) i;have a4:(tos l).length=l.length:=by simp[tos]
     rw[a4]at a6;have a2:wid (n-1)*l.length<=20*20000:=aJ9 hw2 hl;obtain⟨x1,x2,x3⟩:=x;obtain⟨y,hy⟩:∃ y:Nat,x3=(y:Int):=⟨x3.toNat,by have:=a5.2.2.2.2.1;simp only at this;omega⟩;subst hy;have hyl:y<10000:=by have:=a5.2.2.2.2.2;simp only at this;omega
     simp only[aG3]at d0 d1 d2 HN;obtain⟨bx0,bx1,bx2⟩:=TU wr (.int .i64 x1) (.int .i64 x2) (.int .i64 (y:Int)) 38;have hiI:(i:Int)<(l.length:Int):=by omega
     clear c0 c1 c2 hx a5;have b0:=HI.out.2.size;have b6:∀ W,Hid (Calls Tryz.prog 91 #[.int .i64 (n:Int)] W _):=fun W=>mZ n hn (by omega) W;have b4:Hid (Calls Tryz.prog 88 _ (wr.alloc (.cells #[.int .i64 x1,.int .i64 x2,.int .i64 (y:Int)] 38)).drew _):=jZ y (wid (n-1)) w.heap.size w.heap.size (T6++nums (wid (n-1)) ((tos l).take i)) (wr.alloc (.cells #[.int .i64 x1,.int .i64 x2,.int .i64 (y:Int)] 38)).drew (by omega) (by omega) (nD HI.out.1 (aA _ _).drew) (by show _<=(wr.alloc _).heap.size;simp;omega) (by simp;omega);have b5:Hid (Below w.heap.size w (wr.alloc (.cells #[.int .i64 x1,.int .i64 x2,.int .i64 (y:Int)] 38)).drew):=(HI.out.2.alloc b0 _).drew;clear a2 a6 a4;go_wp2;go_region_with (first
      | (go_at_call 91;refine(aC0 (b6 _).out ?_);rintro e w' ⟨rfl,rfl⟩)
      | (go_at_call 88;refine(aC0 b4.out ?_);rintro e w' ⟨rfl,hb6,hl6,ho6⟩))
     all_goals
      have a3:Hid (Bu w.heap.size w.heap.size (aX (T6++nums (wid (n-1)) ((tos l).take (i+1)))) w'/\Below w.heap.size w w'):=(by
       rw[HN.out,<-aD3];exact⟨hb6,b5.out.trans hl6⟩:_/\_)
      clear hb6 hl6 ho6;go_wp2;go_roundw;case rel=>exact⟨i+1,by omega,by go_num,a3.out⟩
      case measure=>simp[intOf] <;> omega
    ·obtain rfl:i=l.length:=by omega
     have hI:=HI.out;rw[aD2 (by simp[tos]),<-HG.out,lC]at hI;have a9:Hid (Calls Tryz.prog 87 _ wr _):=Tryz.Builder_String_any_k w.heap.size w.heap.size _ wr hI.1 hI.2.size;have HBf:Hid _:=hI.2;clear hI HI;go_wp2_with fail
     refine(aC0 a9.out ?_);rintro e w3 ⟨rfl,hb3,hl3,ho3⟩;go_wp2;go_ret;exact⟨rfl,HBf.out.trans hl3⟩
end Go.Proofs.YtphjbbbnbmafnaaGreatDoor.G
namespace Go.Proofs.YtphjbbbnbmafnaaGreatDoor.G
open Go.RowKit
theorem PZ:∀(k:Nat) (l:List Nat) (i x:Nat),0<k->l[i / k]?=some x->(nums k l)[i]?=some (x.testBit (k-1-i % k))
 | _,[],_,_,_,h=>by cases h
 | k,a::l,i,x,hk,h=>by
  have e:nums k (a::l)=dD k a++nums k l:=by unfold nums;rw[List.flatMap_cons]
  rw[e];by_cases hi:i<k
  ·rw[aD4 (by rw[aU];exact hi),FX k a i hi];rw[Nat.div_eq_of_lt hi]at h;simp at h;subst h;rw[Nat.mod_eq_of_lt hi]
  ·rw[aC8 (by rw[aU];omega),aU];have hd:i / k=(i-k) / k+1:=by
    rw[Nat.div_eq_sub_div hk (by omega)]
   rw[hd]at h;have ih:=PZ k l (i-k) x hk (by simpa using h);rw[ih,Nat.mod_eq_sub_mod (a:=i) (by omega)]
theorem u8_and_nat(a b:Nat)(ha:a<256)(hb:b<256):bits .and .u8 (a:Int) (b:Int)=((a &&& b:Nat):Int):=by
 have hx:a &&& b<=a:=Nat.and_le_left;show IntKind.u8.wrap ((BitVec.ofInt 8 (a:Int) &&& BitVec.ofInt 8 (b:Int)).toNat:Int)=_;rw[BitVec.toNat_and];have e1:(BitVec.ofInt 8 (a:Int)).toNat=a:=by simp;omega
 have e2:(BitVec.ofInt 8 (b:Int)).toNat=b:=by simp;omega
 rw[e1,e2,IntKind.wrap_u8];omega
theorem RI(x a:Nat)(hx:x<256):(48+bits BinOp.and IntKind.u8 ((x:Int) / 2 ^ a) 1) % 256=if x.testBit a then 49 else 48:=by
 have e:((x:Int) / 2 ^ a)=((x / 2 ^ a:Nat):Int):=by rw[aK1];congr 1
 have h1:x / 2 ^ a<=x:=Nat.div_le_self _ _;have h2:=u8_and_nat (x / 2 ^ a) 1 (by omega) (by decide);rw[Nat.and_one_is_mod,rW]at h2;rw[e,show bits BinOp.and IntKind.u8 ((x / 2 ^ a:Nat):Int) 1=(((x.testBit a).toNat:Nat):Int)from h2];cases x.testBit a <;> rfl
theorem KZ(l:List Nat)(hl:l.length=252)(hb:∀ x∈l,x<256)(B b:Nat)(acc:List Bool)(w:World)(h:Bu B b (aX acc) w)(hBw:B<=w.heap.size)(ha:acc.length<=100000000):
 Calls Tryz.prog 98 #[.pointer (some ⟨b,0,none⟩),.agg (valsB l).toArray] w fun e w'=>e = .returned (.tuple #[])/\Bu B b (aX (acc++nums 8 l)) w'/\Below B w w':=by
 have hbl:=JO h;have b2:Hid (Bu B b (aX acc) (w.alloc (.cells (valsB l).toArray 176))):=nD h (aA _ _);have HH0:Hid ((w.alloc (.cells (valsB l).toArray 176)).heap[w.heap.size]?=some (.cells (valsB l).toArray 176 (0,0))):=heap_alloc_new _ _;have HL0:Hid (Below B w (w.alloc (.cells (valsB l).toArray 176))):=(YQ _ _).alloc hBw _;have HLb:Hid _:=hb;have a6:(nums 8 l).length=2016:=by rw[jP,hl]
 clear hb h;go_enter Tryz.func98,Tryz.ntmps98
 go_wp2;go_loopw [5] (fun si wr=>∃ i:Nat,i<=2016/\si = .int .i64 (i:Int)/\Hid (Bu B b (aX (acc++(nums 8 l).take i)) wr/\wr.heap[w.heap.size]?=some (.cells (valsB l).toArray 176 (0,0))/\Below B w wr)) (fun si _=>2016-(intOf si).toNat)
 case atStart=>exact⟨0,aC6 _,rfl,by rw[List.take_zero,aE4];exact b2.out,HH0.out,HL0.out⟩
 case round =>
  obtain⟨i,hi,rfl,HI⟩:=hrel;by_cases hlt:i<2016
  ·obtain⟨x,hx⟩:∃ x,l[i / 8]?=some x:=⟨_,A7 (by omega)⟩;have hxb:=HLb.out x (aC3 hx);have hcell:wr.cell? ⟨w.heap.size,i / 8,none⟩=some (.int .u8 (x:Int)):=by
    rw[cell_of_row wr _ _ _ _ _ HI.out.2.1];simp[valsB,hx]
   have HT:Hid ((nums 8 l).take (i+1)=(nums 8 l).take i++[x.testBit (7-i % 8)]):=(by rw[aE0,PZ 8 l i x (by decide) hx];rfl:_=_);have h8:(i:Int) / 8<252:=by omega
   have hW:=wb_k B b (aX (acc++(nums 8 l).take i)) (if x.testBit (7-i % 8)then 49 else 48) wr HI.out.1 (by rw[bU,WT,aD7];omega) (aD9 hBw HI.out.2.2.size);have HW:Hid (Calls Tryz.prog 145 _ wr _):=hW;clear hx hW;have HV:Hid _:=RI x (7-i % 8) hxb;have hbC:b≠w.heap.size:=by omega
   go_wp2_with fail
   rw[HV.out];refine(aC0 HW.out ?_);rintro e w2 ⟨rfl,hb2,hl2,ho2⟩;have a3:Hid (Bu B b (aX (acc++(nums 8 l).take (i+1))) w2/\w2.heap[w.heap.size]?=some (.cells (valsB l).toArray 176 (0,0))/\Below B w w2):=(by
    rw[HT.out,<-aD3,dF];exact⟨hb2,ho2 _ _ HI.out.2.1 (fun e=>hbC (aH5 e).symm) (by intro c fz e;cases e),HI.out.2.2.trans hl2⟩:_/\_)
   clear hb2 hl2 ho2;go_wp2;go_roundw;case rel=>exact⟨i+1,by omega,by go_num,a3.out⟩
   case measure=>simp[intOf] <;> omega
  ·obtain rfl:i=2016:=by omega
   have hI:=HI.out;rw[aD2 (by omega)]at hI;have HE:Hid _:=hI;clear hI;go_wp2;go_end0;exact⟨rfl,HE.out.1,HE.out.2.2⟩
end Go.Proofs.YtphjbbbnbmafnaaGreatDoor.G
