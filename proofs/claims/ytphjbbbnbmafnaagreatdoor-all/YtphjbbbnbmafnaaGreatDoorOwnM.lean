/- Parts: PSum Pack GBits OpenE OwnM. -/
import Derived.Test.YtphjbbbnbmafnaaGreatDoorRefPages
import Derived.Deep.WholeRow
import Derived.Laws.CopyRow
import Derived.Laws.CopyOwn
import Derived.Shelf.SlicesQ.Load
import Derived.Test.YtphjbbbnbmafnaaGreatDoorExt
import Derived.SizedLaws
import Derived.OpenShut
import Derived.ShutString
import Derived.ChangeOld
import Derived.Deep.Slices
import Derived.Lib.FrozenHead2
import Derived.Lib.AppendStr
set_option maxHeartbeats 4000000
set_option maxRecDepth 100000
namespace Go.Proofs.YtphjbbbnbmafnaaGreatDoor.G
open Go.RowKit
variable {w:World}
theorem u32_xor_nat(a b:Nat)(ha:a<4294967296)(hb:b<4294967296):bits .xor .u32 (a:Int) (b:Int)=((a ^^^ b:Nat):Int):=by
 have hx:a ^^^ b<2 ^ 32:=Nat.xor_lt_two_pow (by omega) (by omega);show IntKind.u32.wrap ((BitVec.ofInt 32 (a:Int) ^^^ BitVec.ofInt 32 (b:Int)).toNat:Int)=_;rw[BitVec.toNat_xor];have e1:(BitVec.ofInt 32 (a:Int)).toNat=a:=by simp;omega
 have e2:(BitVec.ofInt 32 (b:Int)).toNat=b:=by simp;omega
 rw[e1,e2,IntKind.wrap_u32];omega
theorem Tryz.info4:(Tryz.prog.info? 231).map (·.size)=some 4:=by kernel_rfl
theorem XB(n:Nat)(h:n<4294967296)(w:World):
 Calls Tryz.prog 142 #[.int .u32 (n:Int)] w fun e w'=>e = .returned (.agg (valsB (Crc.be4 n)).toArray)/\Below w.heap.size w w':=by
 have HV:Hid _:=RQ n h;go_enter Tryz.func142,Tryz.ntmps142
 go_wp2;refine bodyPost_ret (results_cell_row rfl _ _ w.heap.size 231 _ (0,0) _ rfl (heap_alloc_new _ _) Tryz.underlying231 rfl Tryz.info4) rfl ?_;exact⟨R7 (by rw[<-HV.out]),aA _ _⟩
theorem QU(c0:Nat)(l:List Nat)(v:Value)(w:World)(hc0:c0<4294967296)(hlen2:l.length<=1000)(hrow:aAK w v l)(hb:∀ x∈l,x<256):
 Calls Tryz.prog 181 #[.int .u32 (c0:Int),v] w fun e w'=>e = .returned (.int .u32 (Crc.crc c0 l:Int))/\w'=w:=by
 obtain⟨g,off,cap,rfl,hc⟩:=hrow;have HC:Hid _:=hc;have HB:Hid _:=hb;clear hc hb;go_enter Tryz.func181,Tryz.ntmps181
 go_wp2;go_loop [0,10] (fun sc si=>∃ k c:Nat,k<=l.length/\si = .int .i64 (k:Int)/\sc = .int .u32 (c:Int)/\c<4294967296/\Hid (c=Crc.crc c0 (l.take k))) (fun _ si=>l.length-(intOf si).toNat)
 case atStart=>exact⟨0,c0,aC6 _,rfl,rfl,hc0,(rfl:c0=Crc.crc c0 (l.take 0))⟩
 case round =>
  obtain⟨k,c,hk,rfl,rfl,hcl,HI⟩:=hrel;by_cases hlt:k<l.length
  ·obtain⟨x,hx⟩:∃ x,l[k]?=some x:=⟨_,A7 hlt⟩;have hxb:=HB.out x (aC3 hx);have a5:=HC.out k x hx;have hT:=JM (c:=c0) hx;rw[<-HI.out]at hT;have HT:Hid _:=hT;have hxo:=u32_xor_nat c (x*16777216) (by omega) (by omega);have cT:bits BinOp.xor IntKind.u32 (c:Int) ((x:Int)*16777216)=((c ^^^ (x*16777216):Nat):Int):=by rw[<-hxo];congr 1
   have cB:c ^^^ (x*16777216)<4294967296:=Nat.xor_lt_two_pow (n:=32) hcl (by omega);clear hx hT hxo HI;generalize hy:c ^^^ (x*16777216)=y at cT cB;have HY:Hid (Crc.feed c x=Crc.shifts 8 y):=(by rw[<-hy];rfl:_=_);clear hy;go_wp2;go_loop [0,19] (fun sc sj=>∃ j d:Nat,j<=8/\sj = .int .i64 (j:Int)/\sc = .int .u32 (d:Int)/\d<4294967296/\Hid (d=Crc.shifts j y)) (fun _ sj=>8-(intOf sj).toNat)
   case atStart=>exact⟨0,y,aC6 _,rfl,rfl,cB,(rfl:y=Crc.shifts 0 y)⟩
   case round =>
    obtain⟨j,d,hj,rfl,rfl,hd,HD⟩:=hrel;by_cases hlt8:j<8
    ·have hS:=oH j y;rw[<-HD.out]at hS;have cQ:=BS (j+1) y cB;by_cases hbig:2147483648<=d
     ·have hf1:(d:Int) / 2147483648=1:=by omega
      have hm1:2*(d:Int) % 4294967296=((2*d-4294967296:Nat):Int):=by omega
      have hm2:(d:Int)*2 % 4294967296=((2*d-4294967296:Nat):Int):=by omega
      have hq:=u32_xor_nat (2*d-4294967296) 79764919 (by omega) (by decide);rw[A9 hbig hd]at hS;have HS:Hid ((2*d-4294967296 ^^^ 79764919)=Crc.shifts (j+1) y):=hS.symm;have cL:(2*d-4294967296 ^^^ 79764919)<4294967296:=by rw[HS.out];exact cQ
      clear hS cQ;generalize 2*d-4294967296=z at hm1 hm2 hq HS cL;have HQ:Hid (bits BinOp.xor IntKind.u32 (z:Int) 79764919=((z ^^^ 79764919:Nat):Int)):=hq;clear hq;go_wp2;go_round;case rel=>exact⟨j+1,z ^^^ 79764919,by omega,by go_num,by rw[HQ.out],cL,HS.out⟩
      case measure=>simp[intOf];omega
     ·have hf1:(d:Int) / 2147483648=0:=by omega
      have hm2:(d:Int)*2 % 4294967296=2*(d:Int):=by omega
      rw[vG (by omega)]at hS;have HS:Hid (2*d=Crc.shifts (j+1) y):=hS.symm;have HQ:Hid (bits BinOp.xor IntKind.u32 ((d:Int)*2) 0=((2*d:Nat):Int)):=(by
       have h:=u32_xor_nat (2*d) 0 (by omega) (by decide);rw[Nat.xor_zero]at h;rw[<-h];congr 1;omega:_=_)
      clear hS cQ;go_wp2;go_round;case rel=>exact⟨j+1,2*d,by omega,by go_num,by rw[HQ.out],by omega,HS.out⟩
      case measure=>simp[intOf];omega
    ·obtain rfl:j=8:=by omega
     have HE:Hid (d=Crc.crc c0 (l.take (k+1))):=(by rw[HD.out,HT.out,HY.out]:_=_);clear HD;go_wp2;go_round;case rel=>exact⟨k+1,d,by omega,by go_num,rfl,hd,HE.out⟩
     case measure=>simp[intOf];omega
  ·obtain rfl:k=l.length:=by omega
   have hE:=HI.out;rw[aE3]at hE;have HE:Hid (c=Crc.crc c0 l):=hE;clear hE HI;go_wp2;go_ret;exact⟨R7 (by rw[<-HE.out];rfl),rfl⟩
theorem dI{o:Obj}{i:Nat}(h:i<w.heap.size):(w.alloc o).heap[i]?=w.heap[i]?:=by
 show(w.heap.push o)[i]?=w.heap[i]?;rw[aF3,if_neg (Nat.ne_of_lt h)]
theorem pM(l:List Nat):(valsB l).length=l.length:=by simp[valsB]
theorem BC{g:Nat}{t:TypeId}{fr:Nat×Nat}{l:List Nat}(h:w.heap[g]?=some (.cells (valsB l).toArray t fr))(cap:Nat):aAK w (.slice (some ⟨g,0,none⟩) l.length cap) l:=by
 refine⟨g,0,cap,rfl,fun j x hj => ?_⟩;rw[cell_of_row w g (0+j) (valsB l).toArray t fr h];simp[valsB,hj]
theorem VZ(p:Nat)(l:List Nat)(hp:p<=1000)(hl:l.length=252)(hb:∀ x∈l,x<256)(w:World):
 Calls Tryz.prog 143 #[.int .i64 (p:Int),.agg (valsB l).toArray] w fun e w'=>e = .returned (.int .u32 (Crc.sumOf p l:Int))/\Below w.heap.size w w':=by
 have hz:=pM l;go_enter Tryz.func143,Tryz.ntmps143
 go_wp2_with fail
 refine(XB p (by omega) _).mono ?_;rintro e w1 ⟨rfl,hB1⟩;obtain⟨b0,b1,b2,b3,cF⟩:∃ b0 b1 b2 b3:Nat,Crc.be4 p=[b0,b1,b2,b3]:=⟨_,_,_,_,rfl⟩;have cA:(valsB (Crc.be4 p)).toArray=#[.int .u8 (b0:Int),.int .u8 (b1:Int),.int .u8 (b2:Int),.int .u8 (b3:Int)]:=by rw[cF];rfl
 rw[cA];have hh1:w1.heap[w.heap.size]?=some (.cells (valsB l).toArray 176 (0,0)):=by
  rw[hB1.block w.heap.size (by simp)];exact heap_alloc_new _ _
 have hA:=QU 4294967295 (Crc.be4 p) (.slice (some ⟨w1.heap.size,0,none⟩) 4 4) (w1.alloc (.cells #[.int .u8 (b0:Int),.int .u8 (b1:Int),.int .u8 (b2:Int),.int .u8 (b3:Int)] 231)) (by decide) (by simp[Crc.be4]) (by
  rw[<-cA];exact BC (l:=Crc.be4 p) (heap_alloc_new _ _) 4) (fun x hx=>by simp[Crc.be4]at hx;omega)
 have HA:Hid (Calls Tryz.prog 181 _ _ _):=hA;have cR:=Crc.crc_lt (Crc.be4 p) 4294967295 (by decide);have HC2:Hid _:=Crc.crc_append 4294967295 (Crc.be4 p) l;have HB0:Hid (Below w.heap.size w w1):=chain (aA _ _) hB1;generalize hc:Crc.crc 4294967295 (Crc.be4 p)=c at hA HA cR HC2;have cP:=QU c l (.slice (some ⟨w.heap.size,0,none⟩) l.length 252) (w1.alloc (.cells #[.int .u8 (b0:Int),.int .u8 (b1:Int),.int .u8 (b2:Int),.int .u8 (b3:Int)] 231)) cR (by omega) (BC (by
  rw[dI (by have:=hB1.size;simp at this;omega)];exact hh1) 252) hb
 rw[hl]at cP;have HA2:Hid (Calls Tryz.prog 181 _ _ _):=cP;have cL:=Crc.crc_lt l c cR;clear hA cP cF cA hc hB1 hb hh1;go_wp2_with fail
 refine(aC0 HA.out ?_);rintro e w2 ⟨rfl,hw2⟩;rw[hw2];clear hw2 w2;go_wp2_with fail
 refine(aC0 HA2.out ?_);rintro e w2 ⟨rfl,hw2⟩;rw[hw2];clear hw2 w2;go_wp2;have HX:Hid (bits BinOp.xor IntKind.u32 IntKind.u32.max (Crc.crc c l:Int)=(Crc.sumOf p l:Int)):=(by
  have h:=u32_xor_nat 4294967295 (Crc.crc c l) (by decide) cL;rw[show Crc.sumOf p l=4294967295 ^^^ Crc.crc c l from by unfold Crc.sumOf;rw[HC2.out,Nat.xor_comm]];exact h:_=_)
 go_ret;exact⟨R7 (congrArg (Value.int .u32) HX.out),HB0.out.alloc HB0.out.size _⟩
end Go.Proofs.YtphjbbbnbmafnaaGreatDoor.G
namespace Go.Proofs.YtphjbbbnbmafnaaGreatDoor.G
open Go.RowKit
theorem lQ(w:World)(g:Nat)(a3:Array Value)(vs:List Value)(t:TypeId)(hg:w.heap[g]?=some (.cells a3 t (0,0)))(hl:vs.length=a3.size)(h1:∀ v∈vs,v.oneCell'=true):
 Sem.run Tryz.prog (storeCells ⟨g,0,none⟩ vs) w = .ok () (w.setRow g vs.toArray):=by
 have h:=run_storeCells_at Tryz.prog g 0 t vs 0 a3 w hg (by omega) h1;have e:a3.toList.drop (0+0+vs.length)=[]:=aH0 (by simp;omega);rw[e]at h;simpa using h
theorem Tryz.infoBody:(Tryz.prog.info? 176).map (·.size)=some 252:=by kernel_rfl
theorem Tryz.infoPage:(Tryz.prog.info? 173).map (·.size)=some 256:=by kernel_rfl
theorem xH(p:Nat)(l:List Nat)(hp:p<=1000)(hl:l.length=252)(hb:∀ x∈l,x<256)(w:World):
 Calls Tryz.prog 84 #[.int .i64 (p:Int),.agg (valsB l).toArray] w fun e w'=>e = .returned (.agg (valsB (l++Crc.be4 (Crc.sumOf p l))).toArray)/\Below w.heap.size w w':=by
 have hz:=pM l;obtain⟨W,hW⟩:∃ W,W=((w.alloc (.cells (valsB l).toArray 176)).alloc (.cells Tryz.zeroCells173 173)).alloc (.cells Tryz.zeroCells173 173):=⟨_,rfl⟩;have hS:W.heap.size=w.heap.size+3:=by rw[hW];simp
 have h0:W.heap[w.heap.size]?=some (.cells (valsB l).toArray 176 (0,0)):=by
  rw[hW,dI (by simp;omega),dI (by simp)];exact heap_alloc_new _ _
 have h1:W.heap[w.heap.size+1]?=some (.cells Tryz.zeroCells173 173 (0,0)):=by
  rw[hW,dI (by simp)];exact heap_alloc2_new _ _ _
 have h2:W.heap[w.heap.size+2]?=some (.cells Tryz.zeroCells173 173 (0,0)):=by
  rw[hW];have h:=heap_alloc_new ((w.alloc (.cells (valsB l).toArray 176)).alloc (.cells Tryz.zeroCells173 173)) (.cells Tryz.zeroCells173 173);simpa using h
 have HBW:Hid (Below w.heap.size w W):=(by rw[hW];exact((jJ _ _ _).alloc (by simp;omega) _):Below w.heap.size w W);have HW:Hid _:=hW;clear hW;go_enter Tryz.func84,Tryz.ntmps84
 go_wp2_with fail
 rw[<-HW.out];refine wp_load_row 176 _ rfl w.heap.size rfl _ _ _ _ h0 Tryz.underlying176 rfl (by rw[Tryz.infoBody];simp[hz,hl]) ?_;go_wp2_with fail
 refine(VZ p l hp hl hb W).mono ?_;rintro e w1 ⟨rfl,hB1⟩;have bX:=Crc.sum_lt p l;have HL:Hid _:=hb;generalize hsum:Crc.sumOf p l=S at bX;have cN:Hid _:=hsum;clear hsum hb;have H1:Hid _:=hB1;clear hB1;go_wp2_with fail
 refine(XB S bX w1).mono ?_;rintro e w2 ⟨rfl,hB2⟩;obtain⟨b0,b1,b2,b3,cF⟩:∃ b0 b1 b2 b3:Nat,Crc.be4 S=[b0,b1,b2,b3]:=⟨_,_,_,_,rfl⟩;have cA:(valsB (Crc.be4 S)).toArray=#[.int .u8 (b0:Int),.int .u8 (b1:Int),.int .u8 (b2:Int),.int .u8 (b3:Int)]:=by rw[cF];rfl
 rw[cA];have a6:Below W.heap.size W w2:=chain H1.out hB2;have HV4:Hid _:=cA;clear cA cF;have g0:w2.heap[w.heap.size]?=some (.cells (valsB l).toArray 176 (0,0)):=by rw[a6.block _ (by omega)];exact h0
 have g1:w2.heap[w.heap.size+1]?=some (.cells Tryz.zeroCells173 173 (0,0)):=by rw[a6.block _ (by omega)];exact h1
 have g2:w2.heap[w.heap.size+2]?=some (.cells Tryz.zeroCells173 173 (0,0)):=by rw[a6.block _ (by omega)];exact h2
 have gs:=a6.size;have G0:Hid _:=g0;have G1:Hid _:=g1;have G2:Hid _:=g2;have HB2:Hid _:=a6;clear a6 hB2 h0 h1 h2 g0 g1 g2;go_wp2_with fail
 obtain⟨W3,aG⟩:∃ W3,W3=w2.alloc (.cells #[.int .u8 (b0:Int),.int .u8 (b1:Int),.int .u8 (b2:Int),.int .u8 (b3:Int)] 231):=⟨_,rfl⟩;have k0:W3.heap[w.heap.size]?=some (.cells (valsB l).toArray 176 (0,0)):=by rw[aG,dI (by omega)];exact G0.out
 have k1:W3.heap[w.heap.size+1]?=some (.cells Tryz.zeroCells173 173 (0,0)):=by rw[aG,dI (by omega)];exact G1.out
 have k2:W3.heap[w.heap.size+2]?=some (.cells Tryz.zeroCells173 173 (0,0)):=by rw[aG,dI (by omega)];exact G2.out
 have k4:W3.heap[w2.heap.size]?=some (.cells #[.int .u8 (b0:Int),.int .u8 (b1:Int),.int .u8 (b2:Int),.int .u8 (b3:Int)] 231 (0,0)):=by rw[aG];exact heap_alloc_new _ _
 have ks:W3.heap.size=w2.heap.size+1:=by rw[aG];simp
 have cM:Hid (Below W.heap.size W W3):=(by rw[aG];exact HB2.out.alloc HB2.out.size _:Below W.heap.size W W3);rw[<-aG];clear aG;have cG:=run_copy_row Tryz.prog W3.drew 113 113 3 5 (w.heap.size+1+1) 0 256 256 ⟨w.heap.size,0,none⟩ 252 252 _ _ (valsB l) Tryz.underlying113 (by kernel_rfl) k2 (by rw[hz,hl];rfl) (fun j v hv=>by
  rw[addr_add,cell_of_row W3.drew w.heap.size (0+j) (valsB l).toArray 176 (0,0) k0];simpa using hv) (by rw[hz,hl,Tryz.zeroCells173_size];decide) (iA l)
 have K0:Hid _:=k0;have K1:Hid _:=k1;have K2:Hid _:=k2;have K4:Hid _:=k4;clear k0 k1 k2 k4 G0 G1 G2;go_region;obtain⟨W4,cC⟩:∃ W4,W4=W3.drew.setRow (w.heap.size+1+1) (valsB l++List.drop 252 Tryz.zeroCells173.toList).toArray:=⟨_,rfl⟩;have m1:W4.heap[w.heap.size+1]?=some (.cells Tryz.zeroCells173 173 (0,0)):=by rw[cC,setRow_other _ _ _ _ (by omega)];exact K1.out
 have m2:W4.heap[w.heap.size+1+1]?=some (.cells (valsB l++List.drop 252 Tryz.zeroCells173.toList).toArray 173 (0,0)):=by rw[cC];exact setRow_heap _ _ _ _ _ _ K2.out
 have m4:W4.heap[w2.heap.size]?=some (.cells #[.int .u8 (b0:Int),.int .u8 (b1:Int),.int .u8 (b2:Int),.int .u8 (b3:Int)] 231 (0,0)):=by rw[cC,setRow_other _ _ _ _ (by omega)];exact K4.out
 have HB4:Hid (Below w.heap.size w W4):=(by
  rw[cC];exact below_setRow (HBW.out.trans (cM.out.mono (by omega))).drew (by omega) _:Below w.heap.size w W4)
 rw[<-cC];clear cC cG;generalize hrest:List.drop 252 Tryz.zeroCells173.toList=rest at m2;have hrl:rest.length=4:=by rw[<-hrest];simp[Tryz.zeroCells173_size]
 clear hrest;have a8:=run_copy_row Tryz.prog W4.drew 113 113 3 5 (w.heap.size+1+1) 252 4 4 ⟨w2.heap.size,0,none⟩ 4 4 _ _ [.int .u8 (b0:Int),.int .u8 (b1:Int),.int .u8 (b2:Int),.int .u8 (b3:Int)] Tryz.underlying113 (by kernel_rfl) m2 rfl (fun j v hv=>by
  rw[addr_add,cell_of_row W4.drew w2.heap.size (0+j) _ 231 (0,0) m4];simpa using hv) (by simp[hz,hl,hrl]) (GN _ _ _ _)
 have cH:(List.take 252 (valsB l++rest)++[Value.int .u8 (b0:Int),.int .u8 (b1:Int),.int .u8 (b2:Int),.int .u8 (b3:Int)]++List.drop (252+4) (valsB l++rest)).toArray=(valsB (l++Crc.be4 S)).toArray:=by
  have e1:List.take 252 (valsB l++rest)=valsB l:=by rw[aL5 (by omega),aD2 (by omega)]
  have e2:List.drop (252+4) (valsB l++rest)=[]:=aH0 (by simp[hz,hl,hrl]);have e3:[Value.int .u8 (b0:Int),.int .u8 (b1:Int),.int .u8 (b2:Int),.int .u8 (b3:Int)]=valsB (Crc.be4 S):=by
   have:=congrArg Array.toList HV4.out;simpa using this.symm
  rw[e1,e2,e3,fG,aE4]
 have b9:(Builtin.copy_ #[113,113] 3 #[.slice (some ⟨w.heap.size+1+1,252,none⟩) 4 4,.slice (some ⟨w2.heap.size,0,none⟩) 4 4]).run Tryz.prog W4.drew = .ok (goInt 4) (W4.drew.setRow (w.heap.size+1+1) (valsB (l++Crc.be4 S)).toArray):=by
  rw[<-cH];exact a8
 have M1:Hid _:=m1;have M2:Hid _:=m2;clear a8 cH m1 m2 m4;go_wp2_with fail
 go_region;have bS:(valsB (l++Crc.be4 S)).toArray.size=256:=by simp[valsB,hl,Crc.be4]
 obtain⟨W5,cE⟩:∃ W5,W5=W4.drew.setRow (w.heap.size+1+1) (valsB (l++Crc.be4 S)).toArray:=⟨_,rfl⟩;have n1:W5.heap[w.heap.size+1]?=some (.cells Tryz.zeroCells173 173 (0,0)):=by rw[cE,setRow_other _ _ _ _ (by omega)];exact M1.out
 have n2:W5.heap[w.heap.size+1+1]?=some (.cells (valsB (l++Crc.be4 S)).toArray 173 (0,0)):=by rw[cE];exact setRow_heap _ _ _ _ _ _ M2.out
 have HB5:Hid (Below w.heap.size w W5):=(by
  rw[cE];exact below_setRow HB4.out.drew (by omega) _:Below w.heap.size w W5)
 rw[<-cE];have N1:Hid _:=n1;have N2:Hid _:=n2;clear cE n1 n2 b9;go_wp2_with fail
 refine wp_load_row 173 _ rfl (w.heap.size+1+1) rfl _ _ _ _ N2.out Tryz.underlying173 rfl (by rw[Tryz.infoPage,bS]) ?_;go_wp2_with fail
 rw[lQ W5 (w.heap.size+1) _ (valsB (l++Crc.be4 S)) 173 N1.out (by rw[Tryz.zeroCells173_size,<-bS];simp) (iA _)];go_wp2;refine bodyPost_ret (results_cell_row rfl _ _ (w.heap.size+1) 173 _ (0,0) _ rfl (setRow_heap _ _ _ _ _ _ N1.out) Tryz.underlying173 rfl (by rw[Tryz.infoPage,bS])) rfl ?_;exact⟨by rw[cN.out],below_setRow HB5.out (by omega) _⟩
end Go.Proofs.YtphjbbbnbmafnaaGreatDoor.G
namespace Go.Proofs.YtphjbbbnbmafnaaGreatDoor.G
open Go.RowKit
theorem or8:∀(j:Fin 8) (b0 b1 b2 b3 b4 b5 b6 b7:Bool),numOf [b0,b1,b2,b3,b4,b5,b6,b7] ||| (128 / 2 ^ j.val)=numOf ([b0,b1,b2,b3,b4,b5,b6,b7].set j.val true):=by decide +kernel
theorem eight{α:Type}(l:List α)(h:l.length=8):∃ a b c d e f g k,l=[a,b,c,d,e,f,g,k]:=by
 match l,h with
 | [a,b,c,d,e,f,g,k],_=>exact⟨a,b,c,d,e,f,g,k,rfl⟩
theorem aA6(l:List Bool)(h:l.length=8)(j:Nat)(hj:j<8):numOf l ||| (128 / 2 ^ j)=numOf (l.set j true):=by
 obtain⟨a,b,c,d,e,f,g,k,rfl⟩:=eight l h;exact or8 ⟨j,hj⟩ a b c d e f g k
def prt(l:List Bool)(i:Nat):List Nat:=dE (l.take i) 0 252
theorem EZ(l:List Bool)(i:Nat):(prt l i).length=252:=bR _ _ _
theorem kI(l:List Bool)(i k:Nat):(l.take i).getD k false=(decide (k<i)&&l.getD k false):=by
 simp only[aC1,List.getElem?_take];by_cases h:k<i <;> simp[h]
theorem IM(l:List Bool)(i k:Nat)(hk:k<252):(prt l i)[k]?=some (numOf (sub (l.take i) (8*k) 8)):=by
 unfold prt dE;rw[aD0,aI7 hk];simp
theorem zQ(l:List Bool)(i a:Nat)(h:l.getD i false=false):sub (l.take (i+1)) a 8=sub (l.take i) a 8:=by
 unfold sub;refine aF2 (fun k _ => ?_);rw[kI,kI];by_cases e:a+k=i
 ·rw[e,h];simp
 ·by_cases e2:a+k<i
  ·simp[e2,show a+k<i+1 by omega]
  ·simp[e2,show ¬ a+k<i+1 by omega]
theorem BN(l:List Bool)(i a:Nat)(h:l.getD i false=true)(h1:a<=i)(h2:i<a+8):sub (l.take (i+1)) a 8=(sub (l.take i) a 8).set (i-a) true:=by
 apply List.ext_getElem
 ·simp[sub]
 ·intro k hk1 hk2;rw[List.getElem_set];simp only[sub,List.getElem_map,List.getElem_range];rw[kI,kI];by_cases e:i-a=k
  ·rw[if_pos e,show a+k=i by omega,h];simp
  ·rw[if_neg e];by_cases e2:a+k<i
   ·simp[e2,show a+k<i+1 by omega]
   ·simp[e2,show ¬ a+k<i+1 by omega]
theorem AC(l:List Bool)(i a:Nat)(h:i<a\/a+8<=i):sub (l.take (i+1)) a 8=sub (l.take i) a 8:=by
 unfold sub;refine aF2 (fun k hk => ?_);have hk':k<8:=by simpa using hk
 rw[kI,kI];by_cases e2:a+k<i
 ·simp[e2,show a+k<i+1 by omega]
 ·have:¬ a+k<i+1:=by omega
  simp[e2,this]
theorem TR(l:List Bool)(i:Nat)(h:l.getD i false=false):prt l (i+1)=prt l i:=by
 unfold prt dE;exact aF2 (fun k _=>by rw[zQ l i _ h])
theorem XF(l:List Bool)(i x:Nat)(h:l.getD i false=true)(hx:(prt l i)[i / 8]?=some x)(hi:i<2016):prt l (i+1)=(prt l i).set (i / 8) (x ||| 128 / 2 ^ (i % 8)):=by
 rw[IM l i (i / 8) (by omega)]at hx;simp at hx;subst hx;apply aG6;intro k;by_cases hk:k<252
 ·rw[IM l (i+1) k hk,List.getElem?_set];by_cases e:i / 8=k
  ·subst e;rw[if_pos rfl,if_pos (by rw[EZ];omega),BN l i _ h (by omega) (by omega),aA6 _ (lI _ _ _) _ (by omega)];congr 3;omega
  ·rw[if_neg e,IM l i k hk,AC l i _ (by omega)]
 ·rw[aC7 (by rw[EZ];omega),aC7 (by simp[EZ];omega)]
theorem QY(l:List Bool):prt l 0=List.replicate 252 0:=by
 unfold prt dE;rw[List.take_zero];decide +kernel
theorem YY(l:List Bool):prt l l.length=dE l 0 252:=by unfold prt;rw[aE3]
theorem Tryz.zeroBody:Tryz.zeroCells176=(valsB (List.replicate 252 0)).toArray:=by kernel_rfl
theorem U5(l:List Nat)(i x:Nat):(valsB (l.set i x)).toArray=(valsB l).toArray.setIfInBounds i (.int .u8 (x:Int)):=by
 simp[valsB,List.map_set]
theorem u8_or_nat(a b:Nat)(ha:a<256)(hb:b<256):bits .or .u8 (a:Int) (b:Int)=((a ||| b:Nat):Int):=by
 have hx:a ||| b<2 ^ 8:=Nat.or_lt_two_pow (by omega) (by omega);show IntKind.u8.wrap ((BitVec.ofInt 8 (a:Int) ||| BitVec.ofInt 8 (b:Int)).toNat:Int)=_;rw[BitVec.toNat_or];have e1:(BitVec.ofInt 8 (a:Int)).toNat=a:=by simp;omega
 have e2:(BitVec.ofInt 8 (b:Int)).toNat=b:=by simp;omega
 rw[e1,e2,IntKind.wrap_u8];omega
theorem MS(l:List Bool)(hl:l.length<=2016)(w:World):
 Calls Tryz.prog 85 #[.string (txt l)] w fun e w'=>e = .returned (.agg (valsB (dE l 0 252)).toArray)/\Below w.heap.size w w':=by
 have hts:=bE l;go_enter Tryz.func85,Tryz.ntmps85
 go_wp2;go_loopw [7] (fun si wr=>∃ i:Nat,i<=l.length/\si = .int .i64 (i:Int)/\Hid (wr.heap[w.heap.size]?=some (.cells Tryz.zeroCells176 176 (0,0))/\wr.heap[w.heap.size+1]?=some (.cells (valsB (prt l i)).toArray 176 (0,0))/\Below w.heap.size w wr)) (fun si _=>l.length-(intOf si).toNat)
 case atStart=>exact⟨0,aC6 _,rfl,by
  refine⟨heap_alloc2_old _ _ _,?_,jJ _ _ _⟩;rw[QY,<-Tryz.zeroBody];exact heap_alloc2_new _ _ _⟩
 case round =>
  obtain⟨i,hi,rfl,HI⟩:=hrel;by_cases hlt:i<l.length
  ·have hiz:i<(txt l).size:=by omega
   have cD:=IK l i hiz;have hizI:(i:Int)<((txt l).size:Int):=by omega
   cases hbit:l.getD i false
   ·rw[hbit]at cD;have cS:((txt l)[i].toNat:Int)=48:=by rw[cD];rfl
    have HN:Hid (prt l (i+1)=prt l i):=TR l i hbit;clear cD hbit;go_wp2;go_roundw;case rel=>exact⟨i+1,by omega,by go_num,by rw[HN.out];exact HI.out⟩
    case measure=>simp[intOf];omega
   ·rw[hbit]at cD;have cS:((txt l)[i].toNat:Int)=49:=by rw[cD];rfl
    obtain⟨x,hx⟩:∃ x,(prt l i)[i / 8]?=some x:=⟨_,IM l i (i / 8) (by omega)⟩;have hxb:x<256:=sI _ _ _ _ (aC3 hx);have HN:Hid _:=XF l i x hbit hx (by omega);have a5:wr.drew.cell? ⟨w.heap.size+1,i / 8,none⟩=some (.int .u8 (x:Int)):=by
     rw[cell_of_row wr.drew _ _ _ _ _ HI.out.2.1];simp[valsB,hx]
    have bW:wr.drew.frozen? ⟨w.heap.size+1,i / 8,none⟩=false:=frozen_of_row wr.drew _ _ _ _ HI.out.2.1;clear cD hbit hx;have h8:(i:Int) / 8<252:=by omega
    have hp7:128 / 2 ^ (i % 8)<256:=by
     have:=Nat.div_le_self 128 (2 ^ (i % 8));omega
    have HO:Hid (bits BinOp.or IntKind.u8 (x:Int) (128 / 2 ^ (i % 8))=((x ||| 128 / 2 ^ (i % 8):Nat):Int)):=(by
     rw[<-u8_or_nat x _ hxb hp7];congr 1:_=_)
    go_wp2;go_region;rw[HO.out];have HI2:Hid _:=heap_setCell_same wr.drew (w.heap.size+1) (i / 8) _ _ (.int .u8 ((x ||| 128 / 2 ^ (i % 8):Nat):Int)) HI.out.2.1;have HI3:Hid _:=heap_setCell_other wr.drew ⟨w.heap.size+1,i / 8,none⟩ w.heap.size (.int .u8 ((x ||| 128 / 2 ^ (i % 8):Nat):Int)) (by simp);have cM:Hid _:=(HI.out.2.2.drew).setCell (p:=⟨w.heap.size+1,i / 8,none⟩) (by simp) (.int .u8 ((x ||| 128 / 2 ^ (i % 8):Nat):Int));clear a5 bW;go_wp2;go_roundw;case rel =>
     have h3:=HI2.out;rw[<-U5,<-HN.out]at h3;exact⟨i+1,by omega,by go_num,HI3.out.trans HI.out.1,h3,cM.out⟩
    case measure=>simp[intOf];omega
  ·obtain rfl:i=l.length:=by omega
   have h2:=HI.out.2.1;rw[YY]at h2;have HR:Hid _:=h2;have hsz:(valsB (dE l 0 252)).toArray.size=252:=by simp[valsB,bR]
   clear h2;go_wp2_with fail
   refine wp_load_row 176 _ rfl (w.heap.size+1) rfl _ _ _ _ HR.out Tryz.underlying176 rfl (by rw[Tryz.infoBody,hsz]) ?_;go_wp2_with fail
   rw[lQ wr w.heap.size _ (valsB (dE l 0 252)) 176 HI.out.1 (by rw[Tryz.zeroCells176_size];simp[valsB,bR]) (iA _)];go_wp2;refine bodyPost_ret (results_cell_row rfl _ _ w.heap.size 176 _ (0,0) _ rfl (setRow_heap _ _ _ _ _ _ HI.out.1) Tryz.underlying176 rfl (by rw[Tryz.infoBody,hsz])) rfl ?_;exact⟨rfl,below_setRow HI.out.2.2 (V7 _) _⟩
end Go.Proofs.YtphjbbbnbmafnaaGreatDoor.G
namespace Go.Proofs.YtphjbbbnbmafnaaGreatDoor.G
open Go.RowKit Gm
def eF(l:List Gm.E3):Nat->List Bool
 | 0=>[]
 | u+1=>eF l u++(List.replicate (ah l (u+1)-ah l u) true++[false])
theorem iK(l:List Gm.E3)(h:ah l 0=0)(u:Nat):(eF l u).length=ah l u+u:=by
 induction u with
 | zero=>rw[h];rfl
 | succ u ih =>
  have:=Y4 l (show u<=u+1 by omega);show(eF l u++_).length=_;rw[WT,ih];simp;omega
def nums(k:Nat)(l:List Nat):List Bool:=l.flatMap (dD k)
theorem jP(k:Nat)(l:List Nat):(nums k l).length=k*l.length:=by
 induction l with
 | nil=>rfl
 | cons a l ih=>unfold nums at *;rw[List.flatMap_cons,WT,ih,aU,aE7,Nat.mul_add];omega
theorem BX(k:Nat)(l:List Nat)(a:Nat):nums k (l++[a])=nums k l++dD k a:=by unfold nums;simp
def aM(l:List Gm.E3):List Nat:=l.map fun e=>e.2.1.toNat
def tos(l:List Gm.E3):List Nat:=l.map fun e=>e.2.2.toNat
def dG(n s:Nat)(l:List Gm.E3):List Bool :=
 dD 14 n++dD 5 s++dD 15 l.length++eF l n++nums (wid (s-1)) (aM l)++nums (wid (n-1)) (tos l)
theorem l7(n s:Nat)(l:List Gm.E3)(h0:ah l 0=0)(hn:ah l n=l.length):(dG n s l).length=34+n+l.length+wid (s-1)*l.length+wid (n-1)*l.length:=by
 unfold dG;simp only[WT,aU,jP,iK l h0,hn,aM,tos,aH6];omega
def bK(k:Nat):Nat:=(k+2015) / 2016
def str(l:List Nat):ByteArray:=⟨(l.map UInt8.ofNat).toArray⟩
theorem VM(l:List Nat):(str l).size=l.length:=by simp[str,ByteArray.size]
def image(l:List Bool):ByteArray:=str (eQ l (bK l.length))
theorem xI(l:List Bool):(image l).size=256*bK l.length:=by
 unfold image;rw[VM,gK]
def built(n s:Nat)(l:List Gm.E3):ByteArray:=image (dG n s (TM l))
theorem XV(l m:List Bool)(a k:Nat)(h:∀ i,l.getD i false=m.getD i false):sub l a k=sub m a k:=by
 unfold sub;exact aF2 (fun i _=>h _)
theorem KS(l m:List Bool)(n:Nat)(h:∀ i,l.getD i false=m.getD i false):eQ l n=eQ m n:=by
 have hp:∀ p i,dE l p i=dE m p i:=fun p i=>by
  unfold dE;exact aF2 (fun k _=>by rw[XV l m _ _ h])
 have hw:∀ p,whole l p=whole m p:=fun p=>by unfold whole;rw[hp]
 unfold eQ;rw[show whole l=whole m from funext hw]
theorem VY(l:List Bool)(k i:Nat):(l++List.replicate k false).getD i false=l.getD i false:=by
 simp only[aC1];by_cases h:i<l.length
 ·rw[aD4 h]
 ·rw[aC8 (by omega),aC7 (by omega:l.length<=i),aE9];split <;> rfl
end Go.Proofs.YtphjbbbnbmafnaaGreatDoor.G
namespace Go.Proofs.YtphjbbbnbmafnaaGreatDoor.OpenE
open Go.ChangeShapes Go.WideShapes Go.ChangeAt Go.RowKit
theorem own:ownKnob Tryz.prog.godebug=none:=by kernel_rfl
theorem laidOut:laidOutB Tryz.prog=true:=by kernel_rfl
theorem cellsE:Tryz.prog.cellsOf 38=3:=by kernel_rfl
theorem cellsI:Tryz.prog.cellsOf 3=1:=by kernel_rfl
theorem WO:Tryz.prog.bytesOf 38=24:=by kernel_rfl
theorem some_at{α:Type}{l:List α}{n i:Nat}(h:l.length=n)(hi:i<n):∃ y,l[i]?=some y:=⟨l[i]'(by omega),by simp[h,hi]⟩
section
variable {H:Type} {enc:TypeId×Value->H} {w:World} {base:Nat} {spare:Nat->Bool} {held:Bool} {fuel:Nat}
theorem three{cs:List Value}(h:cs.length=3):∃ c0 c1 c2,cs=[c0,c1,c2]:=by
 match cs,h with
 | [c0,c1,c2],_=>exact⟨c0,c1,c2,rfl⟩
theorem BG{cs:List Value}{x:DataW H×List MemPlace}(h:DataW.trod enc Tryz.prog w base spare held fuel 38 cs=some x):∃ a0 a1 a2:Int,cs=[.int .i64 a0,.int .i64 a1,.int .i64 a2]:=by
 obtain⟨xs,n,rfl,rfl,hl,hxl,hf⟩:=DataW.trod_struct Tryz.underlying38 h;rw[cellsE]at hl;obtain⟨c0,c1,c2,rfl⟩:=three hl;have hxl3:xs.length=3:=hxl;obtain⟨y0,hy0⟩:=some_at hxl3 (show 0<3 by decide);obtain⟨y1,hy1⟩:=some_at hxl3 (show 1<3 by decide);obtain⟨y2,hy2⟩:=some_at hxl3 (show 2<3 by decide);have h0 := (hf 0 { name := "From", type := 3, offset := 0, embedded := false, tag := "", pkgPath := "", byteOffset := 0 } (by simp)).trans hy0;have h1 := (hf 1 { name := "Label", type := 3, offset := 1, embedded := false, tag := "", pkgPath := "", byteOffset := 8 } (by simp)).trans hy1;have h2 := (hf 2 { name := "To", type := 3, offset := 2, embedded := false, tag := "", pkgPath := "", byteOffset := 16 } (by simp)).trans hy2;simp only[cellsI,List.drop_zero,List.drop_succ_cons,List.take_succ_cons,List.take_zero]at h0 h1 h2;obtain⟨a0,e0,_⟩:=DataW.trod_int Tryz.underlying3 h0;obtain⟨a1,e1,_⟩:=DataW.trod_int Tryz.underlying3 h1;obtain⟨a2,e2,_⟩:=DataW.trod_int Tryz.underlying3 h2;simp only[List.cons.injEq,and_true]at e0 e1 e2;subst e0 e1 e2;exact⟨a0,a1,a2,rfl⟩
end
def asI:Option Value->Int
 | some (.int _ n)=>n
 | _=>0
theorem JP{H:Type}{enc:TypeId×Value->H}{W:World}{a0:Option Addr}{len cap fuel:Nat}{x:DataW H×List MemPlace}(hf:DataW.trod enc Tryz.prog W 0 (fun _=>true) true fuel 24 [.slice a0 len cap]=some x):
 ∃ l:List G.E3,l.length=len/\G.aI W (.slice a0 len cap) l/\len<=cap/\(len=0\/∃ elems spare,x.1 = .slice elems spare/\elems.length=len):=by
 rcases Deep.open_slice Tryz.underlying24 hf with ⟨a7,_⟩ | ⟨a,l,c,m,n,D,Pl,a7,_,hl,hm,hmm,hd,hx⟩
 ·simp only[aK0,Value.slice.injEq,and_true]at a7;obtain⟨rfl,rfl,rfl⟩:=a7;exact⟨[],rfl,⟨none,0,rfl,fun j e hj=>by cases hj⟩,V7 _,.inl rfl⟩
 ·simp only[aK0,Value.slice.injEq,and_true]at a7;obtain⟨rfl,rfl,rfl⟩:=a7;simp only[if_true]at hmm;subst hmm;refine⟨(List.range len).map fun i=>(asI (W.cell? (a.add (i*3))),asI (W.cell? ((a.add (i*3)).add 1)),asI (W.cell? ((a.add (i*3)).add 2))),by simp,?_,hl,.inr ⟨_,_,by rw[hd],by simp⟩⟩;refine⟨some a,m,by simp,fun j e hj => ?_⟩;have hjl:j<len:=by
   have:=(aC4.1 hj).1;simpa using this
  rw[aD0,aI7 hjl]at hj;simp only[aH9,aC5]at hj;subst hj;rw[cellsE]at hx;obtain⟨cs,h1,h2⟩:=hx j (by omega);obtain⟨_,h4,h5⟩:=World.cells?_some h1;obtain⟨b0,b1,b2,rfl⟩:=BG h2;have k0:=h5 0 (by decide);have k1:=h5 1 (by decide);have k2:=h5 2 (by decide);obtain⟨b,off,spot⟩:=a;have cI:spot=none:=by
   obtain⟨cs0,g1,g2⟩:=hx 0 (by omega);obtain⟨_,g4,g5⟩:=World.cells?_some g1;obtain⟨_,_,_,rfl⟩:=BG g2;have:=g5 0 (by decide);simpa[Addr.add]using World.cell?_spot this
  subst cI;refine⟨b,off,rfl,?_⟩;rw[G.addr_add]at k0 k1 k2;rw[G.addr_add]at k0 k1 k2;simp only[G.addr_add];simp only[Nat.add_zero]at k0;rw[k0,k1,k2];exact⟨rfl,rfl,rfl⟩
end Go.Proofs.YtphjbbbnbmafnaaGreatDoor.OpenE
namespace Go.Proofs.YtphjbbbnbmafnaaGreatDoor.G
open Go.RowKit Go.Lib
abbrev Free(cap:Nat)(fz:Nat×Nat):Prop:=∀ j,j<cap->¬(fz.1<=j/\j<fz.2)
def vR(w:World)(base:Nat)(e:TypeId)(v:Value)(xs:List Value):Prop :=
 ∃ g cap a3 fz,v = .slice (some ⟨g,0,none⟩) xs.length cap/\base<=g/\w.heap[g]?=some (.cells a3 e fz)/\Free cap fz/\xs.length<=cap/\cap<=maxLen/\a3.size=cap/\a3.toList.take xs.length=xs
theorem uL(P:Program)(g o:Nat)(t:TypeId)(fz:Nat×Nat):∀(vs:List Value) (i:Nat) (a3:Array Value) (w:World),w.heap[g]?=some (.cells a3 t fz)->Free a3.size fz->o+i+vs.length<=a3.size->(∀ v∈vs,v.oneCell'=true) ->
 (storeCells ⟨g,o,none⟩ vs i).run P w = .ok () (w.setRow g (a3.toList.take (o+i)++vs++a3.toList.drop (o+i+vs.length)).toArray)
 | [],i,a3,w,hg,_,_,_=>by
  simp only[storeCells,aE4,aI3,Nat.add_zero,aD5,Array.toArray_toList];rw[setRow_self w g a3 t fz hg];rfl
 | v::rest,i,a3,w,hg,aE,hl,h1=>by
  have hi:o+i<a3.size:=by simp at hl;omega
  have a5:w.cell? ⟨g,o+i,none⟩=some a3[o+i]:=by rw[cell_of_row w g (o+i) a3 t fz hg,aE2 hi]
  have bW:w.frozen? ⟨g,o+i,none⟩=false:=by
   have hf:=aE (o+i) hi;obtain⟨lo,hi'⟩:=fz;simp only[World.frozen?,hg,aK4,decide_eq_false_iff_not];simp only at hf;omega
  have c8:(store ((⟨g,o,none⟩:Addr).add i) v).run P w = .ok () (w.setRow g (a3.setIfInBounds (o+i) v)):=by
   rw[addr_add,run_store P w _ v _ (h1 v (by simp)),a5];simp[bW,setCell_eq_setRow w g (o+i) a3 t fz v hg]
  have ih:=uL P g o t fz rest (i+1) (a3.setIfInBounds (o+i) v) (w.setRow g (a3.setIfInBounds (o+i) v)) (setRow_heap w g a3 _ t _ hg) (by simpa using aE) (by simp at hl ⊢;omega) (fun x hx=>h1 x (by simp[hx]));simp only[storeCells,Sem.run_bind,c8,aJ8,ih,setRow_setRow];congr 3;have e:=list_seg_step a3.toList (o+i) v rest (by simp at hl ⊢;omega);simpa[Array.toList_setIfInBounds,Nat.add_assoc]using e
section
variable {P:Program} (w:World)
theorem OW{w:World}{o:Obj}{i:Nat}(h:i<w.heap.size):(w.alloc o).heap[i]?=w.heap[i]?:=by
 show(w.heap.push o)[i]?=w.heap[i]?;rw[aF3,if_neg (Nat.ne_of_lt h)]
theorem qV{e:TypeId}{g n:Nat}{xs:List Value}{w:World}{a3:Array Value}{fz:Nat×Nat}(hg:w.heap[g]?=some (.cells a3 e fz))(ht:a3.toList.take n=xs)(j:Nat)(u:Value)(hu:xs[j]?=some u):w.cell? ((⟨g,0,none⟩:Addr).add j)=some u:=by
 rw[addr_add,aG1,cell_of_row w g j a3 e fz hg];rw[<-ht,List.getElem?_take]at hu;split at hu
 ·simpa using hu
 ·cases hu
theorem DY{base:Nat}{e:TypeId}{xs news:List Value}{cap:Nat}(hbase:base<=w.heap.size)(cJ:xs.length+news.length<=cap)(aL:cap<=maxLen):vR (w.drew.alloc (.cells (xs.toArray++news.toArray++Builtin.zeroCells (Value.int IntKind.u8 0).cells (cap-(xs.length+news.length))) e)) base e (.slice (some ⟨w.heap.size,0,none⟩) (xs.length+news.length) cap) (xs++news):=by
 refine⟨w.heap.size,cap,_,(0,0),by rw[WT],hbase,heap_alloc_new w.drew _,fun j _ h=>by simp at h,by rw[WT];exact cJ,aL,?_,?_⟩
 ·have hz1:(Value.int IntKind.u8 0).cells.size=1:=rfl;simp only[Array.size_append,aL4,size_zeroCells,hz1];omega
 ·simp only[Array.toList_append,aD3];rw[<-aD3];exact List.take_left
theorem GV{base:Nat}{e:TypeId}{xs news:List Value}{g cap:Nat}{a3:Array Value}{fz:Nat×Nat}(a9:base<=g)(hg:w.heap[g]?=some (.cells a3 e fz))(aE:Free cap fz)(hroom:xs.length+news.length<=cap)(aL:cap<=maxLen)(a7:a3.size=cap)(ht:a3.toList.take xs.length=xs):
 vR (w.setRow g (a3.toList.take xs.length++news++a3.toList.drop (xs.length+news.length)).toArray) base e (.slice (some ⟨g,0,none⟩) (xs.length+news.length) cap) (xs++news):=by
 refine⟨g,cap,_,fz,by rw[WT],a9,setRow_heap w g a3 _ e _ hg,aE,by rw[WT];exact hroom,aL,?_,?_⟩
 ·simp only[aL4,WT,aD7,aE1,Array.length_toList];omega
 ·rw[ht];exact List.take_left
theorem XW(base:Nat)(t u ty e:TypeId)(i:TypeInfo)(ht:P.underlying t=some (.slice e))(hu:P.underlying u=some .string)(hi:P.info? e=some i)(hz:i.zero=some (.int .u8 0))(hsize:i.size=1)(hby:i.bytes=1)
 (v:Value) (xs:List Value) (hown:vR w base e v xs) (s:ByteArray) (h63:xs.length+s.size<=maxLen) (hbytes:xs.length+s.size<=140737488355328) (hbase:base<=w.heap.size) :
 ∃ v' w',(Builtin.append_ #[t,u] ty #[v,.string s]).run P w = .ok v' w'/\vR w' base e v' (xs++strCells s)/\w.grownBy w' v.ownBlock:=by
 obtain⟨g,cap,a3,fz,rfl,a9,hg,aE,hnc,aL,a7,a4⟩:=hown;have bX:=strCells_length s;by_cases hroom:xs.length+s.size<=cap
 ·have hf:=run_firstCells_string (P:=P) w 1 s;have c8:=uL P g xs.length e fz (strCells s) 0 a3 w hg (by rw[a7];exact aE) (by rw[bX];omega) (strCells_oneCell s);simp only[Nat.add_zero,bX]at c8;refine⟨.slice (some ⟨g,0,none⟩) (xs.length+s.size) cap,w.setRow g (a3.toList.take xs.length++strCells s++a3.toList.drop (xs.length+s.size)).toArray,?_,by have h:=GV w (news:=strCells s) a9 hg aE (by omega) aL a7 a4;rw[bX]at h;exact h,⟨rfl,rfl,rfl,by simp,fun k _ hk=>setRow_other w g k _ (fun e=>hk (by simp[Value.ownBlock,e]))⟩⟩;simp[Builtin.append_,run_underlying ht,run_underlying hu,sizeOf,typeInfo,hi,hsize,Builtin.lenOf,hroom,hf,Addr.add_lit,c8]
 ·have c7:xs.length+s.size<=9223372036854775807:=by simp only[maxLen]at h63;omega
  have hr:=run_append_grow_string (P:=P) w t u ty e i (.int .u8 0) ht hu hi hz ⟨g,0,none⟩ xs.length cap xs (by rw[hsize];omega) (qV hg a4) s (by omega) (by omega) (by rw[hby];exact growslice_fits (by omega) (by omega));have cJ:=grownCap_ge w (xs.length+s.size) cap e;have b8:grownCap w (xs.length+s.size) cap e<=maxLen:=grownCap_le_maxLen w (xs.length+s.size) cap e h63;refine⟨_,_,hr,?_,⟨rfl,rfl,rfl,by simp,fun k hk _=>OW (w:=w.drew) hk⟩⟩;have h:=DY w (base:=base) (e:=e) (xs:=xs) (news:=strCells s) (cap:=grownCap w (xs.length+s.size) cap e) hbase (by omega) b8;rw[bX]at h;exact h
theorem aB6(base:Nat)(t ty e:TypeId)(i:TypeInfo)(ht:P.underlying t=some (.slice e))(hi:P.info? e=some i)(hz:i.zero=some (.int .u8 0))(hsize:i.size=1)(hby:i.bytes=1)
 (v:Value) (xs:List Value) (hown:vR w base e v xs) (a:Addr) (m c:Nat) (news:List Value) (hl:news.length=m) (hnews:∀ j u,news[j]?=some u->w.cell? (a.add j)=some u) (h1:∀ u∈news,u.oneCell'=true)
 (h63:xs.length+m<=maxLen) (hbytes:xs.length+m<=140737488355328) (hbase:base<=w.heap.size) :
 ∃ v' w',(Builtin.append_ #[t,t] ty #[v,.slice (some a) m c]).run P w = .ok v' w'/\vR w' base e v' (xs++news)/\w.grownBy w' v.ownBlock:=by
 obtain⟨g,cap,a3,fz,rfl,a9,hg,aE,hnc,aL,a7,a4⟩:=hown;subst hl;by_cases hroom:xs.length+news.length<=cap
 ·have hf:=run_firstCells_some (P:=P) w i.size news.length a news.length c news (by rw[hsize];omega) hnews;have c8:=uL P g xs.length e fz news 0 a3 w hg (by rw[a7];exact aE) (by omega) h1;simp only[Nat.add_zero]at c8;refine⟨.slice (some ⟨g,0,none⟩) (xs.length+news.length) cap,w.setRow g (a3.toList.take xs.length++news++a3.toList.drop (xs.length+news.length)).toArray,?_,GV w (news:=news) a9 hg aE (by omega) aL a7 a4,⟨rfl,rfl,rfl,by simp,fun k _ hk=>setRow_other w g k _ (fun e=>hk (by simp[Value.ownBlock,e]))⟩⟩;rw[hsize]at hf;simp[Builtin.append_,run_underlying ht,sizeOf,typeInfo,hi,hsize,Builtin.lenOf,hroom,hf,Addr.add_lit,c8]
 ·have c7:xs.length+news.length<=9223372036854775807:=by simp only[maxLen]at h63;omega
  have hr:=run_append_grow (P:=P) w t ty e i (.int .u8 0) ht hi hz ⟨g,0,none⟩ xs.length cap xs (by rw[hsize];omega) (qV hg a4) a news.length c news (by rw[hsize];omega) hnews (by omega) (by omega) (by rw[hby];exact growslice_fits (by omega) (by omega));have cJ:=grownCap_ge w (xs.length+news.length) cap e;have b8:grownCap w (xs.length+news.length) cap e<=maxLen:=grownCap_le_maxLen w (xs.length+news.length) cap e h63;exact⟨_,_,hr,DY w (base:=base) (e:=e) (xs:=xs) (news:=news) (cap:=grownCap w (xs.length+news.length) cap e) hbase cJ b8,⟨rfl,rfl,rfl,by simp,fun k hk _=>OW (w:=w.drew) hk⟩⟩
theorem nR{ops:Array Oper}{rest:List Oper}{o:Oper}{a:Act}{Q:Exit->Act->World->Prop}(hgd:o.guard=none)(sl x:Operand)(t u:TypeId)
 (ho:o.op = .call { callee:=.builtin .append,args:=#[sl,x],argTypes:=#[t,u] }) (base:Nat) (e:TypeId) (i:TypeInfo) (ht:P.underlying t=some (.slice e)) (hu:P.underlying u=some .string) (hi:P.info? e=some i) (hz:i.zero=some (.int .u8 0)) (hsize:i.size=1) (hby:i.bytes=1)
 (v:Value) (xs:List Value) (hs:a.eval sl=v) (hown:vR w base e v xs) (s:ByteArray) (hx:a.eval x = .string s) (h63:xs.length+s.size<=maxLen) (hbytes:xs.length+s.size<=140737488355328) (hbase:base<=w.heap.size)
 (h:∀ v' w',vR w' base e v' (xs++strCells s)->w.grownBy w' v.ownBlock->wpList P ops Q rest (a.put o.dst v') w'):wpList P ops Q (o::rest) a w:=by
 refine wpList_plain hgd fun K hK => ?_;obtain⟨v',w',hr,h2,h3⟩:=XW (P:=P) w base t u o.type e i ht hu hi hz hsize hby v xs hown s h63 hbytes hbase;unfold Oper.wp execOp;simp only[ho,resolve,invoke,builtin,Sem.run_bind,Sem.run_pure,aJ8,List.map_toArray,aJ4,List.map_nil,hs,hx,hr];exact hK _ _ (h v' w' h2 h3)
theorem iL{ops:Array Oper}{rest:List Oper}{o:Oper}{a:Act}{Q:Exit->Act->World->Prop}(hgd:o.guard=none)(sl x:Operand)(t:TypeId)
 (ho:o.op = .call { callee:=.builtin .append,args:=#[sl,x],argTypes:=#[t,t] }) (base:Nat) (e:TypeId) (i:TypeInfo) (ht:P.underlying t=some (.slice e)) (hi:P.info? e=some i) (hz:i.zero=some (.int .u8 0)) (hsize:i.size=1) (hby:i.bytes=1)
 (v:Value) (xs:List Value) (hs:a.eval sl=v) (hown:vR w base e v xs) (ad:Addr) (m c:Nat) (news:List Value) (hx:a.eval x = .slice (some ad) m c) (hl:news.length=m) (hnews:∀ j u,news[j]?=some u->w.cell? (ad.add j)=some u) (h1:∀ u∈news,u.oneCell'=true) (h63:xs.length+m<=maxLen) (hbytes:xs.length+m<=140737488355328) (hbase:base<=w.heap.size)
 (h:∀ v' w',vR w' base e v' (xs++news)->w.grownBy w' v.ownBlock->wpList P ops Q rest (a.put o.dst v') w'):wpList P ops Q (o::rest) a w:=by
 refine wpList_plain hgd fun K hK => ?_;obtain⟨v',w',hr,h2,h3⟩:=aB6 (P:=P) w base t o.type e i ht hi hz hsize hby v xs hown ad m c news hl hnews h1 h63 hbytes hbase;unfold Oper.wp execOp;simp only[ho,resolve,invoke,builtin,Sem.run_bind,Sem.run_pure,aJ8,List.map_toArray,aJ4,List.map_nil,hs,hx,hr];exact hK _ _ (h v' w' h2 h3)
end
theorem vR.alloc{w:World}{base:Nat}{e:TypeId}{v:Value}{xs:List Value}(h:vR w base e v xs)(o:Obj):vR (w.alloc o) base e v xs:=by
 obtain⟨g,cap,a3,fz,rfl,a9,hg,r⟩:=h;exact⟨g,cap,a3,fz,rfl,a9,by rw[OW (aC2.1 hg).1];exact hg,r⟩
theorem vR.below{w w':World}{base:Nat}{e:TypeId}{v:Value}{xs:List Value}(h:vR w base e v xs)(hB:Below w.heap.size w w'):vR w' base e v xs:=by
 obtain⟨g,cap,a3,fz,rfl,a9,hg,r⟩:=h;exact⟨g,cap,a3,fz,rfl,a9,by rw[hB.block g (aC2.1 hg).1];exact hg,r⟩
theorem vR.lt{w:World}{base:Nat}{e:TypeId}{v:Value}{xs:List Value}(h:vR w base e v xs)(k:Nat)(hk:v.ownBlock=some k):base<=k:=by
 obtain⟨g,cap,a3,fz,rfl,a9,_⟩:=h;have:g=k:=by simpa[Value.ownBlock]using hk
 omega
end Go.Proofs.YtphjbbbnbmafnaaGreatDoor.G
