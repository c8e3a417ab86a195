/- Parts: LentE Blt Blds Swp Ins. -/
import Derived.Test.YtphjbbbnbmafnaaGreatDoorRBuild
import Derived.Test.YtphjbbbnbmafnaaGreatDoorPEdg
import Derived.Test.YtphjbbbnbmafnaaGreatDoorInOrd
import Derived.BigQuiet
import Derived.BigRegion
import Derived.Test.YtphjbbbnbmafnaaGreatDoorExt
set_option maxHeartbeats 8000000
set_option maxRecDepth 100000
namespace Go.Proofs.YtphjbbbnbmafnaaGreatDoor.G
open Go.RowKit
variable {W W':World} {cap g i:Nat} {L l:List E3} {x:E3}
def kG(l:List E3):List E3:=l++List.replicate 8 (77,78,79)
theorem pW(l:List E3):(kG l).length=l.length+8:=by simp[kG]
theorem KW{off:Nat}(h:∀(j:Nat) (e:E3),l[j]?=some e->W.cell? ⟨g,off+j*3,none⟩=some (.int .i64 e.1)/\W.cell? ⟨g,off+j*3+1,none⟩=some (.int .i64 e.2.1)/\W.cell? ⟨g,off+j*3+2,none⟩=some (.int .i64 e.2.2))(t:Nat)(u:Value)(hu:(flat l)[t]?=some u):W.cell? ((⟨g,off,none⟩:Addr).add t)=some u:=by
 rw[DC];have ht:t<l.length*3:=by
  have:=(aC4.1 hu).1;rwa [bM]at this
 obtain⟨e,he⟩:∃ e,l[t / 3]?=some e:=⟨_,A7 (by omega)⟩;obtain⟨h0,h1,h2⟩:=h (t / 3) e he;obtain⟨k0,k1,k2⟩:=iQ he;rcases(show t % 3=0\/t % 3=1\/t % 3=2 by omega)with r | r | r
 ·rw[show t=t / 3*3 by omega,k0]at hu;cases hu;rw[show off+t=off+t / 3*3 by omega];exact h0
 ·rw[show t=t / 3*3+1 by omega,k1]at hu;cases hu;rw[show off+t=off+t / 3*3+1 by omega];exact h1
 ·rw[show t=t / 3*3+2 by omega,k2]at hu;cases hu;rw[show off+t=off+t / 3*3+2 by omega];exact h2
theorem VT(l:List E3)(u:Value)(h:u∈flat l):u.oneCell'=true:=by
 unfold flat at h;obtain⟨e,_,h⟩:=List.mem_flatMap.1 h;exact ED _ _ _ u h
theorem copyE(W:World)(g dLen dCap:Nat)(a1:Array Value)(t ty:TypeId)(hg:W.heap[g]?=some (.cells a1 t (0,0)))(v:Value)(l:List E3)(he:aI W v l)(hl:l.length<=dLen)(hfit:l.length*3<=a1.size):
 (Builtin.copy_ #[24,24] ty #[.slice (some ⟨g,0,none⟩) dLen dCap,v]).run Tryz.prog W = .ok (goInt l.length) (W.setRow g (flat l++a1.toList.drop (l.length*3)).toArray):=by
 obtain⟨i0,hi,_,cX,_⟩:=info_parts Tryz.infoE;obtain⟨a0,cap,rfl,aG⟩:=he;have bW:Nat.min l.length dLen=l.length:=aI0 hl;cases l with
 | nil =>
  cases a0 <;> simp[Builtin.copy_,run_underlying Tryz.underlying24,Builtin.lenOf,Builtin.firstCells,sizeOf,typeInfo,hi,loadCells,loadCellsFrom,storeCells,flat,setRow_self W g a1 t (0,0) hg]
 | cons z zs =>
  obtain⟨g2,off,rfl,_⟩:=aG 0 z rfl;have c7:=KW (W:=W) (g:=g2) (off:=off) (l:=z::zs) (fun j e hj=>by
   obtain⟨g3,off3,e3,r⟩:=aG j e hj;cases e3;exact r)
  have cE:=run_loadCells_list (P:=Tryz.prog) W ⟨g2,off,none⟩ (flat (z::zs)) c7;have a5:=run_storeCells_at Tryz.prog g 0 t (flat (z::zs)) 0 a1 W hg (by rw[bM];omega) (VT _);simp only[Nat.add_zero,aG1,List.take_zero,aJ2]at a5;rw[bM]at cE a5;have hnz:(z::zs).length≠0:=by simp
  clear c7 aG;generalize (z::zs).length=M at hl hfit bW cE a5 hnz ⊢;generalize flat (z::zs)=F at cE a5 ⊢;simp[Builtin.copy_,run_underlying Tryz.underlying24,Builtin.lenOf,Builtin.firstCells,sizeOf,typeInfo,hi,cX,bW,cE,a5]
theorem NW(n:Nat):(madeCells (Value.agg #[.int .i64 0,.int .i64 0,.int .i64 0]).cells (n*3)).toList=flat (List.replicate n (0,0,0)):=by
 apply aG6;intro t;by_cases h:t<n*3
 ·rw[qO _ t (by simpa using h)];have h3:t % 3<3:=Nat.mod_lt _ (by decide);have hr:(List.replicate n ((0,0,0):E3))[t / 3]! = (0,0,0):=by
   rw[getElem!_pos _ _ (by simp;omega)];simp
  rw[hr];rcases(show t % 3=0\/t % 3=1\/t % 3=2 by omega)with e | e | e <;> simp[madeCells,Value.cells,h,e,vS]
 ·rw[aC7 (by simp[size_madeCells];omega),aC7 (by rw[bM];simp;omega)]
theorem TN(l:List E3)(i:Nat)(L:List E3)(hi:l.length<=i)(hi2:i<l.length+8)(hl:L.length=l.length+8)(h:L.take i=(kG l).take i):(L.set i (77,78,79)).take (i+1)=(kG l).take (i+1):=by
 have hf:(kG l)[i]?=some (77,78,79):=by
  unfold kG;rw[aC8 hi,aE9,if_pos (by omega)]
 rw[take_snoc' hf,take_snoc' (show(L.set i (77,78,79))[i]?=some (77,78,79) by rw[aE5 (by omega)]),List.take_set,List.set_eq_of_length_le (by simp;omega),h]
theorem QO(l:List E3)(v:Value)(w:World)(he:aI w v l)(hlen:l.length*24<=140737488351232):
 Calls Tryz.prog 27 #[v] w fun e w'=>e = .returned (.slice (some ⟨w.heap.size,0,none⟩) (l.length+8) (l.length+8))/\aR w' w.heap.size (l.length+8) (kG l)/\Below w.heap.size w w':=by
 obtain⟨i0,hi,hz0,cX,hz2⟩:=info_parts Tryz.infoE;have cG:Hid _:=he;obtain⟨a0,cap,rfl,_⟩:=he;go_enter Tryz.func27,Tryz.ntmps27
 go_wp2_with (at_make;refine wpList_make_full _ rfl _ _ 24 rfl w.heap.size 38 i0 (.agg #[.int .i64 0,.int .i64 0,.int .i64 0]) 3 Tryz.underlying24 hi hz0 cX _ _ _ _ (l.length+8) rfl rfl (by omega) (by omega) (by rw[hz2];omega) (by unfold maxLen;omega) (V7 _) ?_)
 intro w1 hown hgrow;have cL:Below w.heap.size w w1:=(YQ _ _).grown hgrow (V7 _) (fun k hk=>by cases hk);obtain⟨g,c1,a1,hv,_,hg,_,_,cM,cN⟩:∃ g c1 a1,Value.slice (some ⟨w.heap.size,0,none⟩) (l.length+8) (l.length+8) = .slice (some ⟨g,0,none⟩) (l.length+8) c1/\w.heap.size<=g/\w1.heap[g]?=some (.cells a1 38 (0,0))/\l.length+8<=c1/\c1<=maxLen/\a1.size=c1*3/\a1.toList.take ((l.length+8)*3)=(madeCells (Value.agg #[.int .i64 0,.int .i64 0,.int .i64 0]).cells ((l.length+8)*3)).toList:=by
  rcases hown.2 with ⟨h0,_⟩ | h
  ·cases h0
  ·exact h
 simp only[Value.slice.injEq,aC5,Addr.mk.injEq,true_and,and_true]at hv;obtain⟨rfl,rfl⟩:=hv;have b7:=aI.below cG.out cL;have aE:aR (w1.setRow w.heap.size (flat l++a1.toList.drop (l.length*3)).toArray) w.heap.size (l.length+8) (l++List.replicate 8 (0,0,0)):=by
  refine⟨_,setRow_heap _ _ _ _ _ _ hg,?_,?_⟩
  ·simp[bM,cM];omega
  ·rw[NW]at cN;rw[WT,aH3,nZ];show(flat l++a1.toList.drop (l.length*3)).take ((l.length+8)*3)=_;rw[List.take_append,bM,aD2 (by rw[bM];omega)];congr 1;have h2:=congrArg (List.drop (l.length*3)) cN;rw[List.drop_take]at h2;rw[h2,show List.replicate (l.length+8) ((0,0,0):E3)=List.replicate l.length (0,0,0)++List.replicate 8 (0,0,0) by rw[List.replicate_append_replicate],nZ,List.drop_append_of_le_length (by rw[bM];simp),aH0 (by rw[bM];simp)];rfl
 have bS:Below w.heap.size w (w1.setRow w.heap.size (flat l++a1.toList.drop (l.length*3)).toArray):=below_setRow cL (V7 _) _;have b4:Hid _:=aE;have HBl:Hid _:=bS;have b3:Hid _:=copyE w1 w.heap.size (l.length+8) (l.length+8) a1 _ 3 hg _ l b7 (by omega) (by rw[cM];omega);generalize w1.setRow w.heap.size (flat l++a1.toList.drop (l.length*3)).toArray=W2 at b4 HBl b3;clear hown hgrow cL hg cN b7 aE bS cM;go_wp2_with fail
 rw[b3.out];clear b3;go_wp2;go_loopw [4] (fun si wr=>∃(i:Nat) (L:List E3),l.length<=i/\i<=l.length+8/\si = .int .i64 (i:Int)/\Hid (L.length=l.length+8/\L.take i=(kG l).take i/\aR wr w.heap.size (l.length+8) L/\Below w.heap.size w wr)) (fun si _=>l.length+8-(intOf si).toNat)
 case atStart=>exact⟨l.length,l++List.replicate 8 (0,0,0),V7 _,by omega,rfl,by simp,by unfold kG;simp,b4.out,HBl.out⟩
 case round =>
  obtain⟨i,L,hi1,hi2,rfl,HI⟩:=hrel;by_cases hlt:i<l.length+8
  ·obtain⟨z,hz⟩:∃ z,L[i]?=some z:=⟨_,A7 (by rw[HI.out.1];exact hlt)⟩;obtain⟨e0,e1,e2⟩:=HI.out.2.2.1.cells hz;have f0:=HI.out.2.2.1.frozen (i*3);have f1:=HI.out.2.2.1.frozen (i*3+1);have f2:=HI.out.2.2.1.frozen (i*3+2);have HP:Hid _:=HI.out.2.2.1.put (k:=i) (77,78,79) (by rw[HI.out.1];exact hlt);have hiI:(i:Int)<(l.length:Int)+8:=by omega
   have cP:(i:Int)<((l.length+8:Nat):Int):=by omega
   clear hz;go_wp2;go_roundw;case rel=>exact⟨i+1,L.set i (77,78,79),by omega,by omega,by go_num,by rw[List.length_set];exact HI.out.1,TN l i L hi1 hlt HI.out.1 HI.out.2.1,HP.out,((HI.out.2.2.2.setCell (p:=⟨w.heap.size,i*3,none⟩) (V7 _) _).setCell (p:=⟨w.heap.size,i*3+1,none⟩) (V7 _) _).setCell (p:=⟨w.heap.size,i*3+2,none⟩) (V7 _) _⟩
   case measure=>simp[intOf] <;> omega
  ·obtain rfl:i=l.length+8:=by omega
   have hL:L=kG l:=by
    have h:=HI.out.2.1;rw[aD2 (by rw[HI.out.1];exact V7 _),aD2 (by rw[pW];exact V7 _)]at h;exact h
   have HF:Hid (aR wr w.heap.size (l.length+8) (kG l)/\Below w.heap.size w wr):=(by rw[<-hL];exact HI.out.2.2:_/\_);clear hL HI;go_wp2;go_ret;exact⟨rfl,HF.out⟩
theorem Z0(n:Int)(w:World):Calls Tryz.prog 17 #[.int .i64 n] w fun e w'=>e = .returned (.int .i64 n)/\w'=w:=by
 go_enter Tryz.func17,Tryz.ntmps17
 go_wp2;go_ret;exact⟨rfl,rfl⟩
theorem aR.edges(h:aR W g cap L)(k cap':Nat)(hk:k<=L.length):aI W (.slice (some ⟨g,0,none⟩) k cap') (L.take k):=by
 refine⟨_,cap',by rw[aD7,aI0 hk],fun j e hj=>⟨g,0,rfl,?_⟩⟩;rw[aG1];refine h.cells ?_;rw[List.getElem?_take]at hj;split at hj
 ·exact hj
 ·cases hj
theorem aR.below(h:aR W g cap L)(hB:Below W.heap.size W W'):aR W' g cap L:=by
 obtain⟨a1,hg,r⟩:=h;exact⟨a1,by rw[hB.block g (aC2.1 hg).1];exact hg,r⟩
def rP(l:List E3)(i:Nat):List E3:=List.replicate i (-1,0,0)++(kG l).drop i
theorem NM(l:List E3)(i:Nat)(h:i<=l.length+8):(rP l i).length=l.length+8:=by
 unfold rP;simp[pW];omega
theorem U6(h:(kG l)[i]?=some x):(rP l i)[i]?=some x:=by
 unfold rP;rw[aC8 (by simp)];simp[h]
theorem LM(h:(kG l)[i]?=some x):(rP l i).set i (-1,0,0)=rP l (i+1):=by
 unfold rP;rw[aI1 _ _ (by simp)];obtain⟨hi,_⟩:=aC4.1 h;rw[aH3,aJ1,aG0 hi,aJ7,aL1];simp
theorem CF(n s:Int)(l:List E3)(v:Value)(w:World)(he:aI w v l)(hcap:uO v)(hlen:l.length*24<=140737488351232):
 Calls Tryz.prog 10 #[.int .i64 n,.int .i64 s,v] w fun e w'=>e = .returned (.tuple #[.string (eY n s l),.bool true])/\Below w.heap.size w w':=by
 have cG:Hid _:=he;have b3:Hid _:=hcap;have HLe:Hid (Calls Tryz.prog 27 _ w _):=QO l v w he hlen;obtain⟨a0,cap,rfl,aG⟩:=he;have HE:Hid _:=aG;have HNm:∀(q:Int) W,Hid (Calls Tryz.prog 17 #[.int .i64 q] W _):=fun q W=>Z0 q W;clear aG hcap;go_enter Tryz.func10,Tryz.ntmps10
 go_wp2_with fail
 refine(aC0 HLe.out ?_);rintro e w1 ⟨rfl,aE,b5⟩;have b7:aI w1 (.slice (some ⟨w.heap.size,0,none⟩) l.length (l.length+8)) l:=by
  have h:=aE.edges l.length (l.length+8) (by rw[pW];omega);rwa [show(kG l).take l.length=l by unfold kG;simp]at h
 have HBd:Hid (Calls Tryz.prog 28 _ w1 _):=AO n s l _ w1 b7;have b4:Hid _:=aE;have cF:Hid _:=b5;have hll:l.length<=l.length+8:=by omega
 clear aE b5 b7 HLe;go_wp2_with fail
 refine(aC0 HBd.out ?_);rintro e w2 ⟨rfl,hB2⟩;have c8:Hid _:=chain cF.out hB2;have a4:Hid _:=aR.below b4.out hB2;have HRb:Hid (Calls Tryz.prog 29 _ w2 _):=wP n s l _ w2 (aI.below cG.out c8.out) b3.out;clear hB2 b4 HBd;go_wp2_with fail
 refine(aC0 HRb.out ?_);rintro e w3 ⟨rfl,hB3⟩;have HB3:Hid _:=chain c8.out hB3;have HR3:Hid _:=aR.below a4.out hB3;clear hB3 a4 HRb;generalize himg:eY n s l=img;generalize herr:jV n s l=er;have HIm:Hid _:=himg;clear himg herr;go_wp2_with fail
 refine(aC0 (HNm er w3).out ?_);rintro e wx ⟨rfl,hw⟩;rw[hw];clear hw wx;go_wp2_with fail
 refine(aC0 (HNm er w3).out ?_);rintro e wx ⟨rfl,hw⟩;rw[hw];clear hw wx;go_wp2;go_loopw [13,14] (fun so si wr=>∃ i:Nat,i<=l.length+8/\si = .int .i64 (i:Int)/\so = .bool true/\Hid (aR wr w.heap.size (l.length+8) (rP l i)/\Below w.heap.size w wr)) (fun _ si _=>l.length+8-(intOf si).toNat)
 case atStart=>exact⟨0,aC6 _,rfl,rfl,by rw[show rP l 0=kG l from aJ2 _];exact⟨HR3.out,HB3.out⟩⟩
 case round =>
  obtain⟨i,hi,rfl,rfl,HI⟩:=hrel;by_cases hlt:i<l.length+8
  ·obtain⟨x,hx⟩:∃ x,(kG l)[i]?=some x:=⟨_,A7 (by rw[pW];exact hlt)⟩;have hiI:(i:Int)<(l.length:Int)+8:=by omega
   have cP:(i:Int)<((l.length+8:Nat):Int):=by omega
   have HSt:Hid _:=LM hx;have HOv:Hid _:=U6 hx;have gE:=guardE;have hil:i<(rP l i).length:=by rw[NM l i hi];exact hlt
   by_cases hlo:i<l.length
   ·have hxl:l[i]?=some x:=by
     have h:=hx;unfold kG at h;rwa [aD4 hlo]at h
    obtain⟨g,off,rfl,b0,b1,b2⟩:=HE.out i x hxl;have d0:=dL (o:=.cells #[.int .i64 77,.int .i64 78,.int .i64 79] 38) (cell_kept HI.out.2 _ _ b0);have d1:=dL (o:=.cells #[.int .i64 77,.int .i64 78,.int .i64 79] 38) (cell_kept HI.out.2 _ _ b1);have d2:=dL (o:=.cells #[.int .i64 77,.int .i64 78,.int .i64 79] 38) (cell_kept HI.out.2 _ _ b2);obtain⟨x1,x2,x3⟩:=x;simp only at d0 d1 d2;have cS:(i:Int)<(l.length:Int):=by omega
    clear hx hxl b0 b1 b2;have b8:aR (wr.alloc (.cells #[.int .i64 x1,.int .i64 x2,.int .i64 x3] 38)) w.heap.size (l.length+8) (rP l i):=aR.below HI.out.1 (aA _ _);have b6:Below w.heap.size w (wr.alloc (.cells #[.int .i64 x1,.int .i64 x2,.int .i64 x3] 38)):=HI.out.2.alloc HI.out.2.size _;have a3:Hid _:=b8;have aL:Hid _:=b6;obtain⟨b0,b1,b2⟩:=TU wr (.int .i64 x1) (.int .i64 x2) (.int .i64 x3) 38;clear b8 b6;go_upto_region 11 with fail
    generalize wr.alloc (.cells #[.int .i64 x1,.int .i64 x2,.int .i64 x3] 38)=W2 at a3 aL b0 b1 b2 ⊢;obtain⟨c0,c1,c2⟩:=aR.cells a3.out HOv.out;have f0:=aR.frozen a3.out (i*3);have f1:=aR.frozen a3.out (i*3+1);have f2:=aR.frozen a3.out (i*3+2);simp only at c0 c1 c2;have hEq:=EC x1 x2 x3 x1 x2 x3 true (decide_eq_true rfl);go_quiet (fail)
    go_wp2;have HP:Hid _:=(aR.drewN a3.out nq).put (k:=i) (-1,0,0) hil;go_roundw;case rel =>
     refine⟨i+1,by omega,by go_num,rfl,?_⟩;have h:=HP.out;rw[HSt.out]at h;exact(show _/\_ from⟨h,(((mY aL.out nq).setCell (p:=⟨w.heap.size,i*3,none⟩) (V7 _) _).setCell (p:=⟨w.heap.size,i*3+1,none⟩) (V7 _) _).setCell (p:=⟨w.heap.size,i*3+2,none⟩) (V7 _) _⟩)
    case measure=>simp[intOf] <;> omega
   ·have hx7:x=(77,78,79):=by
     have h:=hx;unfold kG at h;rw[aC8 (by omega),aE9,if_pos (by omega)]at h;exact(aH5 h).symm
    have cS:¬(i:Int)<(l.length:Int):=by omega
    clear hx;obtain⟨x1,x2,x3⟩:=x;obtain⟨rfl,rfl,rfl⟩:x1=77/\x2=78/\x3=79:=by simpa using hx7
    clear hx7;have b8:aR (wr.alloc (.cells #[.int .i64 77,.int .i64 78,.int .i64 79] 38)) w.heap.size (l.length+8) (rP l i):=aR.below HI.out.1 (aA _ _);have b6:Below w.heap.size w (wr.alloc (.cells #[.int .i64 77,.int .i64 78,.int .i64 79] 38)):=HI.out.2.alloc HI.out.2.size _;have a3:Hid _:=b8;have aL:Hid _:=b6;obtain⟨b0,b1,b2⟩:=TU wr (.int .i64 77) (.int .i64 78) (.int .i64 79) 38;clear b8 b6;go_upto_region 11 with fail
    generalize wr.alloc (.cells #[.int .i64 77,.int .i64 78,.int .i64 79] 38)=W2 at a3 aL b0 b1 b2 ⊢;obtain⟨c0,c1,c2⟩:=aR.cells a3.out HOv.out;have f0:=aR.frozen a3.out (i*3);have f1:=aR.frozen a3.out (i*3+1);have f2:=aR.frozen a3.out (i*3+2);simp only at c0 c1 c2;have hEq:=EC 77 78 79 77 78 79 true (decide_eq_true rfl);go_quiet (fail)
    go_wp2;have HP:Hid _:=(aR.drewN a3.out nq).put (k:=i) (-1,0,0) hil;go_roundw;case rel =>
     refine⟨i+1,by omega,by go_num,rfl,?_⟩;have h:=HP.out;rw[HSt.out]at h;exact(show _/\_ from⟨h,(((mY aL.out nq).setCell (p:=⟨w.heap.size,i*3,none⟩) (V7 _) _).setCell (p:=⟨w.heap.size,i*3+1,none⟩) (V7 _) _).setCell (p:=⟨w.heap.size,i*3+2,none⟩) (V7 _) _⟩)
    case measure=>simp[intOf] <;> omega
  ·obtain rfl:i=l.length+8:=by omega
   have hiI:¬((l.length+8:Nat):Int)<(l.length:Int)+8:=by omega
   have HBf:Hid _:=HI.out.2;clear HI;go_wp2;go_ret2;exact⟨by rw[HIm.out];rfl,HBf.out⟩
theorem QK(w:World):Calls Tryz.prog 6 #[] w fun e w'=>e = .returned (.bool true)/\Below w.heap.size w w':=by
 have b5:=aA w (.cells #[.int .i64 0,.int .i64 0,.int .i64 1] 38);have hE:aI (w.alloc (.cells #[.int .i64 0,.int .i64 0,.int .i64 1] 38)) (.slice (some ⟨w.heap.size,0,none⟩) 1 1) [(0,0,1)]:=by
  refine⟨_,1,rfl,fun j e hj => ?_⟩
  match j,hj with
  | 0,hj =>
   simp at hj;subst hj;exact⟨w.heap.size,0,rfl,by simp,by simp,by simp⟩
 have HBt:Hid (Calls Tryz.prog 10 _ (w.alloc (.cells #[.int .i64 0,.int .i64 0,.int .i64 1] 38)) _):=CF 2 1 [(0,0,1)] _ _ hE (fun a n c e=>by cases e;decide) (by decide);have hs:=K3;have hh:=KA;generalize eY 2 1 [(0,0,1)]=img at HBt hs hh;have cF:Hid _:=b5;clear hE b5;go_enter Tryz.func6,Tryz.ntmps6
 go_wp2_with fail
 refine(aC0 HBt.out ?_);rintro e w2 ⟨rfl,hB2⟩;have c8:Hid _:=chain cF.out hB2;clear hB2;go_wp2;go_ret;exact⟨rfl,c8.out⟩
def swp(l:List E3)(i j:Nat):List E3:=match l[i]?,l[j]? with
 | some p,some q=>(l.set i q).set j p
 | _,_=>l
theorem CU(X Y Z:List E3)(p q:E3):swp (X++p::Y++q::Z) X.length (X.length+1+Y.length)=X++q::Y++p::Z:=by
 have h1:(X++p::Y++q::Z)[X.length]?=some p:=by simp
 have h2:(X++p::Y++q::Z)[X.length+1+Y.length]?=some q:=by
  rw[aC8 (by simp;omega)];rw[show X.length+1+Y.length-(X++p::Y).length=0 by simp;omega];rfl
 unfold swp;rw[h1,h2];simp only;have e1:(X++p::Y++q::Z).set X.length q=X++q::Y++q::Z:=by simp
 rw[e1,aI1 _ _ (by simp;omega)];rw[show X.length+1+Y.length-(X++q::Y).length=0 by simp;omega];simp
theorem aR.swp(h:aR W g cap L){j:Nat}{p q:E3}(hi:L[i]?=some p)(hj:L[j]?=some q):
 aR ((((((W.setCell ⟨g,i*3,none⟩ (.int .i64 q.1)).setCell ⟨g,i*3+1,none⟩ (.int .i64 q.2.1)).setCell ⟨g,i*3+2,none⟩ (.int .i64 q.2.2)).setCell ⟨g,j*3,none⟩ (.int .i64 p.1)).setCell ⟨g,j*3+1,none⟩ (.int .i64 p.2.1)).setCell ⟨g,j*3+2,none⟩ (.int .i64 p.2.2)) g cap (swp L i j):=by
 have h1:=h.put q (bN hi);have h2:=h1.put (k:=j) p (by rw[List.length_set];exact bN hj);have e:G.swp L i j=(L.set i q).set j p:=by unfold G.swp;rw[hi,hj]
 rw[e];exact h2
theorem lK{w w':World}{r:Option Nat}(h:w.grownBy w' r):w.grownBy w'.drew r:=⟨h.os,h.tape,h.output,h.size,h.block⟩
theorem JZ(W:World)(g a b c d e f:Nat)(u v x y z t:Value):W.grownBy ((((((W.setCell ⟨g,a,none⟩ u).setCell ⟨g,b,none⟩ v).setCell ⟨g,c,none⟩ x).setCell ⟨g,d,none⟩ y).setCell ⟨g,e,none⟩ z).setCell ⟨g,f,none⟩ t) (some g) :=
 ((((((jR W g a u).trans (jR _ g b v)).trans (jR _ g c x)).trans (jR _ g d y)).trans (jR _ g e z)).trans (jR _ g f t))
theorem xY(X P Y Q Z:List E3)(a b n N g cap:Nat)(cv:Value)(w:World)(h:aR w g cap (X++P++Y++Q++Z))(ha:X.length=a)(hn:P.length=n)(hq:Q.length=n)(hb:a+n+Y.length=b)(hN:b+n+Z.length=N)(hl:N<=1000000):
 Calls Tryz.prog 217 #[.slice (some ⟨g,0,none⟩) N cap,.int .i64 (a:Int),.int .i64 (b:Int),.int .i64 (n:Int),cv] w fun e w'=>e = .returned (.tuple #[])/\aR w' g cap (X++Q++Y++P++Z)/\w.grownBy w' (some g):=by
 have HR0:Hid (aR w g cap (X++(Q.take 0++P.drop 0)++Y++(P.take 0++Q.drop 0)++Z)):=(by simpa using h:aR w g cap (X++(Q.take 0++P.drop 0)++Y++(P.take 0++Q.drop 0)++Z));clear h;have hab:a+n<=b:=by omega
 have hbN:b+n<=N:=by omega
 have HL:Hid _:=And.intro ha (And.intro hn (And.intro hq (And.intro hb hN)));clear ha hn hq hb hN;go_enter Tryz.func217,Tryz.ntmps217
 go_wp2;go_loopw [10] (fun si wr=>∃ i:Nat,i<=n/\si = .int .i64 (i:Int)/\Hid (aR wr g cap (X++(Q.take i++P.drop i)++Y++(P.take i++Q.drop i)++Z)/\w.grownBy wr (some g))) (fun si _=>n-(intOf si).toNat)
 case atStart=>exact⟨0,aC6 _,rfl,HR0.out,⟨rfl,rfl,rfl,V7 _,fun _ _ _=>rfl⟩⟩
 case round =>
  obtain⟨i,hi,rfl,HI⟩:=hrel;by_cases hlt:i<n
  ·obtain⟨p,hp⟩:∃ p,P[i]?=some p:=⟨_,A7 (by have:=HL.out;omega)⟩;obtain⟨q,hq⟩:∃ q,Q[i]?=some q:=⟨_,A7 (by have:=HL.out;omega)⟩;have HS:Hid (∃ A B C,X++(Q.take i++P.drop i)++Y++(P.take i++Q.drop i)++Z=A++p::B++q::C/\A.length=a+i/\A.length+1+B.length=b+i/\X++(Q.take (i+1)++P.drop (i+1))++Y++(P.take (i+1)++Q.drop (i+1))++Z=A++q::B++p::C):=(by
    obtain⟨h1,h2,h3,h4,h5⟩:=HL.out;have e1:P.drop i=p::P.drop (i+1):=by rw[aG0 (by omega)];congr 1;rw[A7 (by omega)]at hp;exact aH5 hp
    have e2:Q.drop i=q::Q.drop (i+1):=by rw[aG0 (by omega)];congr 1;rw[A7 (by omega)]at hq;exact aH5 hq
    have e3:P.take (i+1)=P.take i++[p]:=by rw[aE0,hp];rfl
    have e4:Q.take (i+1)=Q.take i++[q]:=by rw[aE0,hq];rfl
    refine⟨X++Q.take i,P.drop (i+1)++Y++P.take i,Q.drop (i+1)++Z,?_,?_,?_,?_⟩
    ·rw[e1,e2];simp
    ·rw[WT,aD7];omega
    ·simp only[WT,aD7,aE1];omega
    ·rw[e3,e4];simp:∃ A B C,_)
   clear hp hq;obtain⟨A,B,C,hS1,cH,cI,hS4⟩:=HS.out;have hR:=HI.out.1;rw[hS1]at hR;have hG:=HI.out.2;have hsw:G.swp (A++p::B++q::C) (a+i) (b+i)=X++(Q.take (i+1)++P.drop (i+1))++Y++(P.take (i+1)++Q.drop (i+1))++Z:=by rw[hS4,<-cI,<-cH];exact CU A B C p q
   have cU:(A++p::B++q::C)[a+i]?=some p:=by rw[<-cH];simp
   have cV:(A++p::B++q::C)[b+i]?=some q:=by
    rw[<-cI,aC8 (by simp;omega),show A.length+1+B.length-(A++p::B).length=0 by simp;omega];rfl
   have a8:=hR.swp cU cV;rw[hsw]at a8;obtain⟨c0,c1,c2⟩:=hR.cells cU;obtain⟨d0,d1,d2⟩:=hR.cells cV;have f0:=hR.frozen ((a+i)*3);have f1:=hR.frozen ((a+i)*3+1);have f2:=hR.frozen ((a+i)*3+2);have g0:=hR.frozen ((b+i)*3);have g1:=hR.frozen ((b+i)*3+1);have g2:=hR.frozen ((b+i)*3+2);have a6:Hid (aR _ g cap (X++(Q.take (i+1)++P.drop (i+1))++Y++(P.take (i+1)++Q.drop (i+1))++Z)):=a8;have HG:Hid _:=hG;obtain⟨p1,p2,p3⟩:=p;obtain⟨q1,q2,q3⟩:=q;clear HS hS1 cH cI hS4 hR hG hsw cU cV a8 HI;dsimp only at c0 c1 c2 d0 d1 d2;have cT:b+i≠a+i:=by omega
   go_wp2_with fail
   go_region;have a2:Hid (w.grownBy _ (some g)):=HG.out.trans (JZ wr g ((a+i)*3) ((a+i)*3+1) ((a+i)*3+2) ((b+i)*3) ((b+i)*3+1) ((b+i)*3+2) (.int .i64 q1) (.int .i64 q2) (.int .i64 q3) (.int .i64 p1) (.int .i64 p2) (.int .i64 p3));clear c0 c1 c2 d0 d1 d2 f0 f1 f2 g0 g1 g2;revert a2 a6;generalize (((((wr.setCell _ _).setCell _ _).setCell _ _).setCell _ _).setCell _ _).setCell _ _=W2;intro a6 a2;go_wp2;go_roundw;case rel=>exact⟨i+1,by omega,by go_num,a6.out,lK a2.out⟩
   case measure=>simp[intOf];omega
  ·obtain rfl:i=n:=by omega
   have HE:Hid (aR wr g cap (X++Q++Y++P++Z)/\w.grownBy wr (some g)):=(by
    have h:=HI.out;obtain⟨h1,h2,h3,h4,h5⟩:=HL.out;rw[aD2 (by omega:Q.length<=i),aH0 (by omega:P.length<=i),aD2 (by omega:P.length<=i),aH0 (by omega:Q.length<=i),aE4,aE4]at h;exact h:_/\_)
   go_wp2;go_end0;exact⟨rfl,HE.out⟩
theorem yU(X U V Z:List E3)(a m b N g cap:Nat)(cv:Value)(w:World)(h:aR w g cap (X++U++V++Z))(ha:X.length=a)(hu:a+U.length=m)(hv:m+V.length=b)(hN:b+Z.length=N)(hu0:U≠[])(hv0:V≠[])(hl:N<=1000000):
 Calls Tryz.prog 215 #[.slice (some ⟨g,0,none⟩) N cap,.int .i64 (a:Int),.int .i64 (m:Int),.int .i64 (b:Int),cv] w fun e w'=>e = .returned (.tuple #[])/\aR w' g cap (X++V++U++Z)/\w.grownBy w' (some g):=by
 have hu1:=List.length_pos_iff.2 hu0;have hv1:=List.length_pos_iff.2 hv0;obtain⟨T,hT⟩:∃ T,T=X++V++U++Z:=⟨_,rfl⟩;rw[<-hT];have H0:Hid (∃ X' U' V' Z':List E3,aR w g cap (X'++U'++V'++Z')/\X'.length+(m-a)=m/\U'.length=m-a/\V'.length=b-m/\m+(b-m)+Z'.length=N/\X'++V'++U'++Z'=T):=(⟨X,U,V,Z,h,by omega,by omega,by omega,by omega,hT.symm⟩:∃ X' U' V' Z':List E3,_);have hmb:m<b:=by omega
 have ham:a<m:=by omega
 have hbN:b<=N:=by omega
 clear h ha hu hv hN hu0 hv0 hu1 hv1 hT;clear X U V Z;have e1:(m:Int)-(a:Int)=((m-a:Nat):Int):=by omega
 have e2:(b:Int)-(m:Int)=((b-m:Nat):Int):=by omega
 go_enter Tryz.func215,Tryz.ntmps215
 go_wp2;go_loopw [10,11] (fun si sj wr=>∃ i j:Nat,si = .int .i64 (i:Int)/\sj = .int .i64 (j:Int)/\0<i/\0<j/\i<=m/\m+j<=N/\Hid ((∃ X U V Z:List E3,aR wr g cap (X++U++V++Z)/\X.length+i=m/\U.length=i/\V.length=j/\m+j+Z.length=N/\X++V++U++Z=T)/\w.grownBy wr (some g))) (fun si sj _=>(intOf si).toNat+(intOf sj).toNat)
 case atStart=>exact⟨m-a,b-m,rfl,rfl,by omega,by omega,by omega,by omega,H0.out,⟨rfl,rfl,rfl,V7 _,fun _ _ _=>rfl⟩⟩
 case round =>
  obtain⟨i,j,rfl,rfl,hi0,hj0,him,hjN,HI⟩:=hrel;clear e1 e2;have e1:(m:Int)-(i:Int)=((m-i:Nat):Int):=by omega
  by_cases hij:i=j
  ·have cQ:((i:Int) != (j:Int))=false:=by rw[hij];simp
   obtain⟨X,U,V,Z,hR,h1,h2,h3,h4,h5⟩:=HI.out.1;have HC:Hid (Calls Tryz.prog 217 _ wr _):=xY X U [] V Z (m-i) m i N g cap cv wr (by simpa using hR) (by omega) h2 (by omega) (by simp;omega) (by omega) hl;have HT:Hid (X++V++[]++U++Z=T):=(by rw[aE4];exact h5:_=_);have HG:Hid _:=HI.out.2;clear hR h1 h2 h3 h4 h5 HI hij;go_wp2_with fail
   refine(aC0 HC.out ?_);rintro e w2 ⟨rfl,hr2,hg2⟩;rw[HT.out]at hr2;have HE:Hid _:=And.intro hr2 (HG.out.trans hg2);clear hr2 hg2;go_wp2;go_end0;exact⟨rfl,HE.out⟩
  ·have cQ:((i:Int) != (j:Int))=true:=by simpa using(by omega:¬(i:Int)=(j:Int))
   by_cases hgt:i>j
   ·obtain⟨X,U,V,Z,hR,h1,h2,h3,h4,h5⟩:=HI.out.1;have a9:=aD5 j U;have HC:Hid (Calls Tryz.prog 217 _ wr _):=xY X (U.take j) (U.drop j) V Z (m-i) m j N g cap cv wr (by
     have h:=hR;rw[<-a9]at h;simpa using h) (by omega) (by rw[aD7];omega) h3 (by rw[aE1];omega) (by omega) hl
    have HN:Hid (∀ W:World,aR W g cap (X++V++U.drop j++U.take j++Z)->∃ X' U' V' Z':List E3,aR W g cap (X'++U'++V'++Z')/\X'.length+(i-j)=m/\U'.length=i-j/\V'.length=j/\m+j+Z'.length=N/\X'++V'++U'++Z'=T):=(fun W h=>⟨X++V,U.drop j,U.take j,Z,h,by rw[WT];omega,by rw[aE1];omega,by rw[aD7];omega,h4,by rw[<-h5];simp[a9]⟩:∀ W:World,_);have HG:Hid _:=HI.out.2;clear hR h1 h2 h3 h4 h5 HI a9;go_wp2_with fail
    refine(aC0 HC.out ?_);rintro e w2 ⟨rfl,hr2,hg2⟩;have HE:Hid _:=And.intro (HN.out _ hr2) (HG.out.trans hg2);clear hr2 hg2;go_wp2;go_roundw;case rel=>exact⟨i-j,j,by go_num,rfl,by omega,hj0,by omega,hjN,HE.out⟩
    case measure=>simp[intOf];omega
   ·obtain⟨X,U,V,Z,hR,h1,h2,h3,h4,h5⟩:=HI.out.1;have a9:=aD5 (j-i) V;have e3:(m:Int)+(j:Int)-(i:Int)=((m+j-i:Nat):Int):=by omega
    have HC:Hid (Calls Tryz.prog 217 _ wr _):=xY X U (V.take (j-i)) (V.drop (j-i)) Z (m-i) (m+j-i) i N g cap cv wr (by
     have h:=hR;rw[<-a9]at h;simpa using h) (by omega) h2 (by rw[aE1];omega) (by rw[aD7];omega) (by omega) hl
    have HN:Hid (∀ W:World,aR W g cap (X++V.drop (j-i)++V.take (j-i)++U++Z)->∃ X' U' V' Z':List E3,aR W g cap (X'++U'++V'++Z')/\X'.length+i=m/\U'.length=i/\V'.length=j-i/\m+(j-i)+Z'.length=N/\X'++V'++U'++Z'=T):=(fun W h=>⟨X,V.drop (j-i),V.take (j-i),U++Z,by simpa using h,h1,by rw[aE1];omega,by rw[aD7];omega,by rw[WT];omega,by rw[<-h5];conv=>{ rhs;rw[<-a9] };simp⟩:∀ W:World,_);have HG:Hid _:=HI.out.2;clear hR h1 h2 h3 h4 h5 HI a9;go_wp2_with fail
    refine(aC0 HC.out ?_);rintro e w2 ⟨rfl,hr2,hg2⟩;have HE:Hid _:=And.intro (HN.out _ hr2) (HG.out.trans hg2);clear hr2 hg2;go_wp2;go_roundw;case rel=>exact⟨i,j-i,rfl,by go_num,hi0,by omega,him,by omega,HE.out⟩
    case measure=>simp[intOf];omega
theorem aA7(w w':World)(row:Option Nat)(h:w.grownBy w' row)(n:Nat):w.grownBy (w'.drewN n) row:=⟨h.os,h.tape,h.output,h.size,h.block⟩
theorem aR.kept{row:Option Nat}(h:aR W g cap L)(hg:W.grownBy W' row)(cT:some g≠row):aR W' g cap L:=by
 obtain⟨a1,h1,h2⟩:=h;exact⟨a1,by rw[hg.block g ((aC2.1 h1).1) cT];exact h1,h2⟩
theorem aR.lt(h:aR W g cap L):g<W.heap.size:=by
 obtain⟨a1,h1,h2⟩:=h;exact(aC2.1 h1).1
theorem IG(P Q:List E3)(y x:E3):swp (P++y::x::Q) (P.length+1) P.length=P++x::y::Q:=by
 have h1:(P++y::x::Q)[P.length]?=some y:=by simp
 have h2:(P++y::x::Q)[P.length+1]?=some x:=by
  rw[aC8 (by omega),show P.length+1-P.length=1 by omega];rfl
 unfold swp;rw[h1,h2];simp only;rw[aI1 _ _ (by omega),aI1 _ _ (by omega)];simp
theorem zR(a b:Int):(Lib.compareInt a b<0)↔a<b:=by
 rcases cmpI a b with ⟨e,h⟩ | ⟨e,h⟩ | ⟨e,h⟩ <;> rw[e] <;> omega
theorem ZH(A:List E3)(h:A≠[]):∃ B y,A=B++[y]:=⟨A.dropLast,A.getLast h,(List.dropLast_concat_getLast h).symm⟩
theorem JF{A A1 A2 D:List E3}{k:Nat}(hA:A.Perm (D.take k))(hS:Gm.S2 A)(hx:D[k]?=some x)(a7:A1++A2=A)(hz:∀ z∈A2,Gm.lt2 x z=true)(h1:∀ z∈A1,Gm.lt2 z x=true):(A1++x::A2).Perm (D.take (k+1))/\Gm.S2 (A1++x::A2):=by
 subst a7;refine⟨?_,Gm.aA0 A1 A2 x hS hz h1⟩;rw[aE0,hx];refine List.perm_middle.trans ?_;refine List.Perm.trans ?_ List.perm_append_comm;exact hA.cons x
theorem QG(X D Y:List E3)(a b N g cap:Nat)(w:World)(h:aR w g cap (X++D++Y))(hD:Gm.fO D)(ha:X.length=a)(hb:a+D.length=b)(hN:b+Y.length=N)(hl:N<=1000000):
 Calls Tryz.prog 199 #[.slice (some ⟨g,0,none⟩) N cap,.int .i64 (a:Int),.int .i64 (b:Int),.func (.func 106) #[] #[]] w fun e w'=>e = .returned (.tuple #[])/\(∃ D',aR w' g cap (X++D'++Y)/\D'.Perm D/\Gm.S2 D')/\w.grownBy w' (some g):=by
 by_cases h1:D.length<=1
 ·have HE:Hid _:=h;have HD:Hid (Gm.S2 D):=(by
   match D,h1 with
   | [],_=>exact List.Pairwise.nil
   | [x],_=>exact List.pairwise_singleton _ _:Gm.S2 D)
  have hI:¬(a:Int)+1<(b:Int):=by omega
  clear h;go_enter Tryz.func199,Tryz.ntmps199
  go_wp2;go_loopw [8] (fun si wr=>si = .int .i64 ((a:Int)+1)/\wr=w) (fun _ _=>0)
  case atStart=>exact⟨rfl,rfl⟩
  case round =>
   obtain⟨rfl,rfl⟩:=hrel;go_wp2;go_end0;exact⟨rfl,⟨D,HE.out,aK7 _,HD.out⟩,⟨rfl,rfl,rfl,V7 _,fun _ _ _=>rfl⟩⟩
 ·have H0:Hid (∃ A R,aR w g cap (X++A++R++Y)/\A.Perm (D.take 1)/\R=D.drop 1/\Gm.S2 A):=(⟨D.take 1,D.drop 1,by rw[aD3 X,aD5];exact h,aK7 _,rfl,by
   match D,h1 with
   | x::_,_=>exact List.pairwise_singleton _ _⟩:∃ A R,_)
  have HD:Hid _:=hD;have HL:Hid _:=And.intro ha (And.intro hb hN);have hab:a+1<b:=by omega
  have hbN:b<=N:=by omega
  clear h hD ha hb hN h1;go_enter Tryz.func199,Tryz.ntmps199
  go_wp2;go_loopw [8] (fun si wr=>∃ i:Nat,a+1<=i/\i<=b/\si = .int .i64 (i:Int)/\Hid ((∃ A R,aR wr g cap (X++A++R++Y)/\A.Perm (D.take (i-a))/\R=D.drop (i-a)/\Gm.S2 A)/\w.grownBy wr (some g))) (fun si _=>b-(intOf si).toNat)
  case atStart=>exact⟨a+1,V7 _,by omega,by go_num,by rw[show a+1-a=1 by omega];exact H0.out,⟨rfl,rfl,rfl,V7 _,fun _ _ _=>rfl⟩⟩
  case round =>
   obtain⟨i,hi1,hi2,rfl,HI⟩:=hrel;by_cases hlt:i<b
   ·obtain⟨A,R,hR,hA,rfl,hS⟩:=HI.out.1;obtain⟨x,hx⟩:∃ x,D[i-a]?=some x:=⟨_,A7 (by have:=HL.out;omega)⟩;have hAl:A.length=i-a:=by rw[hA.length_eq,aD7];have:=HL.out;omega
    have e1:D.drop (i-a)=x::D.drop (i-a+1):=by rw[aG0 (by have:=HL.out;omega)];congr 1;rw[A7 (by have:=HL.out;omega)]at hx;exact aH5 hx
    have b9:∀ y∈A,Gm.ltE y x=true:=fun y hy=>by
     have h3:(D.take (i-a)++x::D.drop (i-a+1)).Pairwise (fun a b=>Gm.ltE a b=true):=by rw[<-e1,aD5];exact HD.out
     exact(aJ6.1 h3).2.2 y (hA.mem_iff.1 hy) x (List.mem_cons_self)
    rw[e1]at hR;have HJ0:Hid (∃ A1 A2,aR wr g cap (X++A1++x::A2++D.drop (i-a+1)++Y)/\a+A1.length=i/\A1++A2=A/\∀ z∈A2,Gm.lt2 x z=true):=(⟨A,[],by simpa using hR,by omega,by simp,by simp⟩:∃ A1 A2,_);have HA:Hid _:=And.intro hA (And.intro hS (And.intro b9 (And.intro hx hAl)));have HG:Hid _:=HI.out.2;clear HI hR hA hS b9 hx e1 hAl;obtain⟨W0,cJ⟩:∃ W0,W0=wr:=⟨wr,rfl⟩;rw[<-cJ]at HJ0 HG;have HW0:Hid _:=cJ;clear cJ;go_wp2;go_loopw [9] (fun sj wr=>∃ j:Nat,a<=j/\j<=i/\sj = .int .i64 (j:Int)/\Hid ((∃ A1 A2,aR wr g cap (X++A1++x::A2++D.drop (i-a+1)++Y)/\a+A1.length=j/\A1++A2=A/\∀ z∈A2,Gm.lt2 x z=true)/\w.grownBy wr (some g))) (fun sj _=>(intOf sj).toNat)
    case atStart=>exact⟨i,by omega,V7 _,rfl,by rw[<-HW0.out];exact HJ0.out,by rw[<-HW0.out];exact HG.out⟩
    case round =>
     obtain⟨j,hj1,hj2,rfl,HI⟩:=hrel;by_cases hja:j>a
     ·obtain⟨A1,A2,hR,cB,a7,hz⟩:=HI.out.1;obtain⟨B,y,rfl⟩:=ZH A1 (by intro e;subst e;simp at cB;omega);obtain⟨k,cR⟩:∃ k,j=k+1:=⟨j-1,by omega⟩;have hk:a+B.length=k:=by simp at cB;omega
      have cC:(X++B).length=k:=by rw[WT];have:=HL.out;omega
      have cW:X++(B++[y])++x::A2++D.drop (i-a+1)++Y=(X++B)++y::x::(A2++D.drop (i-a+1)++Y):=by simp
      rw[cW]at hR;have hy:((X++B)++y::x::(A2++D.drop (i-a+1)++Y))[k]?=some y:=by rw[<-cC];simp
      have hx:((X++B)++y::x::(A2++D.drop (i-a+1)++Y))[j]?=some x:=by
       rw[cR,<-cC,aC8 (by omega),show(X++B).length+1-(X++B).length=1 by omega];rfl
      have bX:=Gm.J2 x y (HA.out.2.2.1 y (by rw[<-a7];simp));obtain⟨c0,c1,c2⟩:=hR.cells hy;obtain⟨d0,d1,d2⟩:=hR.cells hx;have HRr:Hid (aR wr g cap ((X++B)++y::x::(A2++D.drop (i-a+1)++Y))):=hR;have HX:Hid _:=And.intro hy (And.intro hx (And.intro bX (And.intro cC (And.intro hk (And.intro a7 (And.intro hz cW))))));have HG1:Hid _:=HI.out.2;have hgl:=hR.lt;have hjN:j<N:=by omega
      have hkN:k<N:=by omega
      have e8:IntKind.i64.wrap (k:Int)=(k:Int):=by rw[aK6];omega
      have e9:(j:Int)-1=(k:Int):=by omega
      have hjI:(j:Int)>(a:Int):=by omega
      have hkI:(k:Int)<(N:Int):=by omega
      have hjI2:(j:Int)<(N:Int):=by omega
      have hj0:1<=j:=by omega
      have HJ:Hid _:=cR;clear HI hR cB a7 hz cW hy hx bX hk cC cR;obtain⟨x1,x2,x3⟩:=x;obtain⟨y1,y2,y3⟩:=y;dsimp only at c0 c1 c2 d0 d1 d2;have HC:∀ W,Hid (Calls Tryz.prog 106 _ W _):=fun W=>jY x1 x2 x3 y1 y2 y3 W;have cD:=zR x2 y2;by_cases hc:x2<y2
      ·have hcl:=cD.2 hc;clear cD;go_upto_region 4 with fail
       go_region_held (fun w'=>w'.cell? ⟨g,j*3,none⟩=some (.int .i64 x1)/\w'.cell? ⟨g,j*3+1,none⟩=some (.int .i64 x2)/\w'.cell? ⟨g,j*3+2,none⟩=some (.int .i64 x3)/\w'.cell? ⟨g,k*3,none⟩=some (.int .i64 y1)/\w'.cell? ⟨g,k*3+1,none⟩=some (.int .i64 y2)/\w'.cell? ⟨g,k*3+2,none⟩=some (.int .i64 y3)) (refine⟨?_,?_,?_,?_,?_,?_⟩ <;> (repeat (first | assumption | apply fZ | apply dL)))
        (first
         | (go_at_call 106;refine(aC0 (HC _).out ?_);rintro e w' ⟨rfl,rfl⟩))
       have a4:Hid (aR ((wr.alloc (.cells #[.int .i64 x1,.int .i64 x2,.int .i64 x3] 38)).alloc (.cells #[.int .i64 y1,.int .i64 y2,.int .i64 y3] 38)) g cap ((X++B)++(y1,y2,y3)::(x1,x2,x3)::(A2++D.drop (i-a+1)++Y))):=(HRr.out.kept (aF9 _ _ none) (by simp)).kept (aF9 _ _ none) (by simp);have a2:Hid (w.grownBy ((wr.alloc (.cells #[.int .i64 x1,.int .i64 x2,.int .i64 x3] 38)).alloc (.cells #[.int .i64 y1,.int .i64 y2,.int .i64 y3] 38)) (some g)):=(HG1.out.trans (aF9 _ _ _)).trans (aF9 _ _ _);clear c0 c1 c2 d0 d1 d2;revert a4 a2;generalize (wr.alloc _).alloc _=W2;intro a4 a2;have hR:=a4.out;obtain⟨c0,c1,c2⟩:=hR.cells HX.out.1;obtain⟨d0,d1,d2⟩:=hR.cells HX.out.2.1;have f0:=hR.frozen (k*3);have f1:=hR.frozen (k*3+1);have f2:=hR.frozen (k*3+2);have g0:=hR.frozen (j*3);have g1:=hR.frozen (j*3+1);have g2:=hR.frozen (j*3+2);have cT:j≠k:=by omega
       have a8:=hR.swp HX.out.2.1 HX.out.1;have a6:Hid (aR _ g cap (X++B++(x1,x2,x3)::((y1,y2,y3)::A2)++D.drop (i-a+1)++Y)):=(by
        have e:=IG (X++B) (A2++D.drop (i-a+1)++Y) (y1,y2,y3) (x1,x2,x3);rw[HX.out.2.2.2.1,<-HJ.out]at e;rw[e]at a8;simpa using a8:aR _ g cap _)
       have cA:Hid (w.grownBy _ (some g)):=a2.out.trans (JZ W2 g (j*3) (j*3+1) (j*3+2) (k*3) (k*3+1) (k*3+2) (.int .i64 y1) (.int .i64 y2) (.int .i64 y3) (.int .i64 x1) (.int .i64 x2) (.int .i64 x3));clear hR a8;go_wp2_with fail
       go_region;clear c0 c1 c2 d0 d1 d2 f0 f1 f2 g0 g1 g2;revert cA a6;generalize (((((W2.setCell _ _).setCell _ _).setCell _ _).setCell _ _).setCell _ _).setCell _ _=W3;intro a6 cA;have HN:Hid ((∃ A1 A3,aR W3 g cap (X++A1++(x1,x2,x3)::A3++D.drop (i-a+1)++Y)/\a+A1.length=k/\A1++A3=A/\∀ z∈A3,Gm.lt2 (x1,x2,x3) z=true)/\w.grownBy W3 (some g)):=(⟨⟨B,(y1,y2,y3)::A2,a6.out,HX.out.2.2.2.2.1,by rw[<-HX.out.2.2.2.2.2.1];simp,fun z hz=>by
        rcases aF5.1 hz with rfl | hz
        ·exact HX.out.2.2.1.1.2 hc
        ·exact HX.out.2.2.2.2.2.2.1 z hz⟩,cA.out⟩:_/\_)
       clear a6 cA a4 a2;go_wp2;go_roundw;case rel=>exact⟨k,by omega,by omega,rfl,HN.out.1,lK (lK HN.out.2)⟩
       case measure=>simp[intOf];omega
      ·have hcl:¬ Lib.compareInt x2 y2<0:=fun h=>hc (cD.1 h);clear cD;go_upto_region 4 with fail
       go_region_held (fun w'=>w'.cell? ⟨g,j*3,none⟩=some (.int .i64 x1)/\w'.cell? ⟨g,j*3+1,none⟩=some (.int .i64 x2)/\w'.cell? ⟨g,j*3+2,none⟩=some (.int .i64 x3)/\w'.cell? ⟨g,k*3,none⟩=some (.int .i64 y1)/\w'.cell? ⟨g,k*3+1,none⟩=some (.int .i64 y2)/\w'.cell? ⟨g,k*3+2,none⟩=some (.int .i64 y3)) (refine⟨?_,?_,?_,?_,?_,?_⟩ <;> (repeat (first | assumption | apply fZ | apply dL)))
        (first
         | (go_at_call 106;refine(aC0 (HC _).out ?_);rintro e w' ⟨rfl,rfl⟩))
       have a4:Hid (aR ((wr.alloc (.cells #[.int .i64 x1,.int .i64 x2,.int .i64 x3] 38)).alloc (.cells #[.int .i64 y1,.int .i64 y2,.int .i64 y3] 38)) g cap ((X++B)++(y1,y2,y3)::(x1,x2,x3)::(A2++D.drop (i-a+1)++Y))):=(HRr.out.kept (aF9 _ _ none) (by simp)).kept (aF9 _ _ none) (by simp);have a2:Hid (w.grownBy ((wr.alloc (.cells #[.int .i64 x1,.int .i64 x2,.int .i64 x3] 38)).alloc (.cells #[.int .i64 y1,.int .i64 y2,.int .i64 y3] 38)) (some g)):=(HG1.out.trans (aF9 _ _ _)).trans (aF9 _ _ _);clear c0 c1 c2 d0 d1 d2;revert a4 a2;generalize (wr.alloc _).alloc _=W2;intro a4 a2;have HN:Hid ((∃ A3 R,aR W2 g cap (X++A3++R++Y)/\A3.Perm (D.take (i+1-a))/\R=D.drop (i+1-a)/\Gm.S2 A3)/\w.grownBy W2 (some g)):=(by
        have a5:=JF HA.out.1 HA.out.2.1 HA.out.2.2.2.1 HX.out.2.2.2.2.2.1 HX.out.2.2.2.2.2.2.1 (by
         have h:=HA.out.2.1;rw[<-HX.out.2.2.2.2.2.1]at h;exact Gm.s2_last B (y1,y2,y3) (x1,x2,x3) (aJ6.1 h).1 (HX.out.2.2.1.2.2 hc))
        refine⟨⟨B++[(y1,y2,y3)]++(x1,x2,x3)::A2,D.drop (i+1-a),?_,?_,rfl,a5.2⟩,a2.out⟩
        ·rw[show i+1-a=i-a+1 by omega];simpa using a4.out
        ·rw[show i+1-a=i-a+1 by omega];exact a5.1:_/\_)
       clear a4 a2;go_wp2;go_roundw;case rel=>exact⟨i+1,by omega,by omega,by go_num,HN.out.1,lK HN.out.2⟩
       case measure=>simp[intOf];omega
     ·obtain rfl:j=a:=by omega
      have HN:Hid ((∃ A3 R,aR wr g cap (X++A3++R++Y)/\A3.Perm (D.take (i+1-j))/\R=D.drop (i+1-j)/\Gm.S2 A3)/\w.grownBy wr (some g)):=(by
       obtain⟨A1,A2,hR,cB,a7,hz⟩:=HI.out.1;obtain rfl:A1=[]:=aD8 (by omega);have a5:=JF HA.out.1 HA.out.2.1 HA.out.2.2.2.1 a7 hz (by simp);refine⟨⟨[]++x::A2,D.drop (i+1-j),?_,?_,rfl,a5.2⟩,HI.out.2⟩
       ·rw[show i+1-j=i-j+1 by omega];simpa using hR
       ·rw[show i+1-j=i-j+1 by omega];exact a5.1:_/\_)
      clear HI;have hgd:¬(j:Int)>(j:Int):=by omega
      go_wp2_with fail
      go_quiet (fail)
      go_wp2;go_roundw;case rel=>exact⟨i+1,by omega,by omega,by go_num,HN.out.1,aA7 _ _ _ HN.out.2 _⟩
      case measure=>simp[intOf];omega
   ·obtain rfl:i=b:=by omega
    have HE:Hid ((∃ D',aR wr g cap (X++D'++Y)/\D'.Perm D/\Gm.S2 D')/\w.grownBy wr (some g)):=(by
     obtain⟨A,R,hR,hA,rfl,hS⟩:=HI.out.1;have hLo:=HL.out;rw[aD2 (by omega)]at hA;rw[aH0 (by omega),aE4]at hR;exact⟨⟨A,hR,hA,hS⟩,HI.out.2⟩:_/\_)
    clear HI;go_wp2;go_end0;exact⟨rfl,HE.out⟩
end Go.Proofs.YtphjbbbnbmafnaaGreatDoor.G
