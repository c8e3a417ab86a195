/-
  For every two sizes, every two lists of edges and every script, trellislaw.All returns true (two graphs that are built and opened answer, in turns, every question as the document says; lists that came out are their owner's), and each argument reads afterwards as it read before. The row lists math/bits.deBruijn64tab; the card ties it to the program's text. No other condition.
-/
import Derived.Test.YtphjbbbnbmafnaaGreatDoorOpenS
import Derived.Test.YtphjbbbnbmafnaaGreatDoorStv
import Derived.Test.YtphjbbbnbmafnaaGreatDoorCards
import Derived.Test.YtphjbbbnbmafnaaGreatDoorTie
import Derived.Deep.DeepHandedRow
import Derived.Lib.LaidTab
import Derived.Lib.TrailingZeros
import Derived.LaidMore
set_option maxHeartbeats 2000000
set_option maxRecDepth 100000
namespace Go.Proofs.YtphjbbbnbmafnaaGreatDoor.G
open Go.RowKit
theorem aB7:PP oL 7:=fun w B N v1 v2 es is p n s L st hT hb hp hN hn hi hk hok=>by
 obtain⟨k,h,f,l,t,x1,x2,y1,y2,z1,z2,q⟩:=st;obtain⟨bf,bl,bt,bq⟩:=hok;simp only at hk bf bl bt bq ⊢;by_cases h1:1<=k
 ·have hc:k=1\/k=2\/k=3\/k=4\/k=5\/k=6\/k=7:=by omega
  rcases hc with rfl | rfl | rfl | rfl | rfl | rfl | rfl
  ·exact(tN hb hp h f l t x1 x2 y1 y2 z1 z2 q).mono fun _ _ h=>bZ.two h
  ·exact(ME hb hp hN hn h f l t x1 x2 y1 y2 z1 z2 q).mono fun _ _ h=>bZ.two h
  ·exact(TI hb hp hN hn h f l t x1 x2 y1 y2 z1 z2 q bf).mono fun _ _ h=>bZ.two h
  ·exact(ZI hb hp hN hn h f l t x1 x2 y1 y2 z1 z2 q bt).mono fun _ _ h=>bZ.two h
  ·exact(UB hb hp h f l t x1 x2 y1 y2 z1 z2 q bf bl bt).mono fun _ _ h=>bZ.two h
  ·exact(step_count hb hp h f l t x1 x2 y1 y2 z1 z2 q).mono fun _ _ h=>bZ.two h
  ·exact J9 hT hb hp hN hi h f l t x1 x2 y1 y2 z1 z2 q bq
 ·exact(tX hb h f l t x1 x2 y1 y2 z1 z2 q k (by omega)).mono fun _ _ h=>bZ.two h
theorem all_any(z0 z1 z2 y0 y1 y2:Int)(l m:List E3)(vl vm:Value)(a0:Option Addr)(len cap:Nat)(S:Nat->Sp)(w:World)(hl:aI w vl l)(hlc:uO vl)(b6:l.length*24<=140737488351232)(hm:aI w vm m)(hmc:uO vm)(b7:m.length*24<=140737488351232)(hS:xU w a0 len S)(hlen:len*104<=140737488351232)(hT:oL w):
 Calls Tryz.prog 4 #[.agg #[.int .i64 z0,.int .i64 z1,.int .i64 z2],vl,.agg #[.int .i64 y0,.int .i64 y1,.int .i64 y2],vm,.slice a0 len cap] w fun e w'=>e = .returned (.bool true)/\Below w.heap.size w w':=by
 obtain⟨W0,aG⟩:∃ W0,W0=(w.alloc (.cells #[.int .i64 z0,.int .i64 z1,.int .i64 z2] 23)).alloc (.cells #[.int .i64 y0,.int .i64 y1,.int .i64 y2] 23):=⟨_,rfl⟩;have hJ:Below w.heap.size w W0:=by rw[aG];exact iF (aA _ _)
 have hS2:xU W0 a0 len S:=fun i hi=>by
  obtain⟨h1,g,off,h2,c0,c1,c2,c3,c4,c5,c6,c7,c8,c9,c10,c11⟩:=hS i hi;exact⟨h1,g,off,h2,cell_kept hJ _ _ c0,cell_kept hJ _ _ c1,cell_kept hJ _ _ c2,cell_kept hJ _ _ c3,cell_kept hJ _ _ c4,cell_kept hJ _ _ c5,cell_kept hJ _ _ c6,cell_kept hJ _ _ c7,cell_kept hJ _ _ c8,cell_kept hJ _ _ c9,cell_kept hJ _ _ c10,cell_kept hJ _ _ c11⟩
 have HP:Hid (Calls Tryz.prog 5 _ W0 _):=RX oL (fun _ _ h hT=>oL.below hT h) 7 aB7 z0 z1 z2 y0 y1 y2 l m vl vm a0 len cap S W0 (hl.below hJ) hlc b6 (hm.below hJ) hmc b7 hS2 hlen (oL.below hT hJ);have HJ:Hid _:=hJ;clear hl hlc hm hmc hS hS2 hJ hT;go_enter Tryz.func4,Tryz.ntmps4
 go_wp2_with fail
 rw[<-aG];refine(aC0 HP.out ?_);rintro e w1 ⟨rfl,hB1⟩;have HB:Hid _:=chain HJ.out hB1;have HW0:Hid _:=aG;clear hB1 aG HP;go_wp2;go_ret;exact⟨rfl,HB.out⟩
end Go.Proofs.YtphjbbbnbmafnaaGreatDoor.G
namespace Go.Proofs.YtphjbbbnbmafnaaGreatDoor.alls
open Go.ChangeShapes Go.WideShapes Go.ChangeAt Go.RowKit Go.Proofs.YtphjbbbnbmafnaaGreatDoor.OpenE Go.Proofs.YtphjbbbnbmafnaaGreatDoor.OpenS
theorem contract(H:Type)(enc:TypeId×Value->H)(W:World)(base:Nat)(args:Array Value)(ds gs:List (DataW H))(before:List MemPlace)
 (hval:∀(j:Nat) t v,Tryz.f4.params[j]?=some t->args[j]?=some v->Value.okWide Tryz.prog W .any base t v)
 (hW:DataW.Whole enc Tryz.prog Tryz.f4.params.toList Rows.allSpec.vars false W args.toList ds gs before)
 (hT:G.oL W) (hsz:(DataW.weightsEach Tryz.prog (Tryz.f4.params.toList++Rows.allSpec.plain.varTypes Tryz.prog) (ds++gs)).all (·<=reachBytes)=true) :
 Calls Tryz.prog 4 args W fun e W'=>∃ v,e = .returned v/\Rows.allSpec.post enc Tryz.prog Tryz.f4 false true false false W args v W':=by
 have hW':=hW;obtain⟨p,q,hA0,hV,rfl,_,_⟩:=hW;have hA:DataW.TrodAll enc Tryz.prog W 0 (fun _=>true) true Tryz.f4.params.toList args.toList ds p:=hA0;rw[Tryz.params4]at hA hval;obtain⟨v0,vs0,d0,ds0,p0,q0,hargs,rfl,rfl,h0,r0⟩:=trodAll_cons hA;obtain⟨v1,vs1,d1,ds1,p1,q1,rfl,rfl,rfl,h1,r1⟩:=trodAll_cons r0;obtain⟨v2,vs2,d2,ds2,p2,q2,rfl,rfl,rfl,h2,r2⟩:=trodAll_cons r1;obtain⟨v3,vs3,d3,ds3,p3,q3,rfl,rfl,rfl,h3,r3⟩:=trodAll_cons r2;obtain⟨v4,vs4,d4,ds4,p4,q4,rfl,rfl,rfl,h4,r4⟩:=trodAll_cons r3;obtain⟨rfl,rfl,rfl⟩:=trodAll_nil r4;obtain rfl:args=#[v0,v1,v2,v3,v4]:=by cases args;simp_all
 obtain⟨rfl,rfl⟩:=trodVars_none hV;obtain⟨a1,a2,a9,rfl⟩:=okWide_slice Tryz.underlying24 (hval 1 24 v1 rfl rfl);obtain⟨a3,a5,aE,rfl⟩:=okWide_slice Tryz.underlying24 (hval 3 24 v3 rfl rfl);obtain⟨a4,a6,aL,rfl⟩:=okWide_slice Tryz.underlying25 (hval 4 25 v4 rfl rfl);obtain⟨cs0,rfl,hc0⟩:=okWide_struct Tryz.underlying23 (hval 0 23 v0 rfl rfl);obtain⟨cs2,rfl,hc2⟩:=okWide_struct Tryz.underlying23 (hval 2 23 v2 rfl rfl);have k0:=h0;have k1:=h1;have k2:=h2;have k3:=h3;have k4:=h4;have lt0:∀ x∈p0,x.block<W.heap.size:=by obtain⟨m,hm⟩:=k0;exact DataW.trod_lt m _ _ _ hm
 have lt1:∀ x∈p1,x.block<W.heap.size:=by obtain⟨m,hm⟩:=k1;exact DataW.trod_lt m _ _ _ hm
 have lt2:∀ x∈p2,x.block<W.heap.size:=by obtain⟨m,hm⟩:=k2;exact DataW.trod_lt m _ _ _ hm
 have lt3:∀ x∈p3,x.block<W.heap.size:=by obtain⟨m,hm⟩:=k3;exact DataW.trod_lt m _ _ _ hm
 have lt4:∀ x∈p4,x.block<W.heap.size:=by obtain⟨m,hm⟩:=k4;exact DataW.trod_lt m _ _ _ hm
 obtain⟨l,b6,hE1,b2,hd1⟩:∃ l:List G.E3,l.length=a2/\G.aI W (.slice a1 a2 a9) l/\a2<=a9/\(a2=0\/∃ elems spare,d1 = .slice elems spare/\elems.length=a2):=by
  obtain⟨a8,hf⟩:=h1;exact JP hf
 obtain⟨m,b7,hE3,b5,hd3⟩:∃ l:List G.E3,l.length=a5/\G.aI W (.slice a3 a5 aE) l/\a5<=aE/\(a5=0\/∃ elems spare,d3 = .slice elems spare/\elems.length=a5):=by
  obtain⟨a8,hf⟩:=h3;exact JP hf
 obtain⟨S,hS,hd4⟩:∃ S:Nat->G.Sp,G.xU W a4 a6 S/\(a6=0\/∃ elems spare,d4 = .slice elems spare/\elems.length=a6):=by
  obtain⟨a8,hf⟩:=h4;exact NP hf
 obtain⟨z0,z1,z2,rfl⟩:∃ z0 z1 z2:Int,cs0=#[.int .i64 z0,.int .i64 z1,.int .i64 z2]:=by
  obtain⟨a8,hf⟩:=h0;obtain⟨z0,z1,z2,e⟩:=WQ hf;exact⟨z0,z1,z2,by cases cs0;simp_all [Value.cells]⟩
 obtain⟨y0,y1,y2,rfl⟩:∃ z0 z1 z2:Int,cs2=#[.int .i64 z0,.int .i64 z1,.int .i64 z2]:=by
  obtain⟨a8,hf⟩:=h2;obtain⟨z0,z1,z2,e⟩:=WQ hf;exact⟨z0,z1,z2,by cases cs2;simp_all [Value.cells]⟩
 have b1:l.length*24<=140737488351232:=by
  rw[b6];rcases hd1 with h | ⟨elems,spare,rfl,hel⟩
  ·omega
  ·have:=sized_slice hsz (j:=1) (t:=24) (e:=38) rfl rfl Tryz.underlying24;rw[WO]at this;simp only[reachBytes]at this;omega
 have b3:m.length*24<=140737488351232:=by
  rw[b7];rcases hd3 with h | ⟨elems,spare,rfl,hel⟩
  ·omega
  ·have:=sized_slice hsz (j:=3) (t:=24) (e:=38) rfl rfl Tryz.underlying24;rw[WO]at this;simp only[reachBytes]at this;omega
 have b4:a6*104<=140737488351232:=by
  rcases hd4 with h | ⟨elems,spare,rfl,hel⟩
  ·omega
  ·have:=sized_slice hsz (j:=4) (t:=25) (e:=42) rfl rfl Tryz.underlying25;rw[aAg]at this;simp only[reachBytes]at this;omega
 clear hA0 hsz;refine(G.all_any z0 z1 z2 y0 y1 y2 l m _ _ a4 a6 aL S W hE1 (fun a n c e=>by cases e;exact b2) b1 hE3 (fun a n c e=>by cases e;exact b5) b3 hS b4 hT).mono fun e W' ⟨he,bel⟩ => ?_;subst he;exact⟨_,rfl,_,_,_,[],_,[],hW',trodAll_mk1 (shut_bool Tryz.underlying4 _),(trodAll_cons_mk (Below.trod laidOut (by kernel_rfl) (of_decide_eq_true (by kernel_rfl)) k0 bel lt0) (trodAll_cons_mk (Below.trod laidOut (by kernel_rfl) (of_decide_eq_true (by kernel_rfl)) k1 bel lt1) (trodAll_cons_mk (Below.trod laidOut (by kernel_rfl) (of_decide_eq_true (by kernel_rfl)) k2 bel lt2) (trodAll_cons_mk (Below.trod laidOut (by kernel_rfl) (of_decide_eq_true (by kernel_rfl)) k3 bel lt3) (trodAll_cons_mk (Below.trod laidOut (by kernel_rfl) (of_decide_eq_true (by kernel_rfl)) k4 bel lt4) trodAll_mk0))))),rfl,bel.frame _,fun h=>by cases h⟩
noncomputable def laidWorld (os:Os):World :=
 { World.holding Tryz.prog os ⟨#[],#[],[]⟩with heap:=(World.holding Tryz.prog os ⟨#[],#[],[]⟩).heap.modify 0 fun
  | .cells _ t frozen=>.cells (Lib.deBruijn64tab.map fun x:Nat=>Value.int .u8 (x:Int)).toArray t frozen
  | o=>o }
abbrev noArgs:Array Value:=#[.agg #[.int .i64 0,.int .i64 0,.int .i64 0],.slice none 0 0,.agg #[.int .i64 0,.int .i64 0,.int .i64 0],.slice none 0 0,.slice none 0 0]
theorem laid_met(os:Os):laidMet Tryz.prog Rows.allRow.laid ((laidWorld os).forCall (fun _ _=>0) ⟨#[],noArgs,[]⟩).memory :=
 laidMet_of_run' 8 (by kernel_rfl) (by kernel_rfl)
theorem reads(os:Os){H:Type}(enc:TypeId×Value->H):∃ a7,DataW.whole enc Tryz.prog ((laidWorld os).forCall (fun _ _=>0) ⟨#[],noArgs,[]⟩).memory Tryz.f4.params.toList Rows.allSpec.vars false noArgs.toList 8=some ([.agg [.lit (.int .i64 0),.lit (.int .i64 0),.lit (.int .i64 0)],.nil,.agg [.lit (.int .i64 0),.lit (.int .i64 0),.lit (.int .i64 0)],.nil,.nil],[],a7) :=
 ⟨[],by kernel_rfl⟩
theorem tz_of_laid{W:World}(h:laidMetH Tryz.prog Rows.allRow.laid W):G.oL W:=by
 rw[MakeChecks.laidMetH_plain _ _ _ (by kernel_rfl)]at h;have hg : Tryz.prog.globalNamed "math/bits.deBruijn64tab" = some 0 := by kernel_rfl
 have ht : Lib.TabIs Tryz.prog W "math/bits.deBruijn64tab" .u8 (Lib.deBruijn64tab.map fun x : Nat => (x : Int)) :=
  Lib.tabIs_of_head (g:=0) hg (by kernel_rfl) Tryz.underlying298 Tryz.underlying5 (by kernel_rfl) (by kernel_rfl) h
 intro j hj;have hl:(Lib.deBruijn64tab.map fun x:Nat=>(x:Int)).length=64:=by kernel_rfl
 rw[ht.cell hg j (by omega)];congr 2;rw[List.getD,aD0,List.getD];cases Lib.deBruijn64tab[j]? <;> rfl
theorem lifted(os:Os)(started:os.Started)(H:Type)(enc:TypeId×Value->H)(F:Stop.Interp):
 ReturnsInHanded {} Tryz.checked os 4 .any ((OpenSpec.ofChange Rows.allSpec).preRow enc Tryz.prog Tryz.f4 Rows.allRow.domain false Rows.allRow.laid) (((OpenSpec.ofChange Rows.allSpec).at F).post enc Tryz.prog Tryz.f4 false true false false):=by
 obtain⟨a7,hx⟩:=reads os enc;refine returnsInHanded_of_row (C:=Tryz.checked) (s:=OpenSpec.ofChange Rows.allSpec) own started (by kernel_rfl) Tryz.func4
  (witness_row_at (enc:=enc) (C:=Tryz.checked) false (laidWorld os) noArgs rfl (by kernel_rfl) (by kernel_rfl) (by kernel_rfl)
   (OpenSpec.preRow_of_cond 8 hx (by kernel_rfl) (fun k hk=>by cases hk) (by kernel_rfl) (laid_met os))) ?_
 intro W base args ds gs before hval hW _ _ hsz hl _ _;exact contract H enc W base args ds gs before hval hW (tz_of_laid hl) hsz
theorem said:Rows.AllSaid :=
 OpenClaim.holds_of_cond 4 Tryz.f4 rfl rfl rfl rfl rfl rfl rfl ⟨rfl,rfl,rfl,rfl,rfl⟩ rfl rfl rfl rfl rfl (by kernel_rfl) Tryz.func4 (by kernel_rfl)
  (of_decide_eq_true (by kernel_rfl)) (by unfold Func.isWrapper;first | (rw[if_pos (by decide +kernel)];kernel_rfl) | (rw[if_neg (by decide +kernel)];exact⟨rfl,rfl⟩))
  (fun os started H enc _ F=>by rw[OpenClaim.pre_eq_preRow];exact lifted os started H enc F)
theorem plain (f : FuncId) (fn : Func) (hf : Tryz.pinned.checked.prog.funcNamed "trellis/trellislaw.All" = some f) (hfn : Tryz.pinned.checked.prog.funcs[f]? = some fn) :
 false=Tryz.pinned.checked.prog.looks []/\∀(j:Nat) t,fn.params[j]?=some t->Tryz.pinned.checked.prog.wantsStandIn t=false:=by
 obtain rfl : f = 4 := Option.some.inj ((show Tryz.prog.funcNamed "trellis/trellislaw.All" = some 4 by kernel_rfl).symm.trans hf) |>.symm;obtain rfl:fn=Tryz.f4:=(Option.some.inj (Tryz.func4.symm.trans hfn)).symm;refine⟨by kernel_rfl,fun j t ht => ?_⟩;rw[Tryz.params4]at ht;have hm:t∈[23,24,23,24,25]:=by simpa using Array.mem_of_getElem? ht
 have b0:([23,24,23,24,25].all fun u => !Tryz.prog.wantsStandIn u)=true:=by kernel_rfl
 exact(show Tryz.prog.wantsStandIn t=false by simpa using List.all_eq_true.1 b0 t hm)
end Go.Proofs.YtphjbbbnbmafnaaGreatDoor.alls
namespace Go.Proofs.YtphjbbbnbmafnaaGreatDoor
theorem all_holds:Rows.AllCardSaid :=
 Claim7.holds_tied_plain_at .later [] _ _ _ _ alls.said (fun _ h=>by cases h) (by kernel_rfl) (fun _ h=>by cases h) all_row_tie rfl ⟨rfl,rfl⟩ (by kernel_rfl) rfl alls.plain (by kernel_rfl)
end Go.Proofs.YtphjbbbnbmafnaaGreatDoor
