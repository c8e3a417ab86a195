/- Parts: XBh XOn XLk RxP. -/
import Derived.Test.YtphjbbbnbmafnaaGreatDoorXIt
import Derived.Stop.RegionWithIn
import Derived.Test.YtphjbbbnbmafnaaGreatDoorExt
import Derived.Test.YtphjbbbnbmafnaaGreatDoorXQs
import Derived.Sort.BigQuietIn
set_option maxHeartbeats 16000000
set_option maxRecDepth 100000
namespace Go.Proofs.YtphjbbbnbmafnaaGreatDoor.G
open Go.RowKit Go.Shelf RxM
variable {A W w:World} {B X g n:Nat} {t:TypeId} {y:Obj} {s:ByteArray}
attribute [local go_sem] Oper.semAt_some
abbrev S4:=Nat×Nat×Nat×Nat
def ok4(s:S4):Prop:=s.1<18446744073709551616/\s.2.1<18446744073709551616/\s.2.2.1<18446744073709551616/\s.2.2.2<18446744073709551616
def v4(s:S4):Array Value:=#[.int .u64 (s.1:Int),.int .u64 (s.2.1:Int),.int .u64 (s.2.2.1:Int),.int .u64 (s.2.2.2:Int)]
def or4(s t:S4):S4:=(s.1 ||| t.1,s.2.1 ||| t.2.1,s.2.2.1 ||| t.2.2.1,s.2.2.2 ||| t.2.2.2)
theorem zK{a b:Nat}(ha:a<18446744073709551616)(hb:b<18446744073709551616):a ||| b<18446744073709551616:=Nat.or_lt_two_pow (n:=64) ha hb
theorem jT{s t:S4}(h:ok4 s)(k:ok4 t):ok4 (or4 s t):=⟨zK h.1 k.1,zK h.2.1 k.2.1,zK h.2.2.1 k.2.2.1,zK h.2.2.2 k.2.2.2⟩
def nV(ss:List S4)(ps:List Nat):S4:=ps.foldl (fun acc p=>or4 acc (ss.getD p (0,0,0,0))) (0,0,0,0)
theorem KT(ss:List S4)(ps:List Nat)(p:Nat):nV ss (ps++[p])=or4 (nV ss ps) (ss.getD p (0,0,0,0)):=by unfold nV;rw[List.foldl_append];rfl
theorem II{ss:List S4}(h:∀ s∈ss,ok4 s)(p:Nat):ok4 (ss.getD p (0,0,0,0)):=by
 rw[aC1];cases e:ss[p]? with
 | none=>exact⟨by decide,by decide,by decide,by decide⟩
 | some s=>exact h s (aC3 e)
theorem RP{ss:List S4}(h:∀ s∈ss,ok4 s)(ps:List Nat):ok4 (nV ss ps):=by
 unfold nV;have:∀(ps:List Nat) (acc:S4),ok4 acc->ok4 (ps.foldl (fun acc p=>or4 acc (ss.getD p (0,0,0,0))) acc):=by
  intro ps
  induction ps with
  | nil=>intro acc ha;exact ha
  | cons p ps ih=>intro acc ha;exact ih _ (jT ha (II h p))
 exact this ps _ ⟨by decide,by decide,by decide,by decide⟩
def M7(w:World)(X:Nat)(ss:List S4):Prop:=∃ g off cap,w.cell? ⟨X,0,none⟩=some (.slice (some ⟨g,off,none⟩) ss.length cap)/\∀ j s,ss[j]?=some s->w.cell? ⟨g,off+j*4,none⟩=some (.int .u64 (s.1:Int))/\w.cell? ⟨g,off+j*4+1,none⟩=some (.int .u64 (s.2.1:Int))/\w.cell? ⟨g,off+j*4+2,none⟩=some (.int .u64 (s.2.2.1:Int))/\w.cell? ⟨g,off+j*4+3,none⟩=some (.int .u64 (s.2.2.2:Int))
theorem M7.below{w':World}{ss:List S4}(h:M7 w X ss)(hB:Below w.heap.size w w'):M7 w' X ss:=by
 obtain⟨g,off,cap,h1,h2⟩:=h;refine⟨g,off,cap,cell_kept hB _ _ h1,fun j s hs => ?_⟩;obtain⟨a,b,c,d⟩:=h2 j s hs;exact⟨cell_kept hB _ _ a,cell_kept hB _ _ b,cell_kept hB _ _ c,cell_kept hB _ _ d⟩
theorem gH(s:S4)(w:World):Calls Tryz.prog 180 #[.agg (v4 s)] w fun e w'=>e = .returned (.func (.func 197) #[] #[.pointer (some ⟨w.heap.size,0,none⟩)])/\w'=w.alloc (.cells (v4 s) 135):=by
 obtain⟨a,b,c,d⟩:=s;simp only[v4];go_enter Tryz.func180,Tryz.ntmps180
 go_wp2;go_ret;exact⟨rfl,rfl⟩
theorem mI{W':World}(h:Below W.heap.size W W'):KeepsFrom B W W':=⟨h.size,fun k _ _ hk _=>(h.block k (aC2.1 hk).1).trans hk⟩
theorem uU{X Y:World}{row:Option Nat}{cs:Array Value}(h:X.heap[B]?=some (.cells cs t (0,0)))(hg:X.grownBy Y row)(hr:∀ r,row=some r->∃ o:Obj,X.heap[r]?=some o/\o.isCells=false):Y.heap[B]?=some (.cells cs t (0,0)):=by
 rw[hg.block B (aC2.1 h).1 (fun e=>by
  obtain⟨o,ho,hc⟩:=hr B e.symm;rw[h]at ho;cases ho;cases hc)]
 exact h
theorem aAH{a b c d:Value}(h:W.heap[B]?=some (.cells #[a,b,c,d] t (0,0)))(x0 x1 x2 x3:Value):((((W.setCell ⟨B,0,none⟩ x0).setCell ⟨B,1,none⟩ x1).setCell ⟨B,2,none⟩ x2).setCell ⟨B,3,none⟩ x3).heap[B]?=some (.cells #[x0,x1,x2,x3] t (0,0)) :=
 aH _ B 3 _ _ _ x3 (aH _ B 2 _ _ _ x2 (aH _ B 1 _ _ _ x1 (aH W B 0 _ _ _ x0 h)))
theorem nG(h:W.heap[X]?=some y)(hne:X≠B)(x0 x1 x2 x3:Value):((((W.setCell ⟨B,0,none⟩ x0).setCell ⟨B,1,none⟩ x1).setCell ⟨B,2,none⟩ x2).setCell ⟨B,3,none⟩ x3).heap[X]?=some y :=
 aK _ B 3 X x3 (aK _ B 2 X x2 (aK _ B 1 X x1 (aK W B 0 X x0 h hne) hne) hne) hne
theorem iO(h:Below n A W)(hB:n<=B)(x0 x1 x2 x3:Value):Below n A ((((W.setCell ⟨B,0,none⟩ x0).setCell ⟨B,1,none⟩ x1).setCell ⟨B,2,none⟩ x2).setCell ⟨B,3,none⟩ x3) :=
 (((h.setCell (p:=⟨B,0,none⟩) hB x0).setCell (p:=⟨B,1,none⟩) hB x1).setCell (p:=⟨B,2,none⟩) hB x2).setCell (p:=⟨B,3,none⟩) hB x3
theorem KM(n:Nat)(W:World)(B:Nat)(x0 x1 x2 x3:Value):KeepsFrom n W ((((W.setCell ⟨B,0,none⟩ x0).setCell ⟨B,1,none⟩ x1).setCell ⟨B,2,none⟩ x2).setCell ⟨B,3,none⟩ x3) :=
 ((((KeepsOthers.setCell W _ _).trans (KeepsOthers.setCell _ _ _)).trans (KeepsOthers.setCell _ _ _)).trans (KeepsOthers.setCell _ _ _)).from n
theorem Q8(X:Nat)(ss:List S4)(hss:∀ s∈ss,ok4 s)(s:S4)(hs:ok4 s)(w:World)(hX:M7 w X ss)(hin:∀ p∈jE s.1 s.2.1 s.2.2.1 s.2.2.2 4,p<ss.length)(hT:oL w)(h0w:0<w.heap.size):
 CallsIn Fence.wide 9 Tryz.prog 138 #[.pointer (some ⟨X,0,none⟩),.agg (v4 s)] w fun e w'=>e = .returned (.agg (v4 (nV ss (jE s.1 s.2.1 s.2.2.1 s.2.2.2 4))))/\Below w.heap.size w w':=by
 obtain⟨a,b,c,d⟩:=s;simp only[v4]at hin ⊢;obtain⟨ha,hb,hc,hd⟩:=hs;simp only at ha hb hc hd;have aE:Hid (∀ W,CallsIn Fence.wide 8 Tryz.prog 180 #[.agg #[.int .u64 (a:Int),.int .u64 (b:Int),.int .u64 (c:Int),.int .u64 (d:Int)]] W _):=(fun W=>callsIn_wide.2 (gH (a,b,c,d) W):∀ W,_);have HX:Hid _:=hX;have HT:Hid _:=hT;refine callsIn_of_wp_marks Tryz.func138 rfl trivial ?_ rfl;simp only[Tryz.ntmps138,aL4,aE7,aI3,Nat.reduceAdd,Nat.reduceSub,aI8,Array.replicate_zero,List.push_toArray,List.append_toArray,aJ2,aG9];gi_wp2_with fail
 obtain⟨W4,a0⟩:∃ W4,W4=(((w.alloc (.cells #[.pointer (some ⟨X,0,none⟩)] 95)).alloc (.cells #[.int .u64 (a:Int),.int .u64 (b:Int),.int .u64 (c:Int),.int .u64 (d:Int)] 135)).alloc (.cells #[.int .u64 0,.int .u64 0,.int .u64 0,.int .u64 0] 135)).alloc (.cells #[.int .u64 0,.int .u64 0,.int .u64 0,.int .u64 0] 135):=⟨_,rfl⟩;rw[<-a0];have b0:W4.heap.size=w.heap.size+1+1+1+1:=by rw[a0];simp
 have hJ:Below w.heap.size w W4:=by rw[a0];exact xal (xal (xal (aA _ _)))
 have r2:W4.heap[w.heap.size]?=some (.cells #[.pointer (some ⟨X,0,none⟩)] 95 (0,0)):=by rw[a0];exact aB (aA _ _) (aB (aA _ _) (aB (aA _ _) (heap_alloc_new w _)))
 have r4:W4.heap[w.heap.size+1+1]?=some (.cells #[.int .u64 0,.int .u64 0,.int .u64 0,.int .u64 0] 135 (0,0)):=by
  rw[a0];refine aB (aA _ _) ?_;have:=heap_alloc_new ((w.alloc (.cells #[.pointer (some ⟨X,0,none⟩)] 95)).alloc (.cells #[.int .u64 (a:Int),.int .u64 (b:Int),.int .u64 (c:Int),.int .u64 (d:Int)] 135)) (.cells #[.int .u64 0,.int .u64 0,.int .u64 0,.int .u64 0] 135);rwa [aD1,aD1]at this
 have r5:W4.heap[w.heap.size+1+1+1]?=some (.cells #[.int .u64 0,.int .u64 0,.int .u64 0,.int .u64 0] 135 (0,0)):=by
  rw[a0];have:=heap_alloc_new (((w.alloc (.cells #[.pointer (some ⟨X,0,none⟩)] 95)).alloc (.cells #[.int .u64 (a:Int),.int .u64 (b:Int),.int .u64 (c:Int),.int .u64 (d:Int)] 135)).alloc (.cells #[.int .u64 0,.int .u64 0,.int .u64 0,.int .u64 0] 135)) (.cells #[.int .u64 0,.int .u64 0,.int .u64 0,.int .u64 0] 135);rwa [aD1,aD1,aD1]at this
 have HW4:Hid _:=a0;clear a0;refine⟨trivial,(aE.out W4).mono ?_⟩;rintro e W5 ⟨rfl,hW5⟩;have a3:Below W4.heap.size W4 W5:=by rw[hW5];exact aA _ _
 have r8:W5.heap[w.heap.size+1+1+1+1]?=some (.cells #[.int .u64 (a:Int),.int .u64 (b:Int),.int .u64 (c:Int),.int .u64 (d:Int)] 135 (0,0)):=by rw[hW5,<-b0];exact heap_alloc_new W4 _
 have a7:=chain hJ a3;have q2:=aB a3 r2;have q4:=aB a3 r4;have q5:=aB a3 r5;have hs5:w.heap.size+1+1+1+1<=W5.heap.size:=by have:=a3.size;omega
 rw[b0];clear hW5 hJ a3 r2 r4 r5 aE;gi_wp2;refine wpIn_rangeFunc_ownH rfl (by decide) (gf:=197) (lb:=#[.pointer (some ⟨w.heap.size+1+1+1+1,0,none⟩)]) rfl trivial (enters_of Tryz.func197 (by kernel_rfl) rfl)
  (qY 8 (w.heap.size+1+1+1+1) w.heap.size a b c d ha hb hc hd W5 h0w (hT.below a7) r8) belowK_t (belowK_b (by omega)) (YQ _ _) (fun _=>rfl)
  (fun pre W=>W.heap[w.heap.size+1+1+1]?=some (.cells (v4 (nV ss (pre.map (·.1)))) 135 (0,0))/\W.heap[w.heap.size]?=some (.cells #[.pointer (some ⟨X,0,none⟩)] 95 (0,0))/\W.heap[w.heap.size+1+1]?=some (.cells #[.int .u64 0,.int .u64 0,.int .u64 0,.int .u64 0] 135 (0,0))/\Below w.heap.size w W)
  (fun _ _ _=>False)
  (fun _ W W' row ⟨h1,h2,h3,h4⟩ hg hr=>⟨uU h1 hg (fun r e=>(hr r e).2),uU h2 hg (fun r e=>(hr r e).2),uU h3 hg (fun r e=>(hr r e).2),h4.grown hg h4.size (fun r e=>by have:=(hr r e).1;omega)⟩)
  (fun _ _ _ _ _ hs _ _=>hs)
  ⟨q5,q2,q4,a7⟩
  (fun x a' _=>a'={ tmps:=#[.pointer (some ⟨X,0,none⟩),.agg #[.int .u64 (a:Int),.int .u64 (b:Int),.int .u64 (c:Int),.int .u64 (d:Int)],.pointer (some ⟨w.heap.size,0,none⟩),.pointer (some ⟨w.heap.size+1,0,none⟩),.pointer (some ⟨w.heap.size+1+1,0,none⟩),.pointer (some ⟨w.heap.size+1+1+1,0,none⟩),.int .i64 (x.1:Int),.agg #[.int .u64 (a:Int),.int .u64 (b:Int),.int .u64 (c:Int),.int .u64 (d:Int)],.func (.func 197) #[] #[.pointer (some ⟨w.heap.size+1+1+1+1,0,none⟩)],.int .i64 (x.1:Int),undef,undef,undef,undef,undef,undef,undef,undef,undef,undef],defers:=[] })
  (fun _ _ _ _ _ _ hs _ _=>hs)
  ?assign ?body ?done ?stop
 case assign =>
  rintro l pre x W K hI hK;gi_wp2;exact hK _ _ (KeepsFrom.refl _ _) (YQ _ _) hI rfl
 case body =>
  rintro l pre ⟨x,hx⟩ a' W hl ⟨r,hr⟩ ⟨i5,i2,i4,iB⟩ rfl hlt;have b3:=hin x hx;obtain⟨g,off,cap,hsl2,b1⟩:=hX.below iB;obtain⟨t,ht⟩:∃ t,ss[x]?=some t:=⟨_,A7 b3⟩;obtain⟨e0,e1,e2,e3⟩:=b1 x t ht;have a1:=RP hss (pre.map (·.1));have a5:=hss t (aC3 ht);have b2:nV ss ((pre++[(⟨x,hx⟩:{ x:Nat // x∈jE a b c d 4 })]).map (·.1))=or4 (nV ss (pre.map (·.1))) t:=by
   rw[aJ3,aJ4,List.map_nil,KT,aC1,ht];rfl
  have aG:Hid _:=b2;clear b2;generalize nV ss (pre.map (·.1))=acc at i5 a1 aG;obtain⟨o1,o2,o3,o4⟩:=acc;obtain⟨t1,t2,t3,t4⟩:=t;simp only at e0 e1 e2 e3;have a6:Hid (∀ W,Calls Tryz.prog 134 _ W _):=fun W=>fP o1 o2 o3 o4 t1 t2 t3 t4 a1.1 a1.2.1 a1.2.2.1 a1.2.2.2 a5.1 a5.2.1 a5.2.2.1 a5.2.2.2 W;obtain⟨⟨c0,c1,c2,c3⟩,_⟩:=dO i5;have p2:W.cell? ⟨w.heap.size,0,none⟩=some (.pointer (some ⟨X,0,none⟩)):=by rw[cell_of_row _ _ 0 _ _ _ i2];rfl
  have hxI:(x:Int)<(ss.length:Int):=by omega
  have HI:Hid _:=i5;have HI2:Hid _:=i2;have b5:Hid _:=i4;have b4:Hid _:=iB;clear b1 ht a1 a5 i5 i2 i4 iB hX hT hin hss;simp only;gi_wp2_with fail
  gi_region_with (first | (refine⟨trivial,(fun h=>by cases h),((callsIn_wide.2 (a6.out _)).inRound l).mono ?_⟩;rintro r w1 ⟨rfl,hB1d⟩;have a2:=((YQ W.heap.size W).drew).trans hB1d;clear hB1d;obtain⟨⟨k0,k1,k2,k3⟩,f0,f1,f2,f3⟩:=dO (aB a2 HI.out)) | (refine⟨trivial,((callsIn_wide.2 (a6.out _)).inRound l).mono ?_⟩;rintro r w1 ⟨rfl,hB1d⟩;have a2:=((YQ W.heap.size W).drew).trans hB1d;clear hB1d;obtain⟨⟨k0,k1,k2,k3⟩,f0,f1,f2,f3⟩:=dO (aB a2 HI.out)))
  all_goals
   have hK:Below w.heap.size W w1:=a2.mono b4.out.size;exact⟨(mI a2).trans (KM _ _ _ _ _ _ _),iO hK (by omega) _ _ _ _,by rw[aG.out];exact aAH (aB a2 HI.out) _ _ _ _,nG (aB a2 HI2.out) (by omega) _ _ _ _,nG (aB a2 b5.out) (by omega) _ _ _ _,iO (b4.out.trans hK) (by omega) _ _ _ _⟩
 case done =>
  rintro D ys W hD hys ⟨i5,i2,i4,iB⟩ hK;rw[hys]at i5;have HI5:Hid _:=i5;have b5:Hid _:=i4;have b4:Hid _:=iB;obtain⟨z,hz⟩:∃ z,z=nV ss (jE a b c d 4):=⟨_,rfl⟩;rw[<-hz]at i5;obtain⟨z0,z1,z2,z3⟩:=z;obtain⟨⟨c0,c1,c2,c3⟩,_⟩:=dO i5;obtain⟨⟨d0,d1,d2,d3⟩,e0,e1,e2,e3⟩:=dO i4;have HZ:Hid _:=hz;clear hz i5 i2 i4 iB hys hX hT hin hss;simp only at c0 c1 c2 c3;gi_wp2;refine⟨by simp,.inl ⟨_,_,rfl,run_takeDeferred (nG hK (by omega) _ _ _ _),?_⟩⟩;refine⟨_,results_cell_row rfl _ _ (w.heap.size+1+1) _ #[.int .u64 (z0:Int),.int .u64 (z1:Int),.int .u64 (z2:Int),.int .u64 (z3:Int)] (0,0) _ rfl ((World.putObj_heap_other (by omega)).trans (aAH b5.out _ _ _ _)) rfl rfl rfl,by rw[<-HZ.out],?_⟩;exact(iO b4.out (by omega) _ _ _ _).trans (belowK_b (w:=w) (V7 _) _ D _ _ (by omega) (nG hK (by omega) _ _ _ _) rfl rfl)
 case stop =>
  rintro D c pre W _ _ h _;exact h.elim
theorem LB(X:Nat)(ss:List S4)(hss:∀ s∈ss,ok4 s)(s:S4)(hs:ok4 s)(w:World)(hX:M7 w X ss)(hin:∀ p∈jE s.1 s.2.1 s.2.2.1 s.2.2.2 4,p<ss.length)(hT:oL w)(h0w:0<w.heap.size):
 Calls Tryz.prog 138 #[.pointer (some ⟨X,0,none⟩),.agg (v4 s)] w fun e w'=>e = .returned (.agg (v4 (nV ss (jE s.1 s.2.1 s.2.2.1 s.2.2.2 4))))/\Below w.heap.size w w' :=
 callsIn_wide.1 (Q8 X ss hss s hs w hX hin hT h0w)
def gY(p:Nat):S4:=(if p / 64=0 then 2 ^ (p % 64)else 0,if p / 64=1 then 2 ^ (p % 64)else 0,if p / 64=2 then 2 ^ (p % 64)else 0,if p / 64=3 then 2 ^ (p % 64)else 0)
theorem oC(p:Nat)(hp:p<256)(w:World):Calls Tryz.prog 75 #[.int .i64 (p:Int)] w fun e w'=>e = .returned (.agg (v4 (gY p)))/\Below w.heap.size w w':=by
 have he:IntKind.u64.wrap ((2:Int) ^ (p % 64))=((2 ^ (p % 64):Nat):Int):=by
  have:=aH7 (a:=2) (by decide) (show p % 64<64 by omega);rw[show((2:Int) ^ (p % 64))=((2 ^ (p % 64):Nat):Int) by rw[Int.natCast_pow];rfl,IntKind.wrap_u64];generalize 2 ^ (p % 64)=m at *;omega
 rcases(show p / 64=0\/p / 64=1\/p / 64=2\/p / 64=3 by omega)with d | d | d | d;all_goals
  have d2:(p:Int) / 64=((p / 64:Nat):Int):=by omega
  rw[d]at d2;go_enter Tryz.func75,Tryz.ntmps75
  go_wp2;refine bodyPost_ret (results_cell_row rfl _ _ w.heap.size _ _ (0,0) _ rfl (aB (aA _ _) (heap_alloc_new w _)) rfl rfl rfl) rfl ⟨by simp[gY,v4,d],xal (aA _ _)⟩
theorem U8(s:ByteArray):∀ k i (r:List UInt8),s.size-i<=k->r.length<=(ByteArray.toList.loop s i r).length:=by
 intro k
 induction k with
 | zero=>intro i r h;unfold ByteArray.toList.loop;rw[if_neg (by omega)];simp
 | succ k ih =>
  intro i r h;unfold ByteArray.toList.loop;by_cases hi:i<s.size
  ·rw[if_pos hi];exact aD9 (by simp) (ih (i+1) (s.get! i::r) (by omega))
  ·rw[if_neg hi];simp
theorem xR(hs:0<s.size):¬ s.toList=[]:=by
 intro h;have:=U8 s s.size 1 [s.get! 0] (by omega);unfold ByteArray.toList ByteArray.toList.loop at h;rw[if_pos hs]at h;rw[h]at this;simp at this
theorem OZ(R c:Nat)(w:World)(h:w.cell? ⟨R,0,none⟩=some (.string ⟨#[]⟩)):Calls Tryz.prog 133 #[.pointer (some ⟨R,0,none⟩),.int .u8 (c:Int)] w fun e w'=>e = .returned (.bool false)/\w'=w:=by
 go_enter Tryz.func133,Tryz.ntmps133
 go_wp2;go_ret;exact⟨rfl,rfl⟩
theorem KL(R c:Nat)(s:ByteArray)(w:World)(hs:0<s.size)(hne:s[0].toNat≠c)(h:w.cell? ⟨R,0,none⟩=some (.string s)):Calls Tryz.prog 133 #[.pointer (some ⟨R,0,none⟩),.int .u8 (c:Int)] w fun e w'=>e = .returned (.bool false)/\w'=w:=by
 have h1:=xR hs;have h2:s.toList.isEmpty=false:=by rw[Bool.eq_false_iff];exact fun e=>h1 (List.isEmpty_iff.1 e)
 have h3:((s[0].toNat:Int) != (c:Int))=true:=by simp;omega
 go_enter Tryz.func133,Tryz.ntmps133
 go_wp2;go_ret;exact⟨rfl,rfl⟩
theorem take_same(R:Nat)(s:ByteArray)(w:World)(hs:0<s.size)(h:w.cell? ⟨R,0,none⟩=some (.string s))(hf:w.frozen? ⟨R,0,none⟩=false):Calls Tryz.prog 133 #[.pointer (some ⟨R,0,none⟩),.int .u8 (s[0].toNat:Int)] w fun e w'=>e = .returned (.bool true)/\w'=w.setCell ⟨R,0,none⟩ (.string (s.extract 1 s.size)):=by
 have h1:=xR hs;have h2:s.toList.isEmpty=false:=by rw[Bool.eq_false_iff];exact fun e=>h1 (List.isEmpty_iff.1 e)
 have h3:((s[0].toNat:Int) != (s[0].toNat:Int))=false:=by simp
 go_enter Tryz.func133,Tryz.ntmps133
 go_wp2;go_ret;exact⟨rfl,rfl⟩
def codes(s:ByteArray):List Nat:=s.data.toList.map UInt8.toNat
theorem cO(s:ByteArray):(codes s).length=s.size:=by simp[codes]
theorem xD(hs:0<s.size):codes s=s[0].toNat::codes (s.extract 1 s.size):=by
 have e:(s.extract 1 s.size).data.toList=s.data.toList.drop 1:=by
  rw[ByteArray.data_extract,Array.toList_extract];simp only[List.extract_eq_take_drop];exact aD2 (by simp)
 have h0:0<s.data.toList.length:=by simpa using hs
 unfold codes;rw[e];have:s.data.toList=s[0]::s.data.toList.drop 1:=aG0 h0;conv=>lhs;rw[this]
 rfl
theorem mO(R c:Nat)(s:ByteArray)(w:World)(h:w.cell? ⟨R,0,none⟩=some (.string s))(hf:w.frozen? ⟨R,0,none⟩=false):Calls Tryz.prog 133 #[.pointer (some ⟨R,0,none⟩),.int .u8 (c:Int)] w fun e w'=>(∃ s2:ByteArray,codes s=c::codes s2/\s2.size+1=s.size/\e = .returned (.bool true)/\w'=w.setCell ⟨R,0,none⟩ (.string s2))\/((∀ l,codes s≠c::l)/\e = .returned (.bool false)/\w'=w):=by
 by_cases hs:0<s.size
 ·by_cases hc:s[0].toNat=c
  ·subst hc;refine(take_same R s w hs h hf).mono ?_;rintro e w' ⟨rfl,rfl⟩;have hcs:=xD hs;refine .inl ⟨_,hcs,?_,rfl,rfl⟩;have:=congrArg List.length hcs;rw[aE7,cO,cO]at this;exact this.symm
  ·refine(KL R c s w hs hc h).mono ?_;rintro e w' ⟨rfl,rfl⟩;refine .inr ⟨fun l hl=>hc ?_,rfl,rfl⟩;rw[xD hs]at hl;exact(List.cons.inj hl).1
 ·have h0:s=⟨#[]⟩:=ByteArray.size_eq_zero_iff.1 (by omega);subst h0;refine(OZ R c w h).mono ?_;rintro e w' ⟨rfl,rfl⟩;exact .inr ⟨fun l hl=>by simp[codes]at hl,rfl,rfl⟩
def oO(w:World)(X o:Nat)(ss:List S4):Prop:=∃ g off cap,w.cell? ⟨X,o,none⟩=some (.slice (some ⟨g,off,none⟩) ss.length cap)/\∀ j s,ss[j]?=some s->w.cell? ⟨g,off+j*4,none⟩=some (.int .u64 (s.1:Int))/\w.cell? ⟨g,off+j*4+1,none⟩=some (.int .u64 (s.2.1:Int))/\w.cell? ⟨g,off+j*4+2,none⟩=some (.int .u64 (s.2.2.1:Int))/\w.cell? ⟨g,off+j*4+3,none⟩=some (.int .u64 (s.2.2.2:Int))
theorem oO.beh{ss:List S4}(h:oO w X 0 ss):M7 w X ss:=h
theorem MR(X:Nat)(ts:List S4)(c:Nat)(t:S4)(w:World)(hX:oO w X 1 ts)(ht:ts[c]?=some t):Calls Tryz.prog 141 #[.pointer (some ⟨X,0,none⟩),.int .i64 (c:Int)] w fun e w'=>e = .returned (.agg (v4 t))/\Below w.heap.size w w':=by
 obtain⟨g,off,cap,h0,h1⟩:=hX;obtain⟨e0,e1,e2,e3⟩:=h1 c t ht;have hc:c<ts.length:=(aC4.1 ht).1;have hcI:(c:Int)<(ts.length:Int):=by omega
 obtain⟨t0,t1,t2,t3⟩:=t;simp only at e0 e1 e2 e3;have k0:=fun o=>cell_kept (aA w o) _ _ h0;have l0:=fun o=>cell_kept (aA w o) _ _ e0;have l1:=fun o=>cell_kept (aA w o) _ _ e1;have l2:=fun o=>cell_kept (aA w o) _ _ e2;have l3:=fun o=>cell_kept (aA w o) _ _ e3;clear h1 ht h0 e0 e1 e2 e3;go_enter Tryz.func141,Tryz.ntmps141
 go_wp2;exact bodyPost_ret (results_cell_row rfl _ _ w.heap.size _ _ (0,0) _ rfl (heap_alloc_new w _) rfl rfl rfl) rfl ⟨rfl,aA _ _⟩
theorem KR(X:Nat)(s t:S4)(hs:ok4 s)(ht:ok4 t)(w:World)(h2:w.cell? ⟨X,2,none⟩=some (.int .u64 (t.1:Int)))(h3:w.cell? ⟨X,3,none⟩=some (.int .u64 (t.2.1:Int)))(h4:w.cell? ⟨X,4,none⟩=some (.int .u64 (t.2.2.1:Int)))(h5:w.cell? ⟨X,5,none⟩=some (.int .u64 (t.2.2.2:Int))):
 Calls Tryz.prog 80 #[.pointer (some ⟨X,0,none⟩),.agg (v4 s)] w fun e w'=>e = .returned (.bool (!(decide (s.1 &&& t.1=0/\s.2.1 &&& t.2.1=0/\s.2.2.1 &&& t.2.2.1=0/\s.2.2.2 &&& t.2.2.2=0))))/\Below w.heap.size w w':=by
 obtain⟨s0,s1,s2,s3⟩:=s;obtain⟨t0,t1,t2,t3⟩:=t;simp only[v4]at h2 h3 h4 h5 ⊢;have HA:Hid (∀ W,Calls Tryz.prog 140 _ W _):=fun W=>wO s0 s1 s2 s3 t0 t1 t2 t3 hs.1 hs.2.1 hs.2.2.1 hs.2.2.2 ht.1 ht.2.1 ht.2.2.1 ht.2.2.2 W;have HE:Hid (∀ W,Calls Tryz.prog 137 _ W _):=fun W=>rJ (s0 &&& t0) (s1 &&& t1) (s2 &&& t2) (s3 &&& t3) W;generalize decide (s0 &&& t0=0/\s1 &&& t1=0/\s2 &&& t2=0/\s3 &&& t3=0)=z at HE ⊢;obtain⟨W0,aL⟩:∃ W0,W0=w.alloc (.cells #[.int .u64 (s0:Int),.int .u64 (s1:Int),.int .u64 (s2:Int),.int .u64 (s3:Int)] 135):=⟨_,rfl⟩;have hJ:Below w.heap.size w W0:=by rw[aL];exact aA _ _
 have r0:W0.heap[w.heap.size]?=some (.cells #[.int .u64 (s0:Int),.int .u64 (s1:Int),.int .u64 (s2:Int),.int .u64 (s3:Int)] 135 (0,0)):=by rw[aL];exact heap_alloc_new w _
 obtain⟨⟨c0,c1,c2,c3⟩,_⟩:=dO r0;have u2:=fun u=>aC (cell_kept hJ _ _ h2) u;have u3:=fun u=>aC (cell_kept hJ _ _ h3) u;have u4:=fun u=>aC (cell_kept hJ _ _ h4) u;have u5:=fun u=>aC (cell_kept hJ _ _ h5) u;have d0:=fun u=>aC c0 u;have d1:=fun u=>aC c1 u;have d2:=fun u=>aC c2 u;have d3:=fun u=>aC c3 u;have HJ:Hid _:=hJ;clear hJ r0 c0 c1 c2 c3 h2 h3 h4 h5;go_enter Tryz.func80,Tryz.ntmps80
 go_wp2_with fail
 rw[<-aL];have HW0:Hid _:=aL;clear aL;refine bG (by kernel_rfl) (by kernel_rfl) ?_;repeat (go_big_quiet_step (first
  | (go_at_call 140;refine(HA.out _).mono ?_;rintro r w1 ⟨rfl,hB⟩;exact⟨rfl,w1,aN (chain (aD _ _) hB)⟩)
  | (go_at_call 137;refine(HE.out _).mono ?_;rintro r w1 ⟨rfl,hB⟩;exact⟨rfl,w1,aN (chain (aD _ _) hB)⟩)))
 refine wpQuiet_nil ?_;intro wx hw;obtain⟨u,rfl⟩:=hw;have HB:Hid _:=chain HJ.out (aD W0 u);go_wp2;go_ret;exact⟨rfl,HB.out⟩
def lM(ss:List S4):List Value:=ss.flatMap fun s=>(v4 s).toList
theorem DT(ss:List S4):(lM ss).length=ss.length*4:=by
 unfold lM
 induction ss with
 | nil=>rfl
 | cons s ss ih=>rw[List.flatMap_cons,WT,ih,aE7];simp[v4];omega
theorem mW(s:S4)(ss:List S4):lM (s::ss) = .int .u64 (s.1:Int)::.int .u64 (s.2.1:Int)::.int .u64 (s.2.2.1:Int)::.int .u64 (s.2.2.2:Int)::lM ss:=rfl
theorem zS(ss:List S4)(j:Nat)(s:S4)(h:ss[j]?=some s):(lM ss)[j*4]?=some (.int .u64 (s.1:Int))/\(lM ss)[j*4+1]?=some (.int .u64 (s.2.1:Int))/\(lM ss)[j*4+2]?=some (.int .u64 (s.2.2.1:Int))/\(lM ss)[j*4+3]?=some (.int .u64 (s.2.2.2:Int)):=by
 induction ss generalizing j with
 | nil=>simp at h
 | cons x ss ih =>
  rw[mW];cases j with
  | zero=>simp at h;subst h;exact⟨rfl,rfl,rfl,rfl⟩
  | succ j =>
   rw[aJ5]at h;have:=ih j h;rw[show(j+1)*4=j*4+4 by omega];exact this
theorem QB(ss:List S4)(j:Nat)(s:S4)(h:j<ss.length):((((lM ss).set (j*4) (.int .u64 (s.1:Int))).set (j*4+1) (.int .u64 (s.2.1:Int))).set (j*4+2) (.int .u64 (s.2.2.1:Int))).set (j*4+3) (.int .u64 (s.2.2.2:Int))=lM (ss.set j s):=by
 induction ss generalizing j with
 | nil=>simp at h
 | cons x ss ih =>
  rw[mW];cases j with
  | zero=>rfl
  | succ j =>
   rw[List.set_cons_succ,mW,<-ih j (by simpa using h),show(j+1)*4=j*4+4 by omega];rfl
def aS(t:S4)(ss:List S4)(ps:List Nat):List S4:=ps.foldl (fun a p=>a.set p (or4 (a.getD p (0,0,0,0)) t)) ss
theorem rG(t:S4)(ss:List S4)(ps:List Nat)(p:Nat):aS t ss (ps++[p])=(aS t ss ps).set p (or4 ((aS t ss ps).getD p (0,0,0,0)) t):=by unfold aS;rw[List.foldl_append];rfl
theorem aV(t:S4)(ss:List S4)(ps:List Nat):(aS t ss ps).length=ss.length:=by
 unfold aS
 induction ps generalizing ss with
 | nil=>rfl
 | cons p ps ih=>rw[List.foldl_cons,ih,List.length_set]
theorem iT{t:S4}(ht:ok4 t){ss:List S4}(h:∀ s∈ss,ok4 s)(ps:List Nat):∀ s∈aS t ss ps,ok4 s:=by
 unfold aS
 induction ps generalizing ss with
 | nil=>exact h
 | cons p ps ih =>
  refine ih fun s hs => ?_;rcases List.mem_or_eq_of_mem_set hs with hs | rfl
  ·exact h s hs
  ·exact jT (II h p) ht
abbrev eG(w:World)(base g cap:Nat)(ss:List S4):Prop:=w.ownsRow base 135 4 (.slice (some ⟨g,0,none⟩) ss.length cap) ss.length (lM ss)
theorem own4{base cap:Nat}{cu:List S4}(h:eG W base g cap cu){x:Nat}(hx:x<cu.length)(y:S4):eG ((((W.setCell ⟨g,x*4,none⟩ (.int .u64 (y.1:Int))).setCell ⟨g,x*4+1,none⟩ (.int .u64 (y.2.1:Int))).setCell ⟨g,x*4+2,none⟩ (.int .u64 (y.2.2.1:Int))).setCell ⟨g,x*4+3,none⟩ (.int .u64 (y.2.2.2:Int))) base g cap (cu.set x y):=by
 unfold eG;rw[List.length_set,<-QB _ _ _ hx];exact((((h.stored (x*4) _).1.stored (x*4+1) _).1.stored (x*4+2) _).1.stored (x*4+3) _).1
theorem sP(W:World)(g i0 i1 i2 i3:Nat)(x0 x1 x2 x3:Value):Same W ((((W.setCell ⟨g,i0,none⟩ x0).setCell ⟨g,i1,none⟩ x1).setCell ⟨g,i2,none⟩ x2).setCell ⟨g,i3,none⟩ x3) (fun k=>k=g) :=
 ((((Same.set W ⟨g,i0,none⟩ x0).trans (Same.set _ ⟨g,i1,none⟩ x1)).trans (Same.set _ ⟨g,i2,none⟩ x2)).trans (Same.set _ ⟨g,i3,none⟩ x3)).mono fun k _ e=>by rcases e with ((e | e) | e) | e <;> exact e
theorem aAy(n:Nat)(W:World)(g i0 i1 i2 i3:Nat)(x0 x1 x2 x3:Value):KeepsFrom n W ((((W.setCell ⟨g,i0,none⟩ x0).setCell ⟨g,i1,none⟩ x1).setCell ⟨g,i2,none⟩ x2).setCell ⟨g,i3,none⟩ x3) :=
 ((((KeepsOthers.setCell W _ _).trans (KeepsOthers.setCell _ _ _)).trans (KeepsOthers.setCell _ _ _)).trans (KeepsOthers.setCell _ _ _)).from n
theorem kC(h:Below n A W)(hg:n<=g)(i0 i1 i2 i3:Nat)(x0 x1 x2 x3:Value):Below n A ((((W.setCell ⟨g,i0,none⟩ x0).setCell ⟨g,i1,none⟩ x1).setCell ⟨g,i2,none⟩ x2).setCell ⟨g,i3,none⟩ x3) :=
 (((h.setCell (p:=⟨g,i0,none⟩) hg x0).setCell (p:=⟨g,i1,none⟩) hg x1).setCell (p:=⟨g,i2,none⟩) hg x2).setCell (p:=⟨g,i3,none⟩) hg x3
theorem qX(h:W.heap[X]?=some y)(hne:X≠g)(i0 i1 i2 i3:Nat)(x0 x1 x2 x3:Value):((((W.setCell ⟨g,i0,none⟩ x0).setCell ⟨g,i1,none⟩ x1).setCell ⟨g,i2,none⟩ x2).setCell ⟨g,i3,none⟩ x3).heap[X]?=some y :=
 aK _ g i3 X x3 (aK _ g i2 X x2 (aK _ g i1 X x1 (aK W g i0 X x0 h hne) hne) hne) hne
theorem YU(R X base g cap:Nat)(ss:List S4)(hss:∀ s∈ss,ok4 s)(s t:S4)(hs:ok4 s)(ht:ok4 t)(w:World)(hR:w.cell? ⟨R,2,none⟩=some (.pointer (some ⟨X,0,none⟩)))(hX:w.cell? ⟨X,0,none⟩=some (.slice (some ⟨g,0,none⟩) ss.length cap))(hRg:R≠g)(hXg:X≠g)(hrow:eG w base g cap ss)
 (hin:∀ p∈jE s.1 s.2.1 s.2.2.1 s.2.2.2 4,p<ss.length) (hT:oL w) (hb0:0<base) :
 CallsIn Fence.wide 9 Tryz.prog 135 #[.pointer (some ⟨R,0,none⟩),.agg (v4 s),.agg (v4 t)] w fun e w'=>e = .returned (.tuple #[])/\eG w' base g cap (aS t ss (jE s.1 s.2.1 s.2.2.1 s.2.2.2 4))/\Same w w' (fun k=>k=g)/\Below base w w':=by
 obtain⟨a,b,c,d⟩:=s;obtain⟨t0,t1,t2,t3⟩:=t;simp only[v4]at hin ⊢;obtain⟨ha,hb,hc,hd⟩:=hs;simp only at ha hb hc hd;have hg:=hrow.lt g rfl;have aE:Hid (∀ W,CallsIn Fence.wide 8 Tryz.prog 180 #[.agg #[.int .u64 (a:Int),.int .u64 (b:Int),.int .u64 (c:Int),.int .u64 (d:Int)]] W _):=(fun W=>callsIn_wide.2 (gH (a,b,c,d) W):∀ W,_);have b6:Hid _:=hrow;have HR:Hid _:=hR;have HX:Hid _:=hX;have HT:Hid _:=hT;clear hrow hR hX hT;refine callsIn_of_wp_marks Tryz.func135 rfl trivial ?_ rfl;simp only[Tryz.ntmps135,aL4,aE7,aI3,Nat.reduceAdd,Nat.reduceSub,aI8,Array.replicate_zero,List.push_toArray,List.append_toArray,aJ2,aG9];gi_wp2_with fail
 obtain⟨W4,a0⟩:∃ W4,W4=((w.alloc (.cells #[.pointer (some ⟨R,0,none⟩)] 129)).alloc (.cells #[.int .u64 (a:Int),.int .u64 (b:Int),.int .u64 (c:Int),.int .u64 (d:Int)] 135)).alloc (.cells #[.int .u64 (t0:Int),.int .u64 (t1:Int),.int .u64 (t2:Int),.int .u64 (t3:Int)] 135):=⟨_,rfl⟩;rw[<-a0];have b0:W4.heap.size=w.heap.size+1+1+1:=by rw[a0];simp
 have hJ:Below w.heap.size w W4:=by rw[a0];exact xal (xal (aA _ _))
 have r2:W4.heap[w.heap.size]?=some (.cells #[.pointer (some ⟨R,0,none⟩)] 129 (0,0)):=by rw[a0];exact aB (aA _ _) (aB (aA _ _) (heap_alloc_new w _))
 have r4:W4.heap[w.heap.size+1+1]?=some (.cells #[.int .u64 (t0:Int),.int .u64 (t1:Int),.int .u64 (t2:Int),.int .u64 (t3:Int)] 135 (0,0)):=by
  rw[a0];have:=heap_alloc_new ((w.alloc (.cells #[.pointer (some ⟨R,0,none⟩)] 129)).alloc (.cells #[.int .u64 (a:Int),.int .u64 (b:Int),.int .u64 (c:Int),.int .u64 (d:Int)] 135)) (.cells #[.int .u64 (t0:Int),.int .u64 (t1:Int),.int .u64 (t2:Int),.int .u64 (t3:Int)] 135);rwa [aD1,aD1]at this
 have HW4:Hid _:=a0;clear a0;refine⟨trivial,(aE.out W4).mono ?_⟩;rintro e W5 ⟨rfl,hW5⟩;have a3:Below W4.heap.size W4 W5:=by rw[hW5];exact aA _ _
 have r8:W5.heap[w.heap.size+1+1+1]?=some (.cells #[.int .u64 (a:Int),.int .u64 (b:Int),.int .u64 (c:Int),.int .u64 (d:Int)] 135 (0,0)):=by rw[hW5,<-b0];exact heap_alloc_new W4 _
 have a7:=chain hJ a3;have q2:=aB a3 r2;have q4:=aB a3 r4;have hs5:w.heap.size+1+1+1<=W5.heap.size:=by have:=a3.size;omega
 rw[b0];clear hW5 hJ a3 r2 r4 aE;gi_wp2;refine wpIn_rangeFunc_ownH rfl (by decide) (gf:=197) (lb:=#[.pointer (some ⟨w.heap.size+1+1+1,0,none⟩)]) rfl trivial (enters_of Tryz.func197 (by kernel_rfl) rfl)
  (qY 8 (w.heap.size+1+1+1) base a b c d ha hb hc hd W5 hb0 (oL.below (w:=w) HT.out a7) r8) belowK_t (belowK_b (by omega)) (YQ _ _) (fun _=>rfl)
  (fun(pre:List { x:Nat // x∈jE a b c d 4 }) W=>eG W base g cap (aS (t0,t1,t2,t3) ss (pre.map Subtype.val))/\W.heap[w.heap.size]?=some (.cells #[.pointer (some ⟨R,0,none⟩)] 129 (0,0))/\W.heap[w.heap.size+1+1]?=some (.cells #[.int .u64 (t0:Int),.int .u64 (t1:Int),.int .u64 (t2:Int),.int .u64 (t3:Int)] 135 (0,0))/\Same w W (fun k=>k=g)/\Below base w W)
  (fun _ _ _=>False)
  (fun _ W W' row ⟨h1,h2,h3,h4,h5⟩ hg2 hr=>⟨h1.kept hg2 (.inr fun e=>by have:=(hr g e.symm).1;omega),uU h2 hg2 (fun r e=>(hr r e).2),uU h3 hg2 (fun r e=>(hr r e).2),(h4.trans (Same.grown hg2)).mono (fun k hk e=>e.elim id (fun e=>by have:=(hr k e).1;omega)),h5.grown hg2 (by have:=h5.size;omega) (fun r e=>by have:=(hr r e).1;omega)⟩)
  (fun _ _ _ _ _ hs _ _=>hs)
  ⟨aF b6.out (Same.below a7) (fun _ _ e=>e),q2,q4,(Same.below a7).mono (fun _ _ e=>e.elim),a7.mono (by omega)⟩
  (fun x a' _=>a'={ tmps:=#[.pointer (some ⟨R,0,none⟩),.agg #[.int .u64 (a:Int),.int .u64 (b:Int),.int .u64 (c:Int),.int .u64 (d:Int)],.agg #[.int .u64 (t0:Int),.int .u64 (t1:Int),.int .u64 (t2:Int),.int .u64 (t3:Int)],.pointer (some ⟨w.heap.size,0,none⟩),.pointer (some ⟨w.heap.size+1,0,none⟩),.pointer (some ⟨w.heap.size+1+1,0,none⟩),.int .i64 (x.1:Int),.agg #[.int .u64 (a:Int),.int .u64 (b:Int),.int .u64 (c:Int),.int .u64 (d:Int)],.func (.func 197) #[] #[.pointer (some ⟨w.heap.size+1+1+1,0,none⟩)],.int .i64 (x.1:Int),undef,undef,undef,undef,undef,undef,undef,undef,undef,undef,undef,undef,undef,undef,undef,undef,undef,undef,undef,undef,undef],defers:=[] })
  (fun _ _ _ _ _ _ hs _ _=>hs)
  ?assign ?body ?done ?stop
 case assign =>
  rintro l pre x W K hI hK;gi_wp2;exact hK _ _ (KeepsFrom.refl _ _) (YQ _ _) hI rfl
 case body =>
  rintro l pre ⟨x,hx⟩ a' W hl ⟨r,hr⟩ ⟨iR,i2,i4,iS,iB⟩ rfl hlt;have b7:=iT ht hss (pre.map Subtype.val);have b3:x<(aS (t0,t1,t2,t3) ss (pre.map Subtype.val)).length:=by rw[aV];exact hin x hx
  have b2:aS (t0,t1,t2,t3) ss ((pre++[(⟨x,hx⟩:{ x:Nat // x∈jE a b c d 4 })]).map Subtype.val)=(aS (t0,t1,t2,t3) ss (pre.map Subtype.val)).set x (or4 ((aS (t0,t1,t2,t3) ss (pre.map Subtype.val)).getD x (0,0,0,0)) (t0,t1,t2,t3)):=by
   rw[aJ3,aJ4,List.map_nil,rG]
  have a8:=aV (t0,t1,t2,t3) ss (pre.map Subtype.val);have aG:Hid _:=b2;clear b2;generalize aS (t0,t1,t2,t3) ss (pre.map Subtype.val)=cu at iR b7 b3 aG a8;obtain⟨q,hq⟩:∃ q,cu[x]?=some q:=⟨_,A7 b3⟩;have a4:=b7 q (aC3 hq);have hqd:cu.getD x (0,0,0,0)=q:=by rw[aC1,hq];rfl
  obtain⟨q0,q1,q2,q3⟩:=q;obtain⟨f0,f1,f2,f3⟩:=zS cu x _ hq;have hx4:x*4+3<cu.length*4:=by omega
  have e0:=(iR.cellAt (x*4) (by omega)).trans f0;have e1:=(iR.cellAt (x*4+1) (by omega)).trans f1;have e2:=(iR.cellAt (x*4+2) (by omega)).trans f2;have e3:=(iR.cellAt (x*4+3) (by omega)).trans f3;simp only at e0 e1 e2 e3;have a6:Hid (∀ W,Calls Tryz.prog 134 _ W _):=fun W=>fP q0 q1 q2 q3 t0 t1 t2 t3 a4.1 a4.2.1 a4.2.2.1 a4.2.2.2 ht.1 ht.2.1 ht.2.2.1 ht.2.2.2 W;obtain⟨⟨c0,c1,c2,c3⟩,_⟩:=dO i4;have p2:W.cell? ⟨w.heap.size,0,none⟩=some (.pointer (some ⟨R,0,none⟩)):=by rw[cell_of_row _ _ 0 _ _ _ i2];rfl
  have pR:=iS.cell HR.out hRg;have pX:=iS.cell HX.out hXg;rw[<-a8]at pX;have hxI:(x:Int)<(cu.length:Int):=by omega
  have HI:Hid (_/\_/\_/\_/\_):=⟨iR,i2,i4,iS,iB⟩;have HQ:Hid (_/\_):=⟨hqd,b3⟩;clear iR i2 i4 iS iB hq a4 b7 f0 f1 f2 f3 hqd hin hss ht hx4 a8;simp only;have u2:=fun u=>aC p2 u;have uR:=fun u=>aC pR u;have uX:=fun u=>aC pX u;have y0:=fun u=>aC e0 u;have y1:=fun u=>aC e1 u;have y2:=fun u=>aC e2 u;have y3:=fun u=>aC e3 u;have d0:=fun u=>aC c0 u;have d1:=fun u=>aC c1 u;have d2:=fun u=>aC c2 u;have d3:=fun u=>aC c3 u;clear p2 pR pX e0 e1 e2 e3 c0 c1 c2 c3;gi_wp2_with fail
  refine pY rfl (by kernel_rfl) (by kernel_rfl) (by kernel_rfl) ?_;simp only[List.dropLast];repeat (gi_big_quiet_step (first
   | (gi_at_call 134;refine⟨trivial,(callsIn_wide.2 (a6.out _)).mono ?_⟩;rintro r w1 ⟨rfl,hB⟩;exact⟨rfl,w1,aN (chain (aD _ _) hB)⟩)
   | (gi_at_call 134;refine(callsIn_wide.2 (a6.out _)).mono ?_;rintro r w1 ⟨rfl,hB⟩;exact⟨rfl,w1,aN (chain (aD _ _) hB)⟩)))
  refine wpQuietIn_step (by intros;intro;intros;trivial) (fun K hK => ?_);rw[if_pos (show Region.wanted _ _=true from rfl)];gi_big_quiet_op;apply Exists.intro;refine⟨fun u => ?_,?_⟩
  ·first
    | (refine⟨fun h=>by cases h,(callsIn_wide.2 (a6.out _)).mono ?_⟩;rintro r w1 ⟨rfl,hB⟩;exact⟨rfl,w1,aN (chain (aD _ _) hB)⟩)
    | (refine⟨trivial,(callsIn_wide.2 (a6.out _)).mono ?_⟩;rintro r w1 ⟨rfl,hB⟩;exact⟨rfl,w1,aN (chain (aD _ _) hB)⟩)
    | (refine(callsIn_wide.2 (a6.out _)).mono ?_;rintro r w1 ⟨rfl,hB⟩;exact⟨rfl,w1,aN (chain (aD _ _) hB)⟩)
  refine hK _ ?_;clear hK K;repeat (gi_big_quiet_step (fail))
  refine wpQuietIn_nil ?_;rintro wx ⟨u,rfl⟩;have a2:=aD W u;have hO:=aF HI.out.1 (Same.below a2) (fun _ _ e=>e);have z0:=hO.frozenAt (x*4);have z1:=hO.frozenAt (x*4+1);have z2:=hO.frozenAt (x*4+2);have z3:=hO.frozenAt (x*4+3);have HO:Hid _:=hO;have a9:Hid _:=a2;clear hO a2;simp only[List.getLast];refine⟨by intros;trivial,?_⟩;go_simp;have hbW:base<=W.heap.size:=by have:=HI.out.2.2.2.1.1;omega
  have hK:Below base W (ext W u):=a9.out.mono hbW;exact⟨(mI a9.out).trans (aAy _ _ _ _ _ _ _ _ _ _ _),kC hK hg.1 _ _ _ _ _ _ _ _,by rw[aG.out,HQ.out.1];exact own4 HO.out HQ.out.2 (or4 (q0,q1,q2,q3) (t0,t1,t2,t3)),qX (aB a9.out HI.out.2.1) (by omega) _ _ _ _ _ _ _ _,qX (aB a9.out HI.out.2.2.1) (by omega) _ _ _ _ _ _ _ _,((HI.out.2.2.2.1.trans (Same.below a9.out)).trans (sP _ _ _ _ _ _ _ _ _ _)).mono (fun k _ e=>by rcases e with (e | e) | e <;> first | exact e | exact e.elim),kC (HI.out.2.2.2.2.trans hK) hg.1 _ _ _ _ _ _ _ _⟩
 case done =>
  rintro D ys W hD hys ⟨iR,i2,i4,iS,iB⟩ hK;rw[hys]at iR;have HI:Hid (_/\_/\_):=⟨iR,iS,iB⟩;clear iR i2 i4 iS iB hys;gi_wp2;refine⟨by simp,.inl ⟨_,_,rfl,run_takeDeferred hK,?_⟩⟩;have hgD:g≠D:=by omega
  have hg3:=grownBy_putObj' W D (.deferred none);exact⟨_,results_none rfl _ _ _,rfl,HI.out.1.kept hg3 (.inr fun e=>hgD (aH5 e)),(HI.out.2.1.trans (Same.grown hg3)).mono (fun k hk e=>e.elim id (fun e=>by cases e;omega)),HI.out.2.2.trans (belowK_b (w:=w) (by omega) W D _ _ (by omega) hK rfl rfl)⟩
 case stop =>
  rintro D c pre W _ _ h _;exact h.elim
theorem GU(R X base g cap:Nat)(ss:List S4)(hss:∀ s∈ss,ok4 s)(s t:S4)(hs:ok4 s)(ht:ok4 t)(w:World)(hR:w.cell? ⟨R,2,none⟩=some (.pointer (some ⟨X,0,none⟩)))(hX:w.cell? ⟨X,0,none⟩=some (.slice (some ⟨g,0,none⟩) ss.length cap))(hRg:R≠g)(hXg:X≠g)(hrow:eG w base g cap ss)
 (hin:∀ p∈jE s.1 s.2.1 s.2.2.1 s.2.2.2 4,p<ss.length) (hT:oL w) (hb0:0<base) :
 Calls Tryz.prog 135 #[.pointer (some ⟨R,0,none⟩),.agg (v4 s),.agg (v4 t)] w fun e w'=>e = .returned (.tuple #[])/\eG w' base g cap (aS t ss (jE s.1 s.2.1 s.2.2.1 s.2.2.2 4))/\Same w w' (fun k=>k=g)/\Below base w w' :=
 callsIn_wide.1 (YU R X base g cap ss hss s t hs ht w hR hX hRg hXg hrow hin hT hb0)
end Go.Proofs.YtphjbbbnbmafnaaGreatDoor.G
namespace Go.Proofs.YtphjbbbnbmafnaaGreatDoor.RxM
open Rx
variable {c n:Nat} {q q2 s:List Nat} {r:Rx} {p:Option Rx} {f:Fr}
def eZ(n:Nat)(q:List Nat)(r:Rx)(p:Option Rx):Prop:=∀ a,run n q [(a,eps,none)]=some [(a,r,p)]
theorem RV(n:Nat):eZ n [] eps none:=fun _=>rfl
theorem xA(n:Nat)(a r:Rx)(p:Option Rx)(st:List Fr):step n 40 ((a,r,p)::st)=some (init::(a,ab r p,none)::st):=by simp[step]
theorem WZ(n:Nat)(f:Fr)(a r:Rx)(p:Option Rx)(st:List Fr):step n 41 (f::(a,r,p)::st)=some ((a,r,some (fin f))::st):=by simp[step]
theorem sW(n:Nat)(f:Fr):step n 41 [f]=none:=by simp[step]
theorem WS(n:Nat)(a r p:Rx)(st:List Fr):step n 42 ((a,r,some p)::st)=some ((a,r,some (star p))::st):=by simp[step]
theorem vM(n:Nat)(a r:Rx)(st:List Fr):step n 42 ((a,r,none)::st)=none:=by simp[step]
theorem WC(n:Nat)(a r:Rx)(p:Option Rx)(st:List Fr):step n 46 ((a,r,p)::st)=some ((a,ab r p,some (sym none))::st):=by simp[step]
theorem ES(n:Nat)(a r:Rx)(p:Option Rx)(st:List Fr):step n 124 ((a,r,p)::st)=some ((alt a (ab r p),eps,none)::st):=by simp[step]
theorem IU(n c:Nat)(a r:Rx)(p:Option Rx)(st:List Fr)(h:c<n)(hn:n<=26):step n (97+c) ((a,r,p)::st)=some ((a,ab r p,some (sym (some c)))::st):=by
 unfold step;simp only;rw[if_neg (by omega),if_neg (by omega),if_neg (by omega),if_neg (by omega),if_neg (by omega),if_pos (by omega),Nat.add_sub_cancel_left]
theorem G9(n c:Nat)(a r:Rx)(p:Option Rx)(st:List Fr)(h1:c≠124)(h2:c≠42)(h3:c≠40)(h4:c≠41)(h5:c≠46)(h6:¬(97<=c/\c<97+n)):step n c ((a,r,p)::st)=none:=by
 unfold step;simp only;rw[if_neg h1,if_neg h2,if_neg h3,if_neg h4,if_neg h5,if_neg h6]
theorem yT(n c:Nat)(st:List Fr):run n [c] st=step n c st:=by
 simp only[run];cases step n c st <;> rfl
theorem eZ.snoc{n c:Nat}{q:List Nat}{r r':Rx}{p p':Option Rx}(h:eZ n q r p)(hs:∀ a,step n c [(a,r,p)]=some [(a,r',p')]):eZ n (q++[c]) r' p':=fun a=>by
 rw[jW,h a];simp only[aH8];rw[yT,hs a]
theorem eZ.point(h:eZ n q r p):eZ n (q++[46]) (ab r p) (some (sym none)):=h.snoc fun a=>WC n a r p []
theorem eZ.letter(h:eZ n q r p)(hc:c<n)(hn:n<=26):eZ n (q++[97+c]) (ab r p) (some (sym (some c))):=h.snoc fun a=>IU n c a r p [] hc hn
theorem eZ.star{p:Rx}(h:eZ n q r (some p)):eZ n (q++[42]) r (some (star p)):=h.snoc fun a=>WS n a r p []
theorem eZ.over(h:eZ n q r p)(a:Rx)(b:List Fr):run n q ((a,eps,none)::b)=some ((a,r,p)::b):=lX (h a) b
theorem eZ.bracket(h:eZ n q r p)(h2:run n q2 [init]=some [f]):eZ n (q++40::(q2++[41])) (ab r p) (some (fin f)):=fun a=>by
 rw[jW,h a];simp only[aH8,run];rw[xA];simp only[aH8];rw[jW,show[init,(a,ab r p,none)]=[init]++[(a,ab r p,none)]from rfl,lX h2];simp only[aH8,aG9,aJ2];rw[yT,WZ]
def iX(n:Nat)(s:List Nat):Prop:=∀ a b,Dead n s ((a,eps,none)::b)
def Stop(n:Nat)(s:List Nat)(p:Option Rx):Prop:=s=[]\/(∃ s2,s=41::s2)\/∃ c s2,s=c::s2/\c≠124/\∀ a r st,step n c ((a,r,p)::st)=none
def RZ(n:Nat)(s:List Nat)(p:Option Rx):Prop:=Stop n s p\/∃ s2,s=124::s2
theorem M9(h:eZ n q r p)(hd:∀ b,Dead n s (init::b)):iX n (q++40::s):=fun a b=>by
 refine jK (h.over a b) fun f hf => ?_;simp only[run,xA,aH8]at hf;exact hd _ f hf
theorem BD(h:eZ n q r p)(h2:run n q2 [init]=some [f])(hs:Stop n s f.2.2)(hn:∀ s2,s≠41::s2):iX n (q++40::(q2++s)):=fun a b=>by
 refine jK (h.over a b) fun x hx => ?_;simp only[run,xA,aH8]at hx;have:=jK (t:=s) (lX h2 ((a,ab r p,none)::b)) ?_
 ·exact this x hx
 ·rcases hs with rfl | ⟨s2,rfl⟩ | ⟨c,s2,rfl,_,hc⟩
  ·exact TC
  ·exact absurd rfl (hn s2)
  ·exact pQ (hc _ _ _)
def oW(n:Nat)(q:List Nat)(f:Fr):Prop:=run n q [init]=some [f]
def nY(n:Nat)(s:List Nat):Prop:=∀ b,Dead n s (init::b)
theorem PT(h:eZ n q r p):oW n q (void,r,p):=h void
theorem oW.row(h:oW n q f)(h2:eZ n q2 r p):oW n (q++124::q2) (fin f,r,p):=by
 unfold oW;rw[jW,show run n q [init]=some [f]from h];obtain⟨a,r0,p0⟩:=f;simp only[aH8,run,ES];exact h2 _
theorem FL(h:iX n s):nY n s:=fun b=>h void b
theorem oW.dead(h:oW n q f)(h2:iX n s):nY n (q++124::s):=fun b=>by
 refine jK (lX h b) fun x hx => ?_;obtain⟨a,r0,p0⟩:=f;simp only[aG9,aJ2,run,ES,aH8]at hx;exact h2 _ _ x hx
theorem SV(h:oW n q f):read n q=some (fin f):=oQ h
theorem OG(h:oW n q f)(hs:Stop n (c::s) f.2.2):read n (q++c::s)=none:=by
 refine lT (jK h ?_);rcases hs with e | ⟨s2,e⟩ | ⟨c2,s2,e,_,hc⟩
 ·simp at e
 ·rw[e];exact pQ (sW n f)
 ·rw[e];exact pQ (hc _ _ _)
theorem QW(h:nY n s):read n s=none:=lT (h [])
end Go.Proofs.YtphjbbbnbmafnaaGreatDoor.RxM
