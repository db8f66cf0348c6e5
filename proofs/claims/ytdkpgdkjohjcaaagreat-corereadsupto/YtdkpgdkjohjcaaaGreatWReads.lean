/- CoreReads of the landed program, in its second form: where what is handed in is of bulk at most 1048576: four transactions over a new memory, whatever is wanted by whom in whatever order: each read that is told, but of an own write, tells what the entries up to SEEN made of the cell, and so do all reads that the transaction was told before; an own write is told as it was written last; stamps are published one by one; the law answers true, and the input reads as it did. -/
import Derived.Test.YtdkpgdkjohjcaaaGreatRows
import Derived.Test.YtdkpgdkjohjcaaaGreatJTyTTyU
import Derived.Test.YtdkpgdkjohjcaaaGreatJTyTTyU
import Derived.Test.YtdkpgdkjohjcaaaGreatJTyTTyU
import Derived.WalkKit
import Derived.ProofKit
import Derived.OpenShut
import Derived.ChangeOld
import Derived.Below
import Derived.JoinedCond
namespace Go.Proofs.YtdkpgdkjohjcaaaGreat.coreReads
open Go.ChangeShapes Go.WideShapes Go.ChangeAt Go.RowKit
theorem own:ownKnob Tryz.prog.godebug=none:=by kernel_rfl
theorem laidOut:laidOutB Tryz.prog=true:=by kernel_rfl
theorem cells_conf:Tryz.prog.cellsOf 24=7:=by kernel_rfl
theorem cells_int:Tryz.prog.cellsOf 3=1:=by kernel_rfl
theorem cells_i64:Tryz.prog.cellsOf 2=1:=by kernel_rfl
theorem cells_regs:Tryz.prog.cellsOf 22=1:=by kernel_rfl
theorem cells_bool:Tryz.prog.cellsOf 4=1:=by kernel_rfl
theorem cells_acts:Tryz.prog.cellsOf 25=1:=by kernel_rfl
set_option maxRecDepth 100000 in
theorem contract (H:Type) (enc:TypeId × Value→H) (W:World) (base:Nat) (args:Array Value) (ds gs:List (DataW H)) (before:List MemPlace)
  (hval : ∀ (j:Nat) t v,Tryz.f3.params[j]? = some t→args[j]? = some v→Value.okWide Tryz.prog W .any base t v)
  (hW:DataW.Whole enc Tryz.prog Tryz.f3.params.toList Rows.coreReadsSpec.vars false W args.toList ds gs before)
  (hk:Rows.uptoSmall H (ds++gs)=true) :
  Calls Tryz.prog 3 args W fun e W' => ∃ v,e = .returned v∧Rows.coreReadsSpec.post enc Tryz.prog Tryz.f3 false true false false W args v W':=by
 have hW':=hW
 obtain ⟨p,q,hA0,hV,rfl,hfz,hnd⟩:=hW
 have hA:DataW.TrodAll enc Tryz.prog W 0 (fun _=>true) true Tryz.f3.params.toList args.toList ds p:=hA0
 rw [Tryz.params3] at hA hval
 obtain ⟨v0,vs0,d0,ds0,p0,q0,hargs,rfl,rfl,h0,r0⟩:=trodAll_cons hA
 obtain ⟨v1,vs1,d1,ds1,p1,q1,hargs1,rfl,rfl,h1,r1⟩:=trodAll_cons r0
 obtain ⟨rfl,rfl,rfl⟩:=trodAll_nil r1
 obtain rfl:args = #[v0,v1]:=by cases args; simp_all
 obtain ⟨rfl,rfl⟩:=trodVars_none hV
 have k0:=h0
 have k1:=h1
 have lt0 : ∀ x ∈ p0,x.block < W.heap.size:=by obtain ⟨m,hm⟩:=k0; exact DataW.trod_lt m _ _ _ hm
 have lt1 : ∀ x ∈ p1,x.block < W.heap.size:=by obtain ⟨m,hm⟩:=k1; exact DataW.trod_lt m _ _ _ hm
 obtain ⟨cs,rfl,hsz⟩:=okWide_struct Tryz.underlying24 (hval 0 24 v0 rfl rfl)
 obtain ⟨fuel,hf⟩:=h0
 obtain ⟨ys,m1,_,hx1,hl1,hlen1,hfd1⟩:=DataW.trod_struct Tryz.underlying24 hf
 obtain ⟨l⟩:=cs
 have hl7:l.length=7:=hsz.trans cells_conf
 obtain ⟨c0,c1,c2,c3,c4,c5,c6,rfl⟩:=len7' hl7
 obtain ⟨u0,u1,u2,u3,u4,u5,u6,rfl⟩:=len7' hlen1
 have k_0:=hfd1 0 _ rfl
 have k_1:=hfd1 1 _ rfl
 have k_2:=hfd1 2 _ rfl
 have k_3:=hfd1 3 _ rfl
 have k_4:=hfd1 4 _ rfl
 have k_5:=hfd1 5 _ rfl
 simp [Value.cells,cells_int,cells_i64,cells_bool] at k_0 k_1 k_2 k_3 k_4 k_5
 obtain ⟨a0,z0,_,_⟩:=DataW.trod_int Tryz.underlying3 k_0
 obtain ⟨a1,z1,_,_⟩:=DataW.trod_int Tryz.underlying3 k_1
 obtain ⟨a2,z2,_,_⟩:=DataW.trod_int Tryz.underlying3 k_2
 obtain ⟨a3,z3,_,_⟩:=DataW.trod_int Tryz.underlying2 k_3
 obtain ⟨a4,z4,_⟩:=DataW.trod_bool Tryz.underlying4 k_4
 obtain ⟨a5,z5,_,_⟩:=DataW.trod_int Tryz.underlying3 k_5
 have hb:=of_decide_eq_true hk
 simp only [List.append_nil,Rows.uptoBulkAll] at hb
 obtain ⟨la,ll,lc,rfl⟩:=okWide_slice Tryz.underlying25 (hval 1 25 v1 rfl rfl)
 obtain ⟨fuel1,hf1⟩:=h1
 obtain ⟨w1,S,z6,hS,hO⟩:=open_acts12 (x:=(d1,p1)) (by simp only; omega) hf1
 simp [Value.cells] at z6
 subst z6
 simp only [List.cons.injEq,and_true] at z0 z1 z2 z3 z4 z5
 subst z0 z1 z2 z3 z4 z5
 clear hA0
 refine (reads_walk W a0 a1 a2 a3 a4 a5 c6 _ hS hO cshown_any).mono fun e W' ⟨he,bel⟩ => ?_
 subst he
 exact ⟨_, rfl, _, _, _, [], _, [], hW', trodAll_mk1 (shut_bool Tryz.underlying4 _), (trodAll_cons_mk (Below.trod laidOut (by kernel_rfl) (of_decide_eq_true (by kernel_rfl)) k0 bel lt0) (trodAll_cons_mk (Below.trod laidOut (by kernel_rfl) (of_decide_eq_true (by kernel_rfl)) k1 bel lt1) trodAll_mk0)), rfl, bel.frame _, fun h => by cases h⟩
set_option maxRecDepth 100000 in
theorem lifted (os:Os) (started:os.Started) (H:Type) (enc:TypeId × Value→H) (F:Stop.Interp) :
  ReturnsInHanded {} Tryz.checked os 3 .any ((Rows.OpenSpec.upto Rows.coreReadsSpec).pre6 enc Tryz.prog Tryz.f3 Rows.coreReadsUptoRow.domain false) (((Rows.OpenSpec.upto Rows.coreReadsSpec).at F).post enc Tryz.prog Tryz.f3 false true false false):=by
 refine returnsInHanded_of_cond (C:=Tryz.checked) (s:=Rows.OpenSpec.upto Rows.coreReadsSpec) (k:=Rows.uptoSmall) rfl own started (by kernel_rfl) Tryz.func3
  (OpenSpec.witness (enc:=enc) (C:=Tryz.checked) (s:=Rows.OpenSpec.upto Rows.coreReadsSpec) (k:=Rows.uptoSmall) rfl false ⟨#[],#[.agg #[.int .i64 0,.int .i64 0,.int .i64 0,.int .i64 0,.bool false,.int .i64 0,.slice none 0 0],.slice none 0 0],[]⟩ 8 (by kernel_rfl) (by kernel_rfl) (by kernel_rfl)
      (x:=([.agg [.lit (.int .i64 0),.lit (.int .i64 0),.lit (.int .i64 0),.lit (.int .i64 0),.lit (.bool false),.lit (.int .i64 0),.nil],.nil],[],[])) (by kernel_rfl) rfl (by kernel_rfl)) ?_
 intro W base args ds gs before hval hW _ hk _
 exact contract H enc W base args ds gs before hval hW hk
theorem over:Rows.coreReadsUptoRow.holds Tryz.pinned (Rows.OpenSpec.upto Rows.coreReadsSpec) :=
 OpenClaim.holds_of_cond 3 Tryz.f3 rfl rfl rfl rfl rfl rfl rfl ⟨rfl,rfl,rfl,rfl,rfl⟩ rfl rfl rfl rfl rfl (by kernel_rfl) Tryz.func3 (by kernel_rfl)
  (of_decide_eq_true (by kernel_rfl)) (by unfold Func.isWrapper; first | (rw [if_pos (by decide +kernel)]; kernel_rfl) | (rw [if_neg (by decide +kernel)]; exact ⟨rfl,rfl⟩))
  (fun os started H enc _ F=>lifted os started H enc F)
theorem proved:Rows.CoreReadsUptoSaid :=
 over
#print axioms proved
end Go.Proofs.YtdkpgdkjohjcaaaGreat.coreReads
