/- What Mix and SigHash do, in the program and in the document's answer, call by call. -/
import Derived.Test.YtdkpgdkjohjcaaaGreatRows
import Derived.Test.YtdkpgdkjohjcaaaGreatJMemMMath
import Derived.WalkKit
import Derived.ProofKit
import Derived.OpenShut
import Derived.ShutString
import Derived.WalkSpells
import Derived.WalkLawsBesides
import Derived.Laws.BytesArg
import Derived.Deep.QuietTactic
import Derived.BigQuiet
import Derived.ChangeOld
import Derived.Below
import Derived.WalkSmall
import Derived.Laws.Rows
import Derived.Laws.Tables
import Derived.Test.YtdkpgdkjohjcaaaGreatJSigMFcM
import Derived.Lib.LaidTab
import Derived.Deep.WholeRow
namespace Go.Proofs.YtdkpgdkjohjcaaaGreat.Sg
open Go.ChangeShapes Go.WideShapes Go.ChangeAt Go.RowKit
theorem mix_any (x:Int) (w:World):Calls Tryz.prog 85 #[.int .u64 x] w fun e w' => e = .returned (.int .u64 (mixV x))∧w'=w:=by
 go_enter Tryz.func85,Tryz.ntmps85
 go_wp2
 go_ret
 exact ⟨rfl,rfl⟩
def sigV (c:Int):Int:=wrap64 (mixV (IntKind.u64.wrap c) / 36028797018963968)
theorem sig_bd (c:Int):0≤sigV c∧sigV c < 512:=by
 have h:=mix_bd (IntKind.u64.wrap c)
 unfold sigV wrap64
 omega
theorem sighash_any (c:Int) (w:World):Calls Tryz.prog 76 #[.int .i64 c] w fun e w' => e = .returned (.int .i64 (sigV c))∧w'=w:=by
 go_enter Tryz.func76,Tryz.ntmps76
 go_wp2_with fail
 refine (mix_any _ _).mono ?_
 rintro e w' ⟨rfl,rfl⟩
 go_wp2
 go_ret
 exact ⟨rfl,rfl⟩
def sc (s:List Nat):Array Value:=(s.map fun (n:Nat)=>Value.int .u64 (n:Int)).toArray
def sv (s:List Nat):Value:=.agg (sc s)
theorem sc_get (s:List Nat) (i:Nat) (h:i < s.length):(sc s)[i]? = some (.int .u64 ((s.getD i 0:Nat):Int)):=by
 unfold sc; simp [h]
theorem sc_size (s:List Nat):(sc s).size=s.length:=by unfold sc; simp
theorem sc_set (s:List Nat) (i v:Nat):(sc s).set! i (.int .u64 (v:Int))=sc (s.set i v):=by
 unfold sc
 simp [List.map_set]
theorem sc_one (s:List Nat):(sc s).all (·.oneCell')=true:=by
 unfold sc
 simp [Value.oneCell']
theorem pack8 (cs:Array Value) (h:cs.size=8) : #[cs[0]'(by omega),cs[1]'(by omega),cs[2]'(by omega),cs[3]'(by omega),cs[4]'(by omega),cs[5]'(by omega),cs[6]'(by omega),cs[7]'(by omega)] = cs:=by
 apply Array.ext (by simp [h])
 intro i h1 h2
 have hi:i < 8:=by simpa using h1
 rcases i with _ | _ | _ | _ | _ | _ | _ | _ | i
 all_goals first
  | rfl
  | omega
theorem store_row {P:Program} {w:World} {b:Nat} {t:TypeId} {old cs:Array Value} (h:w.heap[b]? = some (.cells old t (0,0))) (hz:old.size=8) (hc:cs.size=8) (h1:cs.all (·.oneCell')=true):(storeCells ⟨b,0,none⟩ cs.toList 0).run P w = .ok () (w.setRow b cs):=by
 have:=run_storeCells_from (P:=P) b t cs.toList 0 old w h (by simp [hz,hc]) (fun v hv=>(Array.all_eq_true_iff_forall_mem.1 h1) v (by simpa using hv))
 simpa using this
theorem store_1_0 {P:Program} (w:World) (t:TypeId) (old cs:Array Value) (hz:old.size=8) (hc:cs.size=8) (h1:cs.all (·.oneCell')=true) :
  (storeCells ⟨w.heap.size,0,none⟩ cs.toList 0).run P (w.alloc (.cells old t)) = .ok () (w.alloc (.cells cs t)):=by
 rw [store_row (t:=t) (old:=old) (heap_alloc_new _ _) hz hc h1,World.setRow_alloc_new]
theorem below_alloc {w w':World} (h:Below w.heap.size w w') (o:Obj):Below w.heap.size w (w'.alloc o):=h.alloc h.size o
theorem below_a1 (w:World) (o1:Obj):Below w.heap.size w (w.alloc o1):=below_alloc (Below.refl _ _) _
theorem below_a2 (w:World) (o1 o2:Obj):Below w.heap.size w ((w.alloc o1).alloc o2):=below_alloc (below_a1 _ _) _
theorem below_then {w w1 w2:World} (h:Below w.heap.size w w1) (k:Below w1.heap.size w1 w2):Below w.heap.size w w2:=h.trans (k.mono h.size)
theorem below_drawn {w w':World} (h:Below w.heap.size w w') (n:Nat):Below w.heap.size w (w'.drewN n):=⟨h.os,h.tape,h.output,h.size,h.block⟩
theorem ret_sig {fn:Func} {p:Tmp} {R:Ending→World→Prop} {a:Act} {w:World} {g:Nat} {cs:Array Value} (h:fn.results = #[.cell p 51]) (hp:a.tmps.getD p undef = .pointer (some ⟨g,0,none⟩))
  (hg:w.heap[g]? = some (.cells cs 51 (0,0))) (hz:cs.size=8) (hd:a.defers = []) (hR:R (.returned (.agg cs)) w):bodyPost Tryz.prog fn R .ret a w :=
 bodyPost_ret (results_cell_row h _ _ g 51 cs (0,0) (.array 8 49) hp hg Tryz.underlying51 rfl (by rw [hz]; kernel_rfl)) hd hR
theorem below_setRow {w w':World} (h:Below w.heap.size w w') (b:Nat) (hb:w.heap.size≤b) (cs:Array Value):Below w.heap.size w (w'.setRow b cs) :=
 ⟨h.os,h.tape,h.output,by rw [setRow_size]; exact h.size,fun k hk=>by rw [setRow_other _ _ _ _ (by omega)]; exact h.block k hk⟩
theorem store_d_2_1 {P:Program} (w:World) (n:Nat) (o1:Obj) (t:TypeId) (old cs:Array Value) (hz:old.size=8) (hc:cs.size=8) (h1:cs.all (·.oneCell')=true) :
  (storeCells ⟨w.heap.size+1,0,none⟩ cs.toList 0).run P (((w.alloc o1).alloc (.cells old t)).drewN n) = .ok () (((w.alloc o1).alloc (.cells cs t)).drewN n):=by
 rw [store_row (t:=t) (old:=old) (by exact heap_alloc2_new _ _ _) hz hc h1]
 have e:w.heap.size+1=(w.alloc o1).heap.size:=by simp
 have h:=World.setRow_alloc_new (w.alloc o1) old cs t
 rw [← e] at h
 rw [← h]
 rfl
def sigN (c:Int):Nat:=(sigV c).toNat
theorem sigN_lt (c:Int):sigN c < 512:=by have:=sig_bd c; unfold sigN; omega
theorem sigN_cast (c:Int):sigV c=(sigN c:Int):=by have:=sig_bd c; unfold sigN; omega
theorem cells_u64:Tryz.prog.cellsOf 49=1:=by kernel_rfl
theorem row_later {w w':World} {b:Nat} {o:Obj} (h:w.heap[b]? = some o) (hb:Below w.heap.size w w'):w'.heap[b]? = some o:=by
 rw [hb.block b (Array.getElem?_eq_some_iff.1 h).1,h]
theorem row_cells {w:World} {b:Nat} {t:TypeId} {cs:Array Value} (h:w.heap[b]? = some (.cells cs t (0,0))) (hz:cs.size=8) :
  w.cell? ⟨b,0,none⟩=some (cs[0]'(by omega))∧w.cell? ⟨b,1,none⟩=some (cs[1]'(by omega))∧w.cell? ⟨b,2,none⟩=some (cs[2]'(by omega))∧w.cell? ⟨b,3,none⟩=some (cs[3]'(by omega)) ∧
  w.cell? ⟨b,4,none⟩=some (cs[4]'(by omega))∧w.cell? ⟨b,5,none⟩=some (cs[5]'(by omega))∧w.cell? ⟨b,6,none⟩=some (cs[6]'(by omega))∧w.cell? ⟨b,7,none⟩=some (cs[7]'(by omega)):=by
 simp [cell_of_row _ _ _ _ _ _ h,hz]
end Go.Proofs.YtdkpgdkjohjcaaaGreat.Sg
