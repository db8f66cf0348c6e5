/- Closures that hand back what is wanted (layer 18): what a function value does, whatever it holds. -/
import Derived.Test.YtigfjedohdgjfaaGreatDoorJCtMChM
import Derived.Laws.EntriesVeiled
import Derived.Deep.RegionHeld3
import Derived.Deep.CutBlock
import Derived.Deep.DeepCutAuto
import Derived.WalkMore
namespace Go.Proofs.YtigfjedohdgjfaaGreatDoor.Tl.Ch
open Go.ChangeShapes Go.WideShapes Go.ChangeAt Go.RowKit
attribute [local go_sem ↓] Go.wp_at_zero Go.wp_at_succ
def Un (F:List Nat) (w w':World):Prop:=w.heap.size≤w'.heap.size ∧ ∀ b ∈ F,w'.heap[b]? = w.heap[b]?
theorem Un.trans {F:List Nat} {a b c:World} (h:Un F a b) (k:Un F b c):Un F a c:=⟨Nat.le_trans h.1 k.1,fun x hx=>by rw [k.2 x hx,h.2 x hx]⟩
def An (_:Int):Prop:=True
def tnC (x:Wn) (f:Value):Array Value:=#[.int .i64 x.kind,.int .i64 x.cell,.int .i64 x.val,.int .i64 x.code,f]
def TnAt:T→List Nat→World→Value→Prop
 | .fin x,_,_,v=>v = .agg (tnC x .nilFunc)
 | .on x g,F,w,v => ∃ f,v = .agg (tnC x f)∧(∀ b ∈ F,b < w.heap.size) ∧ ∃ id first cap,f = .func (.func id) first cap∧(∀ args w,(callFunc id args).run Tryz.prog w = .ok (.enter id args) w) ∧
   ∀ z, An z → ∀ w', Un F w w' → Calls Tryz.prog id (first ++ #[.int .i64 z] ++ cap) w' fun e w'' => ∃ u F', e = .returned u ∧ TnAt (g z) F' w'' u ∧ Below w'.heap.size w' w'' ∧ ∀ b ∈ F', b ∈ F ∨ w'.heap.size ≤ b
def Gv (t : T) (F : List Nat) (w : World) (e : Ending) (w' : World) : Prop := ∃ u F', e = .returned u ∧ TnAt t F' w' u ∧ Below w.heap.size w w' ∧ ∀ b ∈ F', b ∈ F ∨ w.heap.size ≤ b
def Fv {α:Type} (enc:α→Array Value) (ok:α→Prop) (h:α→T) (F:List Nat) (w:World) (f:Value):Prop :=
 (∀ b ∈ F,b < w.heap.size) ∧ ∃ id first cap,f = .func (.func id) first cap∧(∀ args w,(callFunc id args).run Tryz.prog w = .ok (.enter id args) w) ∧
  ∀ z, ok z → ∀ w', Un F w w' → Calls Tryz.prog id (first ++ enc z ++ cap) w' (Gv (h z) F w')
def encI (z:Int):Array Value:=#[.int .i64 z]
theorem Fv.un {α:Type} {enc:α→Array Value} {ok:α→Prop} {h:α→T} {F:List Nat} {w w':World} {f:Value} (hf:Fv enc ok h F w f) (hu:Un F w w'):Fv enc ok h F w' f:=by
 obtain ⟨hl,id,first,cap,hv,he,hc⟩:=hf
 exact ⟨fun b hb=>Nat.lt_of_lt_of_le (hl b hb) hu.1,id,first,cap,hv,he,fun z hz w2 h2=>hc z hz w2 (hu.trans h2)⟩
theorem ent {f : FuncId} {fn : Func} {c : Code} (hf : Tryz.prog.funcs[f]? = some fn) (hname : (fn.name == "runtime.NumGoroutine") = false) (hb : fn.body = some c) : ∀ args w, (callFunc f args).run Tryz.prog w = .ok (.enter f args) w := by
 intro args w
 have h1 : fn.name ≠ "runtime.NumGoroutine" := by simpa using hname
 simp [callFunc,hf,h1,hb,mark]
theorem lo_cons {G:List Nat} {B n:Nat} (h:B < n) (hG : ∀ q ∈ G,q < n) : ∀ q ∈ B :: G,q < n:=fun q hq=>by
 rcases List.mem_cons.1 hq with rfl | hq
 ·exact h
 ·exact hG q hq
end Go.Proofs.YtigfjedohdgjfaaGreatDoor.Tl.Ch
namespace Go.Proofs.YtigfjedohdgjfaaGreatDoor.Tl.Ch
open Go.ChangeShapes Go.WideShapes Go.ChangeAt Go.RowKit
attribute [local go_sem ↓] Go.wp_at_zero Go.wp_at_succ
def mcC (f:Value) (x:Wn):Array Value:=#[f,.int .i64 x.kind,.int .i64 x.cell,.int .i64 x.val,.int .i64 x.code]
def McAt (w:World) (X:Nat) (F:List Nat) (m:Mc):Prop:=∃ G f,F=X :: G∧X ∉ G∧(∀ b ∈ G,b < w.heap.size)∧w.heap[X]? = some (.cells (mcC f m.last) 243 (0,0))∧(m.g=none→f = .nilFunc) ∧ ∀ g,m.g=some g→Fv encI An g G w f
theorem McAt.keep {w w':World} {X:Nat} {F H:List Nat} {m:Mc} (h:McAt w X F m) (k:Keep H w w') (hx : ∀ b ∈ F,b ∉ H):McAt w' X F m:=by
 obtain ⟨G,f,rfl,hn,hl,hX,h0,h1⟩:=h
 have hu:Un G w w':=⟨k.size,fun b hb=>k.block b (hl b hb) (hx b (List.mem_cons_of_mem _ hb))⟩
 exact ⟨G,f,rfl,hn,fun b hb=>Nat.lt_of_lt_of_le (hl b hb) k.size,by rw [k.block _ (heap_lt hX) (hx X List.mem_cons_self)]; exact hX,h0,fun g hg=>(h1 g hg).un hu⟩
theorem McAt.lt {w:World} {X:Nat} {F:List Nat} {m:Mc} (h:McAt w X F m) : ∀ b ∈ F,b < w.heap.size:=by
 obtain ⟨G,f,rfl,hn,hl,hX,h0,h1⟩:=h
 exact lo_cons (heap_lt hX) hl
abbrev z4:Array Value:=#[.int .i64 0,.int .i64 0,.int .i64 0,.int .i64 0]
end Go.Proofs.YtigfjedohdgjfaaGreatDoor.Tl.Ch
