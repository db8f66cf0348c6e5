/- Closures that hand back what is wanted (layer 18): what a function value does, whatever it holds. -/
import Derived.Test.YtaffkcliepfcmaaChM
import Derived.Laws.EntriesVeiled
namespace Go.Proofs.Ytaffkcliepfcmaa.Ch
open Go.ChangeShapes Go.WideShapes Go.ChangeAt Go.RowKit
attribute [local go_sem ↓] Go.wp_at_zero Go.wp_at_succ

/-- Blocks that lie as they lay. -/
def Un (F : List Nat) (w w' : World) : Prop := w.heap.size ≤ w'.heap.size ∧ ∀ b ∈ F, w'.heap[b]? = w.heap[b]?
theorem Un.refl (F : List Nat) (w : World) : Un F w w := ⟨Nat.le_refl _, fun _ _ => rfl⟩
theorem Un.trans {F : List Nat} {a b c : World} (h : Un F a b) (k : Un F b c) : Un F a c := ⟨Nat.le_trans h.1 k.1, fun x hx => by rw [k.2 x hx, h.2 x hx]⟩
theorem Un.sub {F G : List Nat} {a b : World} (h : Un F a b) (hs : ∀ x ∈ G, x ∈ F) : Un G a b := ⟨h.1, fun x hx => h.2 x (hs x hx)⟩
theorem Un.of_below {F : List Nat} {w w' : World} (h : Below w.heap.size w w') (hF : ∀ b ∈ F, b < w.heap.size) : Un F w w' := ⟨h.size, fun b hb => h.block b (hF b hb)⟩
/-- Whatever a closure is handed. -/
def An (_ : Int) : Prop := True
/-- The cells of a turn. -/
def tnC (x : Wn) (f : Value) : Array Value := #[.int .i64 x.kind, .int .i64 x.cell, .int .i64 x.val, .int .i64 x.code, f]
/-- A turn is laid: what it wants, and what its closure does then. -/
def TnAt : T → List Nat → World → Value → Prop
  | .fin x, _, _, v => v = .agg (tnC x .nilFunc)
  | .on x g, F, w, v => ∃ f, v = .agg (tnC x f) ∧ (∀ b ∈ F, b < w.heap.size) ∧ ∃ id first cap, f = .func (.func id) first cap ∧ (∀ args w, (callFunc id args).run Try.prog w = .ok (.enter id args) w) ∧
      ∀ z, An z → ∀ w', Un F w w' → Calls Try.prog id (first ++ #[.int .i64 z] ++ cap) w' fun e w'' => ∃ u F', e = .returned u ∧ TnAt (g z) F' w'' u ∧ Below w'.heap.size w' w'' ∧ ∀ b ∈ F', b ∈ F ∨ w'.heap.size ≤ b
/-- A turn is handed back. -/
def Gv (t : T) (F : List Nat) (w : World) (e : Ending) (w' : World) : Prop := ∃ u F', e = .returned u ∧ TnAt t F' w' u ∧ Below w.heap.size w w' ∧ ∀ b ∈ F', b ∈ F ∨ w.heap.size ≤ b
/-- A function value that hands back a turn, by what it is handed. -/
def Fv {α : Type} (enc : α → Array Value) (ok : α → Prop) (h : α → T) (F : List Nat) (w : World) (f : Value) : Prop :=
  (∀ b ∈ F, b < w.heap.size) ∧ ∃ id first cap, f = .func (.func id) first cap ∧ (∀ args w, (callFunc id args).run Try.prog w = .ok (.enter id args) w) ∧
    ∀ z, ok z → ∀ w', Un F w w' → Calls Try.prog id (first ++ enc z ++ cap) w' (Gv (h z) F w')
def encI (z : Int) : Array Value := #[.int .i64 z]
def encU (_ : Unit) : Array Value := #[]
def encW (x : Wy) : Array Value := #[.agg #[.int .i64 x.cell, .int .i64 x.link, .bool x.stop, .int .i64 x.node, .int .i64 x.key]]
theorem tn_on {x : Wn} {g : Int → T} {F : List Nat} {w : World} {v : Value} : TnAt (.on x g) F w v ↔ ∃ f, v = .agg (tnC x f) ∧ Fv encI An g F w f := Iff.rfl
theorem Fv.un {α : Type} {enc : α → Array Value} {ok : α → Prop} {h : α → T} {F : List Nat} {w w' : World} {f : Value} (hf : Fv enc ok h F w f) (hu : Un F w w') : Fv enc ok h F w' f := by
  obtain ⟨hl, id, first, cap, hv, he, hc⟩ := hf
  exact ⟨fun b hb => Nat.lt_of_lt_of_le (hl b hb) hu.1, id, first, cap, hv, he, fun z hz w2 h2 => hc z hz w2 (hu.trans h2)⟩
theorem Fv.later {α : Type} {enc : α → Array Value} {ok : α → Prop} {h : α → T} {F : List Nat} {w w' : World} {f : Value} (hf : Fv enc ok h F w f) (hb : Below w.heap.size w w') : Fv enc ok h F w' f := hf.un (Un.of_below hb hf.1)
theorem Fv.wide {α : Type} {enc : α → Array Value} {ok : α → Prop} {h : α → T} {F G : List Nat} {w : World} {f : Value} (hf : Fv enc ok h F w f) (hs : ∀ b ∈ F, b ∈ G) (hG : ∀ b ∈ G, b < w.heap.size) : Fv enc ok h G w f := by
  obtain ⟨hl, id, first, cap, hv, he, hc⟩ := hf
  refine ⟨hG, id, first, cap, hv, he, fun z hz w2 h2 => (hc z hz w2 (h2.sub hs)).mono ?_⟩
  rintro e w3 ⟨u, F', h1, h3, h4, h5⟩
  exact ⟨u, F', h1, h3, h4, fun b hb => (h5 b hb).elim (fun h => Or.inl (hs b h)) Or.inr⟩
theorem TnAt.later {t : T} {F : List Nat} {w w' : World} {v : Value} (h : TnAt t F w v) (hb : Below w.heap.size w w') : TnAt t F w' v := by
  cases t with
  | fin x => exact h
  | on x g =>
    obtain ⟨f, h1, h2⟩ := tn_on.1 h
    exact tn_on.2 ⟨f, h1, h2.later hb⟩
/-- What is handed back, as cells. -/
theorem TnAt.cells {t : T} {F : List Nat} {w : World} {v : Value} (h : TnAt t F w v) : ∃ f, v = .agg (tnC t.w f) ∧ f.oneCell' = true := by
  cases t with
  | fin x => exact ⟨_, h, rfl⟩
  | on x g =>
    obtain ⟨f, h1, h2⟩ := tn_on.1 h
    obtain ⟨_, id, first, cap, hv, _⟩ := h2
    exact ⟨f, h1, by rw [hv]; rfl⟩
theorem Gv.wide {t : T} {F G : List Nat} {w : World} {e : Ending} {w' : World} (h : Gv t F w e w') (hs : ∀ b ∈ F, b ∈ G ∨ w.heap.size ≤ b) : Gv t G w e w' := by
  obtain ⟨u, F', h1, h3, h4, h5⟩ := h
  exact ⟨u, F', h1, h3, h4, fun b hb => (h5 b hb).elim (hs b) Or.inr⟩
/-- What a callee handed back is handed on. -/
theorem Gv.on {t : T} {F G : List Nat} {w w1 : World} {e : Ending} {w' : World} (h : Gv t G w1 e w') (hb : Below w.heap.size w w1) (hs : ∀ b ∈ G, b ∈ F ∨ w.heap.size ≤ b) : Gv t F w e w' := by
  obtain ⟨u, F', h1, h3, h4, h5⟩ := h
  exact ⟨u, F', h1, h3, below_then hb h4, fun b hb2 => (h5 b hb2).elim (hs b) (fun h => Or.inr (Nat.le_trans hb.size h))⟩
theorem tnC_size (x : Wn) (f : Value) : (tnC x f).size = 5 := rfl
theorem tnC_one {x : Wn} {f : Value} (h : f.oneCell' = true) : (tnC x f).all (·.oneCell') = true := by simp [tnC, Value.oneCell'] at h ⊢; exact h
def zt : Array Value := #[.int .i64 0, .int .i64 0, .int .i64 0, .int .i64 0, .nilFunc]
theorem store_tn {P : Program} {w : World} {b : Nat} {t : TypeId} {old cs : Array Value} (h : w.heap[b]? = some (.cells old t (0, 0))) (hz : old.size = 5) (hc : cs.size = 5) (h1 : cs.all (·.oneCell') = true) : (storeCells ⟨b, 0, none⟩ cs.toList 0).run P w = .ok () (w.setRow b cs) := by
  have := run_storeCells_from (P := P) b t cs.toList 0 old w h (by simp [hz, hc]) (fun v hv => (Array.all_eq_true_iff_forall_mem.1 h1) v (by simpa using hv))
  simpa using this
/-- A turn that a callee handed back is laid into the answer's variable, and handed on. -/
theorem gv_put {t : T} {F G : List Nat} {w w1 w2 : World} {e : Ending} {R : Nat} {z : Array Value} (h : Gv t G w1 e w2) (hR : w1.heap[R]? = some (.cells z 54 (0, 0))) (hz : z.size = 5) (hn : R ∉ G) (hb : Below w.heap.size w w1) (hl : w.heap.size ≤ R) (hs : ∀ b ∈ G, b ∈ F ∨ w.heap.size ≤ b) :
    ∃ cs w3, e = .returned (.agg cs) ∧ cs.size = 5 ∧ (storeCells ⟨R, 0, none⟩ cs.toList 0).run Try.prog w2 = .ok () w3 ∧ Hid (w3.heap[R]? = some (.cells cs 54 (0, 0)) ∧ Gv t F w (.returned (.agg cs)) w3) ∧ Hid (∀ q, q < w1.heap.size → q ≠ R → w3.heap[q]? = w1.heap[q]?) := by
  obtain ⟨u, F', rfl, h3, h4, h5⟩ := h
  obtain ⟨f, rfl, hf⟩ := h3.cells
  have hR2 : w2.heap[R]? = some (.cells z 54 (0, 0)) := by rw [h4.block _ (heap_lt hR)]; exact hR
  have hbr : Below w.heap.size w (w2.setRow R (tnC t.w f)) := below_row (below_then hb h4) _ hl _
  have hnF : R ∉ F' := fun hc => (h5 R hc).elim hn (fun h => by have := heap_lt hR; omega)
  refine ⟨_, _, rfl, tnC_size _ _, store_tn hR2 hz (tnC_size _ _) (tnC_one hf), ⟨setRow_heap _ _ _ _ _ _ hR2, _, F', rfl, ?_, hbr, fun b hb2 => (h5 b hb2).elim (hs b) (fun h => Or.inr (Nat.le_trans hb.size h))⟩, fun q hq hqR => by rw [setRow_other _ _ _ _ hqR]; exact h4.block q hq⟩
  cases t with
  | fin x => exact h3
  | on x g =>
    obtain ⟨f', h6, h7⟩ := tn_on.1 h3
    exact tn_on.2 ⟨f', h6, h7.un ⟨by rw [setRow_size]; exact Nat.le_refl _, fun b hb2 => setRow_other _ _ _ _ (fun e => hnF (e ▸ hb2))⟩⟩
/-- A turn that a function hands back, out of its variable. -/
theorem ret_tn {fn : Func} {p : Tmp} {R : Ending → World → Prop} {a : Act} {w : World} {g : Nat} {cs : Array Value} (h : fn.results = #[.cell p 54]) (hp : a.tmps.getD p undef = .pointer (some ⟨g, 0, none⟩))
    (hg : w.heap[g]? = some (.cells cs 54 (0, 0))) (hz : cs.size = 5) (hd : a.defers = []) (hR : R (.returned (.agg cs)) w) : bodyPost Try.prog fn R .ret a w := by
  refine bodyPost_ret (v := .agg cs) ?_ hd hR
  have hp' : a.tmps[p]?.getD undef = .pointer (some ⟨g, 0, none⟩) := by simpa using hp
  have hl := run_loadVar_row (P := Try.prog) w g 54 54 cs (0, 0) _ hg Try.underlying54 rfl (by rw [hz]; kernel_rfl)
  simp [results, h, hp', asAddr, hl]
theorem fv_mk {α : Type} {enc : α → Array Value} {ok : α → Prop} {h : α → T} {F : List Nat} {w : World} {id : FuncId} {first cap : Array Value} (hF : ∀ b ∈ F, b < w.heap.size) (he : ∀ args w, (callFunc id args).run Try.prog w = .ok (.enter id args) w)
    (hc : ∀ z, ok z → ∀ w', Un F w w' → Calls Try.prog id (first ++ enc z ++ cap) w' (Gv (h z) F w')) : Fv enc ok h F w (.func (.func id) first cap) := ⟨hF, id, first, cap, rfl, he, hc⟩
theorem gv_fin {x : Wn} {F : List Nat} {w w' : World} (hb : Below w.heap.size w w') : Gv (.fin x) F w (.returned (.agg (tnC x .nilFunc))) w' := ⟨_, [], rfl, rfl, hb, by simp⟩
theorem gv_on {x : Wn} {g : Int → T} {F : List Nat} {w w' : World} {f : Value} (hf : Fv encI An g F w f) (hb : Below w.heap.size w w') : Gv (.on x g) F w (.returned (.agg (tnC x f))) w' := ⟨_, F, rfl, tn_on.2 ⟨f, rfl, hf.later hb⟩, hb, fun _ h => Or.inl h⟩
theorem gv_below {t : T} {F : List Nat} {w w' : World} {e : Ending} (h : Gv t F w e w') : Below w.heap.size w w' := by
  obtain ⟨_, _, _, _, h4, _⟩ := h
  exact h4
theorem gv_clo {x : Wn} {g : Int → T} {F G : List Nat} {w w' : World} {f : Value} (hf : Fv encI An g G w' f) (hb : Below w.heap.size w w') (hs : ∀ q ∈ G, q ∈ F ∨ w.heap.size ≤ q) : Gv (.on x g) F w (.returned (.agg (tnC x f))) w' := ⟨_, G, rfl, tn_on.2 ⟨f, rfl, hf⟩, hb, hs⟩
theorem bl_drew1 (w : World) : Below w.heap.size w w.drew := below_drawn (Below.refl _ _) 1
theorem hp_at {w : World} {o : Obj} {q : Nat} (h : q = w.heap.size) : (w.alloc o).heap[q]? = some o := by rw [h]; exact heap_alloc_new _ _
theorem hp_past {w : World} {o x : Obj} {q : Nat} (h : w.heap[q]? = some x) : (w.alloc o).heap[q]? = some x := by
  rw [(below_a1 w o).block q (by have := (Array.getElem?_eq_some_iff.1 h).1; exact this)]
  exact h
theorem bl2 (w : World) (a b : Obj) : Below w.heap.size w ((w.alloc a).alloc b) := below_then (below_a1 _ _) (below_a1 _ _)
theorem bl3 (w : World) (a b c : Obj) : Below w.heap.size w (((w.alloc a).alloc b).alloc c) := below_then (bl2 _ _ _) (below_a1 _ _)
theorem bl4 (w : World) (a b c d : Obj) : Below w.heap.size w ((((w.alloc a).alloc b).alloc c).alloc d) := below_then (bl3 _ _ _ _) (below_a1 _ _)
theorem bl5 (w : World) (a b c d e : Obj) : Below w.heap.size w (((((w.alloc a).alloc b).alloc c).alloc d).alloc e) := below_then (bl4 _ _ _ _ _) (below_a1 _ _)
theorem bl6 (w : World) (a b c d e f : Obj) : Below w.heap.size w ((((((w.alloc a).alloc b).alloc c).alloc d).alloc e).alloc f) := below_then (bl5 _ _ _ _ _ _) (below_a1 _ _)
theorem ent {f : FuncId} {fn : Func} {c : Code} (hf : Try.prog.funcs[f]? = some fn) (hname : (fn.name == "runtime.NumGoroutine") = false) (hb : fn.body = some c) : ∀ args w, (callFunc f args).run Try.prog w = .ok (.enter f args) w := by
  intro args w
  have h1 : fn.name ≠ "runtime.NumGoroutine" := by simpa using hname
  simp [callFunc, hf, h1, hb, mark]
theorem lo_nil {F : List Nat} {w w' : World} (h : ∀ q ∈ F, q < w.heap.size) (hb : Below w.heap.size w w') : ∀ q ∈ F, q < w'.heap.size := fun q hq => Nat.lt_of_lt_of_le (h q hq) hb.size
theorem lo_cons {G : List Nat} {B n : Nat} (h : B < n) (hG : ∀ q ∈ G, q < n) : ∀ q ∈ B :: G, q < n := fun q hq => by
  rcases List.mem_cons.1 hq with rfl | hq
  · exact h
  · exact hG q hq
theorem nw_nil {F : List Nat} {n : Nat} : ∀ q ∈ F, q ∈ F ∨ n ≤ q := fun _ h => Or.inl h
theorem nw_cons {F G : List Nat} {B n : Nat} (h : n ≤ B) (hG : ∀ q ∈ G, q ∈ F ∨ n ≤ q) : ∀ q ∈ B :: G, q ∈ F ∨ n ≤ q := fun q hq => by
  rcases List.mem_cons.1 hq with rfl | hq
  · exact Or.inr h
  · exact hG q hq
theorem in_cons {F G : List Nat} {B : Nat} (h : ∀ q ∈ F, q ∈ G) : ∀ q ∈ F, q ∈ B :: G := fun q hq => List.mem_cons_of_mem _ (h q hq)
theorem in_nil {F : List Nat} : ∀ q ∈ F, q ∈ F := fun _ h => h
theorem ni_nil {F : List Nat} {R m : Nat} (hF : ∀ q ∈ F, q < m) (h : m ≤ R) : R ∉ F := fun hc => by have := hF _ hc; omega
theorem ni_cons {G : List Nat} {R B : Nat} (h : R ≠ B) (hG : R ∉ G) : R ∉ B :: G := fun hc => (List.mem_cons.1 hc).elim h hG
theorem Fv.get {α : Type} {enc : α → Array Value} {ok : α → Prop} {h : α → T} {F : List Nat} {w : World} {id : FuncId} {first cap : Array Value} (hf : Fv enc ok h F w (.func (.func id) first cap)) :
    (∀ args w, (callFunc id args).run Try.prog w = .ok (.enter id args) w) ∧ ∀ z, ok z → ∀ w', Un F w w' → Calls Try.prog id (first ++ enc z ++ cap) w' (Gv (h z) F w') := by
  obtain ⟨_, id', first', cap', hv, he, hc⟩ := hf
  injection hv with h1 h2 h3
  injection h1 with h1
  subst h1 h2 h3
  exact ⟨he, hc⟩
/-- A variable that a closure holds. -/
def Bx (F : List Nat) (w : World) (B : Nat) (t : TypeId) (cs : Array Value) : Prop := B ∈ F ∧ w.heap[B]? = some (.cells cs t (0, 0))
theorem Bx.un {F : List Nat} {w w' : World} {B : Nat} {t : TypeId} {cs : Array Value} (h : Bx F w B t cs) (hu : Un F w w') : Bx F w' B t cs := ⟨h.1, by rw [hu.2 B h.1]; exact h.2⟩
theorem Bx.lt {F : List Nat} {w : World} {B : Nat} {t : TypeId} {cs : Array Value} (h : Bx F w B t cs) : B < w.heap.size := heap_lt h.2
theorem Bx.wide {F G : List Nat} {w w' : World} {B : Nat} {t : TypeId} {cs : Array Value} (h : Bx F w B t cs) (hs : ∀ q ∈ F, q ∈ G) (hb : Below w.heap.size w w') : Bx G w' B t cs := ⟨hs _ h.1, by rw [hb.block _ h.lt]; exact h.2⟩
theorem Bx.cell {F : List Nat} {w : World} {B : Nat} {t : TypeId} {cs : Array Value} {v : Value} (h : Bx F w B t cs) (i : Nat) (hv : cs[i]? = some v) : w.cell? ⟨B, i, none⟩ = some v := by rw [cell_at h.2]; exact hv
end Go.Proofs.Ytaffkcliepfcmaa.Ch
