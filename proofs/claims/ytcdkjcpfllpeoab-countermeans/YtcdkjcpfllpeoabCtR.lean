/- The document's row of counters (layer 15): Size, Arity, Next. -/
import Derived.Test.YtcdkjcpfllpeoabCtM
import Derived.Test.YtcdkjcpfllpeoabCoR
namespace Go.Proofs.Ytcdkjcpfllpeoab.Ct
open Go.ChangeShapes Go.WideShapes Go.ChangeAt Go.RowKit
attribute [local go_sem ↓] Go.wp_at_zero Go.wp_at_succ

theorem rarity_any (w : World) (c : Int) : Calls Try.prog 7 #[.int .i64 c] w fun e w' => e = .returned (.int .i64 (arV c)) ∧ w' = w := by
  by_cases h1 : c = 1
  · subst h1
    go_enter Try.func7, Try.ntmps7
    go_wp2
    go_ret
    exact ⟨rfl, rfl⟩
  · by_cases h2 : c = 2
    · subst h2
      go_enter Try.func7, Try.ntmps7
      go_wp2
      go_ret
      exact ⟨rfl, rfl⟩
    · have HE : Hid (arV c = -1) := by unfold arV; rw [if_neg h1, if_neg h2]; exact rfl
      have e1 : (c == 1) = false := by simpa using h1
      have e2 : (c == 2) = false := by simpa using h2
      clear h1 h2
      go_enter Try.func7, Try.ntmps7
      go_wp2
      go_ret
      exact ⟨by rw [HE.out]; rfl, rfl⟩
/-- What a call hands back that hands on what another told. -/
theorem ret_on {w w1 : World} {z cs : Array Value} {fn : Func} {p : Tmp} {R : Ending → World → Prop} {a : Act} (hb : Below (w.alloc (.cells z 24)).heap.size (w.alloc (.cells z 24)) w1) (hz : cs.size = 4) (h : fn.results = #[.cell p 24]) (hp : a.tmps.getD p undef = .pointer (some ⟨w.heap.size, 0, none⟩)) (hd : a.defers = [])
    (hR : ∀ w', Below w.heap.size w w' → R (.returned (.agg cs)) w') : bodyPost Try.prog fn R .ret a (w1.setRow w.heap.size cs) :=
  ret_wn h hp (setRow_heap _ _ _ _ _ _ (row_next hb)) hz hd (hR _ (below_row (below_next hb) _ (Nat.le_refl _) _))