/- A list of numbers behind a slice, the signature of a list of cells, and what the program's Of answers. -/
import Derived.Test.YtdkpgdkjohjcaaaGreatJSigPSigU
import Derived.Test.YtdkpgdkjohjcaaaGreatJHashSigB
namespace Go.Proofs.YtdkpgdkjohjcaaaGreat.Sg
open Go.ChangeShapes Go.WideShapes Go.ChangeAt Go.RowKit
def Lst (w:World) (v:Value) (l:List Int):Prop:=∃ a cap,v = .slice a l.length cap∧l.length≤9223372036854775807∧(l = [] ∨ ∃ x,a=some x ∧ ∀ i,i < l.length→w.cell? (x.add i)=some (.int .i64 (l.getD i 0)))
theorem add_at (g i:Nat):(⟨g,0,none⟩:Addr).add i=⟨g,i,none⟩:=by unfold Addr.add; split <;> simp_all
def ofTo (l:List Int) (i:Nat):List Nat:=(l.take i).foldl (fun s c=>put s (sigN c)) nought
def ofAll (l:List Int):List Nat:=l.foldl (fun s c=>put s (sigN c)) nought
theorem ofTo_all (l:List Int):ofTo l l.length=ofAll l:=by unfold ofTo ofAll; rw [List.take_length]
theorem ofTo_succ (l:List Int) (i:Nat) (h:i < l.length):ofTo l (i+1)=put (ofTo l i) (sigN (l.getD i 0)):=by
 unfold ofTo
 rw [List.take_add_one,List.foldl_append]
 simp [h]
theorem ok_ofTo (l:List Int) (i:Nat):Ok (ofTo l i):=by
 unfold ofTo
 generalize l.take i=m
 suffices h : ∀ (m:List Int) (s:List Nat),Ok s→Ok (m.foldl (fun s c=>put s (sigN c)) s) from h m nought ok_nought
 intro m
 induction m with
 | nil=>intro s hs; exact hs
 | cons c m ih=>intro s hs; exact ih _ (ok_put hs _ (sigN_lt c))
theorem ok_ofAll (l:List Int):Ok (ofAll l):=by rw [← ofTo_all]; exact ok_ofTo _ _
def Two (b:Nat) (w:World) (c0 c1:Array Value):Prop:=w.heap[b]? = some (.cells c0 51 (0,0))∧w.heap[b+1]? = some (.cells c1 51 (0,0))
theorem Two.later {b:Nat} {w w':World} {c0 c1:Array Value} (h:Two b w c0 c1) (hb:Below w.heap.size w w'):Two b w' c0 c1:=⟨row_later h.1 hb,row_later h.2 hb⟩
theorem Two.set1 {b:Nat} {w:World} {c0 c1:Array Value} (h:Two b w c0 c1) (c:Array Value):Two b (w.setRow (b+1) c) c0 c :=
 ⟨by rw [setRow_other _ _ _ _ (by omega)]; exact h.1,setRow_heap _ _ _ _ _ _ h.2⟩
theorem Two.new (w:World) (c0 c1:Array Value):Two w.heap.size ((w.alloc (.cells c0 51)).alloc (.cells c1 51)) c0 c1 :=
 ⟨heap_alloc2_old _ _ _,heap_alloc2_new _ _ _⟩
theorem of_any (w:World) (v:Value) (l:List Int) (hv:Lst w v l) :
  Calls Tryz.prog 80 #[v] w fun e w' => e = .returned (sv (ofAll l))∧Below w.heap.size w w':=by
 obtain ⟨a,ca,rfl,hbig,hl⟩:=hv
 have HC:Hid (∀ i,i < l.length → ∃ x,a=some x∧w.cell? (x.add i)=some (.int .i64 (l.getD i 0))):=by
  intro i hi
  rcases hl with rfl | ⟨x,hx,hc⟩
  ·exact absurd hi (by simp)
  ·exact ⟨x,hx,hc i hi⟩
 clear hl
 have HE:Hid (ofTo l l.length=ofAll l):=ofTo_all l
 have HW:Hid (∀ (i:Nat) (w:World),i < l.length→Calls Tryz.prog 65 #[.agg (sc (ofTo l i)),.int .i64 (l.getD i 0)] w fun e w' => e = .returned (.agg (sc (ofTo l (i+1))))∧Below w.heap.size w w'):=by
  intro i w hi
  rw [ofTo_succ l i hi]
  exact with_any _ (ok_ofTo l i) _ w
 generalize hn:l.length=n at *
 unfold sv
 go_enter Tryz.func80,Tryz.ntmps80
 go_wp2
 go_loopw [8] (fun i wr => ∃ j:Nat,j≤n∧i = .int .i64 j∧Two w.heap.size wr (sc nought) (sc (ofTo l j))∧Below w.heap.size w wr) (fun i _=>n - (intOf i).toNat)
 case atStart=>exact ⟨0,Nat.zero_le _,rfl,Two.new _ _ _,below_a2 _ _ _⟩
 case round =>
  obtain ⟨j,hj,rfl,ht,hbel⟩:=hrel
  have HT:Hid (Two w.heap.size wr (sc nought) (sc (ofTo l j))):=ht
  have HL:Hid (Below w.heap.size w wr):=hbel
  have hz:(sc (ofTo l j)).size=8:=by rw [sc_size]; exact (ok_ofTo l j).1
  have hz':(sc (ofTo l (j+1))).size=8:=by rw [sc_size]; exact (ok_ofTo l (j+1)).1
  have h1:=sc_one (ofTo l j)
  have h1':=sc_one (ofTo l (j+1))
  clear ht hbel
  by_cases hlt:j < n
  ·obtain ⟨x,rfl,hx⟩:=HC.out j hlt
   have hcx:wr.cell? (x.add j)=some (.int .i64 (l.getD j 0)):=cell_later HL.out hx
   have HW':Hid (∀ w:World,Calls Tryz.prog 65 #[.agg (sc (ofTo l j)),.int .i64 (l.getD j 0)] w fun e w' => e = .returned (.agg (sc (ofTo l (j+1))))∧Below w.heap.size w w'):=fun w=>HW.out j w hlt
   clear hx
   have hd:decide ((j:Int) < (n:Int))=true:=by simp; omega
   generalize hcj:sc (ofTo l (j+1))=cj at *
   have HCJ:Hid (sc (ofTo l (j+1))=cj):=hcj
   clear hcj
   generalize sc (ofTo l j)=cs at *
   generalize l.getD j 0=c at *
   have hpk:=pack8 cs hz
   have hl0:=row_cells HT.out.2 hz
   go_wp2_with fail
   refine (HW'.out _).mono ?_
   rintro e w1 ⟨rfl,hb1⟩
   have HT1:Hid (Two w.heap.size w1 (sc nought) cs):=HT.out.later hb1
   have HL1:Hid (Below w.heap.size w w1):=below_then HL.out hb1
   clear hb1 hl0 hcx
   have hst:=store_row (P:=Tryz.prog) HT1.out.2 hz hz' h1'
   go_wp2
   go_roundw
   case rel=>exact ⟨j+1,by omega,by go_num,by rw [HCJ.out]; exact HT1.out.set1 _,below_setRow HL1.out _ (by omega) _⟩
   case measure=>simp [intOf]; omega
  ·have e:j=n:=by omega
   subst e
   rw [HE.out] at hz h1 HT
   generalize hco:sc (ofAll l)=co at *
   have HCO:Hid (sc (ofAll l)=co):=hco
   clear hco
   have hpo:=pack8 co hz
   have hl3:=row_cells HT.out.2 hz
   have hst:=store_row (P:=Tryz.prog) HT.out.1 rfl hz h1
   go_wp2
   exact ret_sig rfl rfl (setRow_heap _ _ _ _ _ _ HT.out.1) hz rfl ⟨by rw [HCO.out],below_setRow HL.out _ (by omega) _⟩
end Go.Proofs.YtdkpgdkjohjcaaaGreat.Sg
