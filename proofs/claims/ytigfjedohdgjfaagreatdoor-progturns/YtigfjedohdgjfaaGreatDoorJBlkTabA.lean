/- Blocks of memory: what is kept while others change, rows that a call owns, cells by their place. -/
import Derived.Test.YtigfjedohdgjfaaGreatDoorRows
import Derived.WalkKit
import Derived.ProofKit
import Derived.OpenShut
import Derived.ShutString
import Derived.WalkSpells
import Derived.WalkLawsBesides
import Derived.Deep.QuietTactic
import Derived.BigQuiet
import Derived.ChangeOld
import Derived.Below
import Derived.WalkSmall
import Derived.Laws.Rows
import Derived.Laws.Tables
import Derived.Deep.WholeRow
import Derived.Laws.AppendOwn
import Derived.Deep.RegionHeld3
import Derived.Deep.AppendLies
import Derived.Deep.DrawnRows
import Derived.Deep.RegionLaw
import Derived.Deep.Slices
namespace Go.Proofs.YtigfjedohdgjfaaGreatDoor.Tl
set_option linter.unusedVariables false
open Go.ChangeShapes Go.WideShapes Go.ChangeAt Go.RowKit
theorem map_set_range {f g:Nat→Value} {n i:Nat} {v:Value} (hi:i < n) (h1:g i=v) (h2 : ∀ q,q≠i→g q=f q):(((List.range n).map f).toArray.setIfInBounds i v)=((List.range n).map g).toArray:=by
 apply Array.ext_getElem?
 intro q
 rw [Array.getElem?_setIfInBounds]
 by_cases e:i=q
 ·subst e; simp [hi,h1]
 ·rw [if_neg e]
  by_cases hq:q < n
  ·simp [hq,h2 q (fun e' => e e'.symm)]
  ·simp [hq]
theorem map_same_range {f g:Nat→Value} {n:Nat} (h : ∀ q,q < n→g q=f q):(((List.range n).map f).toArray)=((List.range n).map g).toArray:=by
 congr 1
 apply List.map_congr_left
 intro q hq
 exact (h q (List.mem_range.1 hq)).symm
structure Keep (F:List Nat) (w w':World):Prop where
 os:w'.os=w.os
 tape:w'.tape=w.tape
 output:w'.output=w.output
 size:w.heap.size≤w'.heap.size
 block : ∀ b,b < w.heap.size→b ∉ F→w'.heap[b]? = w.heap[b]?
theorem Keep.refl (F:List Nat) (w:World):Keep F w w:=⟨rfl,rfl,rfl,Nat.le_refl _,fun _ _ _=>rfl⟩
theorem Keep.mono {F G:List Nat} {w w':World} (h:Keep F w w') (hs : ∀ b ∈ F,b ∈ G):Keep G w w':=⟨h.os,h.tape,h.output,h.size,fun b hb hn=>h.block b hb fun e=>hn (hs b e)⟩
theorem Keep.of_below {w w':World} (h:Below w.heap.size w w') (F:List Nat):Keep F w w':=⟨h.os,h.tape,h.output,h.size,fun b hb _=>h.block b hb⟩
theorem Keep.below {F:List Nat} {w w':World} {B:Nat} (h:Keep F w w') (hB:B≤w.heap.size) (hF : ∀ b ∈ F,B≤b):Below B w w':=⟨h.os,h.tape,h.output,h.size,fun b hb=>h.block b (by omega) fun e=>by have:=hF b e; omega⟩
theorem Keep.alloc {F:List Nat} {w w':World} (h:Keep F w w') (o:Obj):Keep F w (w'.alloc o) :=
 ⟨h.os,h.tape,h.output,by have:=h.size; simp; omega,fun b hb hn=>by rw [Below.heap_alloc _ _ _ (by have:=h.size; omega)]; exact h.block b hb hn⟩
theorem Keep.drewN {F:List Nat} {w w':World} (h:Keep F w w') (n:Nat):Keep F w (w'.drewN n):=⟨h.os,h.tape,h.output,h.size,h.block⟩
theorem Keep.setCell {F:List Nat} {w w':World} (h:Keep F w w') (a:Addr) (v:Value) (ha:a.block ∈ F∨w.heap.size≤a.block):Keep F w (w'.setCell a v) :=
 ⟨h.os,h.tape,h.output,by simpa [World.setCell] using h.size,fun b hb hn=>by
    rw [← h.block b hb hn]
    unfold World.setCell
    simp only
    rw [Array.getElem?_modify,if_neg (fun e=>by rcases ha with h1 | h1; exact hn (e ▸ h1); omega)]⟩
theorem cell_at {w:World} {b:Nat} {cs:Array Value} {t:TypeId} {fz:Nat × Nat} (h:w.heap[b]? = some (.cells cs t fz)) (i:Nat):w.cell? ⟨b,i,none⟩=cs[i]?:=by
 unfold World.cell?; simp [h]
theorem frozen_at {w:World} {b:Nat} {cs:Array Value} {t:TypeId} (h:w.heap[b]? = some (.cells cs t (0,0))) (i:Nat):w.frozen? ⟨b,i,none⟩=false:=by
 unfold World.frozen?; simp [h]
theorem heap_set {w:World} {b:Nat} {cs:Array Value} {t:TypeId} {fz:Nat × Nat} (h:w.heap[b]? = some (.cells cs t fz)) (i:Nat) (v:Value):(w.setCell ⟨b,i,none⟩ v).heap[b]? = some (.cells (cs.setIfInBounds i v) t fz):=by
 unfold World.setCell; simp [Array.getElem?_modify,h]
theorem heap_set_other {w:World} {b d:Nat} (i:Nat) (v:Value) (h:b≠d):(w.setCell ⟨b,i,none⟩ v).heap[d]? = w.heap[d]?:=by
 unfold World.setCell; simp [Array.getElem?_modify,h]
theorem ne_of_type {w:World} {b d:Nat} {cs ds:Array Value} {t u:TypeId} (h1:w.heap[b]? = some (.cells cs t (0,0))) (h2:w.heap[d]? = some (.cells ds u (0,0))) (h:t≠u):b≠d:=fun e=>by
 subst e; rw [h1] at h2; simp at h2; exact h h2.2
theorem heap_lt {w:World} {b:Nat} {o:Obj} (h:w.heap[b]? = some o):b < w.heap.size:=(Array.getElem?_eq_some_iff.1 h).1
theorem own_keep {w w':World} {F:List Nat} {base:Nat} {e:TypeId} {s n:Nat} {v:Value} {xs:List Value} (h:w.ownsRow base e s v n xs) (k:Keep F w w') (hv : ∀ b,v.ownBlock=some b→b ∉ F):w'.ownsRow base e s v n xs:=by
 refine ⟨h.1, ?_⟩
 rcases h.2 with ⟨h1, h2⟩ | ⟨g, cap, cur, hv', hb, hg, rest⟩
 ·exact Or.inl ⟨h1,h2⟩
 ·exact Or.inr ⟨g, cap, cur, hv', hb, by rw [k.block g (heap_lt hg) (hv g (by rw [hv']; rfl))]; exact hg, rest⟩
theorem own_slice {w:World} {base:Nat} {e:TypeId} {s n:Nat} {v:Value} {xs:List Value} (h:w.ownsRow base e s v n xs) : ∃ a cap,v = .slice a n cap:=by
 rcases h.2 with ⟨e,h0⟩ | ⟨g,cp,cur,e,_⟩
 ·exact ⟨none,0,by rw [e,h0]⟩
 ·exact ⟨_,_,e⟩
theorem own_block {w:World} {base:Nat} {e:TypeId} {s n:Nat} {v:Value} {xs:List Value} (h:w.ownsRow base e s v n xs) (b:Nat) (hv:v.ownBlock=some b):base≤b∧b < w.heap.size:=by
 rcases h.2 with ⟨h1, _⟩ | ⟨g, cap, cur, hv', hb, hg, _⟩
 ·rw [h1] at hv; simp [Value.ownBlock] at hv
 ·rw [hv'] at hv
  simp [Value.ownBlock] at hv
  subst hv
  exact ⟨hb,heap_lt hg⟩
theorem below_alloc {w w':World} (h:Below w.heap.size w w') (o:Obj):Below w.heap.size w (w'.alloc o):=h.alloc h.size o
theorem below_drawn {w w':World} (h:Below w.heap.size w w') (n:Nat):Below w.heap.size w (w'.drewN n):=⟨h.os,h.tape,h.output,h.size,h.block⟩
theorem below_a1 (w:World) (o1:Obj):Below w.heap.size w (w.alloc o1):=below_alloc (Below.refl _ _) _
theorem below_then {w w1 w2:World} (h:Below w.heap.size w w1) (k:Below w1.heap.size w1 w2):Below w.heap.size w w2:=h.trans (k.mono h.size)
theorem info_parts {t:TypeId} {z:Value} {s b:Nat} (h:(Tryz.prog.info? t).map (fun i=>(i.zero,i.size,i.bytes))=some (some z,s,b)) : ∃ i,Tryz.prog.info? t=some i∧i.zero=some z∧i.size=s∧i.bytes=b:=by
 cases hi:Tryz.prog.info? t with
 | none=>rw [hi] at h; cases h
 | some i=>rw [hi] at h; simp at h; exact ⟨i,rfl,h.1,h.2.1,h.2.2⟩
def Next (F F' : List Nat) (w w' : World) : Prop := Keep F w w' ∧ ∀ b ∈ F', b ∈ F ∨ w.heap.size ≤ b
theorem own_cells {w:World} {base g cap n s:Nat} {e:TypeId} {xs:List Value} (h:w.ownsRow base e s (.slice (some ⟨g,0,none⟩) n cap) n xs) : ∀ (j:Nat) u,xs[j]? = some u→w.cell? ⟨g,j,none⟩=some u:=by
 intro j u hu
 rcases h.2 with ⟨e, _⟩ | ⟨g', cap', cur, e, _, hg, _, _, _, ht⟩
 ·cases e
 ·simp at e
  obtain ⟨rfl,rfl⟩:=e
  rw [cell_at hg]
  rw [← ht,List.getElem?_take] at hu
  split at hu
  ·simpa using hu
  ·cases hu
theorem add_block (y:Addr) (j:Nat):(y.add j).block=y.block:=by unfold Addr.add; split <;> rfl
theorem cell_later {w w':World} {B:Nat} (hb:Below B w w') {a:Addr} (ha:a.block < B) {u:Value} (h:w.cell? a=some u):w'.cell? a=some u:=by
 rw [hb.cell (p:=a) ha]; exact h
theorem own_base {w:World} {base base' e s n:Nat} {v:Value} {xs:List Value} (h:w.ownsRow base e s v n xs) (hb:base'≤base):w.ownsRow base' e s v n xs:=by
 refine ⟨h.1, ?_⟩
 rcases h.2 with h | ⟨g,cap,cur,h1,h2,h3⟩
 ·exact Or.inl h
 ·exact Or.inr ⟨g,cap,cur,h1,by omega,h3⟩
theorem below_row {w w':World} (h:Below w.heap.size w w') (b:Nat) (hb:w.heap.size≤b) (cs:Array Value):Below w.heap.size w (w'.setRow b cs) :=
 ⟨h.os,h.tape,h.output,by rw [setRow_size]; exact h.size,fun k hk=>by rw [setRow_other _ _ _ _ (by omega)]; exact h.block k hk⟩
end Go.Proofs.YtigfjedohdgjfaaGreatDoor.Tl
namespace Go.Proofs.YtigfjedohdgjfaaGreatDoor.Tl
set_option linter.unusedVariables false
structure Wr where
 c:Int
 v:Int
def noWr:Wr:=⟨0,0⟩
structure Tb where
 m:Nat
 k:Nat
 R:List Wr
 P:Nat→Nat
def fst (k:Nat) (c:Int):Nat:=(c * 11400714819323198485 % 18446744073709551616).toNat / 2 ^ (64 - k)
theorem fst_lt (k:Nat) (hk:k≤64) (c:Int):fst k c < 2 ^ k:=by
 unfold fst
 apply Nat.div_lt_of_lt_mul
 have h1:(2:Nat) ^ (64 - k) * 2 ^ k=18446744073709551616:=by
  rw [← Nat.pow_add,show 64 - k+k=64 by omega]
 rw [h1]
 omega
def pw (m:Nat):Nat:=if m≤1 then 1 else if m≤2 then 2 else if m≤4 then 3 else if m≤8 then 4 else if m≤16 then 5 else 6
theorem pw_bound (m:Nat):1≤pw m∧pw m≤6:=by
 unfold pw
 repeat' split
 all_goals omega
theorem pw_two (m:Nat) (h1:1≤m) (h:m≤24):2 * m≤2 ^ pw m:=by
 have : ∀ m,m < 25→2 * m≤2 ^ pw m:=by decide
 exact this m (by omega)
theorem pw_pos (k:Nat):0 < 2 ^ k:=Nat.two_pow_pos k
theorem pw_64 {k:Nat} (h:k≤6):2 ^ k≤64:=by
 have : ∀ k,k < 7→2 ^ k≤64:=by decide
 exact this k (by omega)
theorem count_upd (p:Nat→Bool) (n q:Nat) (hq:q < n) (h0:p q=false):(List.range n).countP (fun x=>if x=q then true else p x)=(List.range n).countP p+1:=by
 induction n with
 | zero=>omega
 | succ n ih =>
  rw [List.range_succ,List.countP_append,List.countP_append]
  by_cases e:q=n
  ·subst e
   have h1:(List.range q).countP (fun x=>if x=q then true else p x)=(List.range q).countP p:=by
    apply List.countP_congr
    intro x hx
    have:=List.mem_range.1 hx
    rw [if_neg (by omega)]
   rw [h1]
   simp [h0]
  ·rw [ih (by omega)]
   have:(if n=q then true else p n)=p n:=if_neg (fun e' => e e'.symm)
   simp only [List.countP_cons,List.countP_nil,this]
   omega
theorem count_all {p:Nat→Bool} {n:Nat} (h : ∀ q,q < n→p q=true):(List.range n).countP p=n:=by
 have:=List.countP_eq_length (p:=p) (l:=List.range n) |>.2 (fun a ha=>h a (List.mem_range.1 ha))
 simpa using this
theorem least {Q:Nat→Prop} (n:Nat) (h : ∃ d,d < n∧Q d) : ∃ d,d < n∧Q d ∧ ∀ e,e < d → ¬ Q e:=by
 obtain ⟨d,hd,hQ⟩:=h
 induction d using Nat.strongRecOn with
 | _ d ih =>
  by_cases h : ∃ e,e < d∧Q e
  ·obtain ⟨e,he,hq⟩:=h
   exact ih e he (by omega) hq
  ·exact ⟨d,hd,hQ,fun e he hq=>h ⟨e,he,hq⟩⟩
theorem mod_step (q e N:Nat):((q+1) % N+e) % N=(q+(e+1)) % N:=by
 rw [Nat.add_mod,Nat.mod_mod,← Nat.add_mod]
 congr 1
 omega
def gap (P:Nat→Nat) (N:Nat):Nat→Nat→Nat
 | 0,q=>q
 | n+1,q=>if P q=0 then q else gap P N n ((q+1) % N)
theorem gap_eq (P:Nat→Nat) (N:Nat) (hN:0 < N) : ∀ (d n q:Nat),q < N→d≤n→P ((q+d) % N)=0→(∀ e,e < d→P ((q+e) % N)≠0)→gap P N n q=(q+d) % N:=by
 intro d
 induction d with
 | zero =>
  intro n q hq _ h0 _
  rw [Nat.add_zero,Nat.mod_eq_of_lt hq] at h0 ⊢
  cases n with
  | zero=>rfl
  | succ n=>unfold gap; rw [if_pos h0]
 | succ d ih =>
  intro n q hq hn h0 hb
  cases n with
  | zero=>omega
  | succ n =>
   have h1:=hb 0 (by omega)
   rw [Nat.add_zero,Nat.mod_eq_of_lt hq] at h1
   unfold gap
   rw [if_neg h1,ih n ((q+1) % N) (Nat.mod_lt _ hN) (by omega) (by rw [mod_step]; exact h0) (fun e he=>by rw [mod_step]; exact hb _ (by omega)),mod_step]
def at? (R:List Wr) (c:Int):Option Nat:=R.findIdx? (fun x=>x.c == c)
def right (c:Int):Bool:=decide (0≤c) && decide (c < 1024)
theorem at_some {R:List Wr} {c:Int} {i:Nat} (h:at? R c=some i) : ∃ h:i < R.length,R[i].c=c:=by
 obtain ⟨h1,h2,_⟩:=List.findIdx?_eq_some_iff_getElem.1 h
 exact ⟨h1,by simpa using h2⟩
theorem at_none {R:List Wr} {c:Int} (h:at? R c=none) (i:Nat) (hi:i < R.length):R[i].c≠c:=by
 have:=List.findIdx?_eq_none_iff.1 h R[i] (List.getElem_mem hi)
 simpa using this
theorem at_none_of {R:List Wr} {c:Int} (h : ∀ i,(hi:i < R.length)→R[i].c≠c):at? R c=none:=by
 apply List.findIdx?_eq_none_iff.2
 intro x hx
 obtain ⟨i,hi,rfl⟩:=List.getElem_of_mem hx
 simpa using h i hi
theorem at_some_of {R:List Wr} {c:Int} {i:Nat} (hi:i < R.length) (h:R[i].c=c) (hf : ∀ j,(hj:j < i)→R[j].c≠c):at? R c=some i:=by
 apply List.findIdx?_eq_some_iff_getElem.2
 exact ⟨hi,by simpa using h,fun j hj=>by simpa using hf j hj⟩
structure Inv (s:Tb):Prop where
 m1:1≤s.m
 m24:s.m≤24
 k:s.k=pw s.m
 len:s.R.length≤s.m
 right : ∀ i,(h:i < s.R.length)→0≤s.R[i].c∧s.R[i].c < 1024
 inj : ∀ i j,(h:i < s.R.length)→(h':j < s.R.length)→s.R[i].c=s.R[j].c→i=j
 lo : ∀ q,q < 2 ^ s.k→s.P q≤s.R.length
 cnt:(List.range (2 ^ s.k)).countP (fun q=>s.P q != 0)=s.R.length
 way : ∀ i,(h:i < s.R.length) → ∃ d,d < 2 ^ s.k∧s.P ((fst s.k s.R[i].c+d) % 2 ^ s.k)=i+1 ∧ ∀ e,e < d→s.P ((fst s.k s.R[i].c+e) % 2 ^ s.k)≠0
theorem Inv.k6 {s:Tb} (h:Inv s):1≤s.k∧s.k≤6:=by rw [h.k]; exact pw_bound _
theorem Inv.two {s:Tb} (h:Inv s):2 * s.m≤2 ^ s.k:=by rw [h.k]; exact pw_two _ h.m1 h.m24
theorem Inv.n64 {s:Tb} (h:Inv s):2 ^ s.k≤64:=pw_64 h.k6.2
theorem Inv.fst {s:Tb} (h:Inv s) (c:Int):fst s.k c < 2 ^ s.k:=fst_lt _ (by have:=h.k6; omega) c
theorem Inv.at_eq {s:Tb} (h:Inv s) {c:Int} {i:Nat} (hi:i < s.R.length) (hc:s.R[i].c=c):at? s.R c=some i :=
 at_some_of hi hc (fun j hj e=>by
    have:=h.inj j i (by omega) hi (e.trans hc.symm)
    omega)
theorem Inv.free {s:Tb} (h:Inv s) (f:Nat) (hf:f < 2 ^ s.k) : ∃ d,d < 2 ^ s.k∧s.P ((f+d) % 2 ^ s.k)=0 ∧ ∀ e,e < d → ¬ s.P ((f+e) % 2 ^ s.k)=0:=by
 have h2:=h.two
 have hl:=h.len
 have hm:=h.m1
 apply least (Q:=fun d=>s.P ((f+d) % 2 ^ s.k)=0)
 have ⟨q,hq,h0⟩ : ∃ q,q < 2 ^ s.k∧s.P q=0:=by
  apply Classical.byContradiction
  intro hn
  have:=count_all (p:=fun q=>s.P q != 0) (n:=2 ^ s.k) (fun q hq=>by simpa using fun e=>hn ⟨q,hq,e⟩)
  rw [h.cnt] at this
  omega
 generalize 2 ^ s.k=N at *
 refine ⟨(q+N - f) % N,Nat.mod_lt _ (by omega), ?_⟩
 rw [Nat.add_mod,Nat.mod_mod,← Nat.add_mod,show f+(q+N - f)=q+N by omega,Nat.add_mod_right,Nat.mod_eq_of_lt hq]
 exact h0
theorem Inv.none {s:Tb} (h:Inv s) {c:Int} {d:Nat} (h0:s.P ((Proofs.YtigfjedohdgjfaaGreatDoor.Tl.fst s.k c+d) % 2 ^ s.k)=0) (hb : ∀ e,e < d→s.P ((Proofs.YtigfjedohdgjfaaGreatDoor.Tl.fst s.k c+e) % 2 ^ s.k)≠0∧(s.R.getD (s.P ((Proofs.YtigfjedohdgjfaaGreatDoor.Tl.fst s.k c+e) % 2 ^ s.k) - 1) noWr).c≠c):at? s.R c = .none:=by
 apply at_none_of
 intro i hi hc
 obtain ⟨e,he,h1,h2⟩:=h.way i hi
 rw [hc] at h1 h2
 rcases Nat.lt_trichotomy e d with hlt | rfl | hlt
 ·have:=(hb e hlt).2
  rw [h1] at this
  apply this
  simp [hi,hc]
 ·omega
 ·exact h2 d hlt h0
def put (s:Tb) (c v:Int):Tb :=
 if right c then
  match at? s.R c with
  | some i=>{ s with R:=s.R.set i ⟨c,v⟩ }
  | none=>if s.m≤s.R.length then s else { s with R:=s.R ++ [⟨c,v⟩],P:=fun q=>if q=gap s.P (2 ^ s.k) (2 ^ s.k) (fst s.k c) then s.R.length+1 else s.P q }
 else s
def putE (s:Tb) (c:Int):Int :=
 if right c then
  match at? s.R c with
  | some _=>0
  | none=>if s.m≤s.R.length then 2 else 0
 else 1
theorem put_wrong {s:Tb} {c:Int} (v:Int) (h:right c=false):put s c v=s∧putE s c=1:=by simp [put,putE,h]
theorem put_old {s:Tb} {c:Int} (v:Int) {i:Nat} (h:right c=true) (hi:at? s.R c=some i):put s c v = { s with R:=s.R.set i ⟨c,v⟩ }∧putE s c=0:=by simp [put,putE,h,hi]
theorem put_full {s:Tb} {c:Int} (v:Int) (h:right c=true) (hi:at? s.R c=none) (hm:s.m≤s.R.length):put s c v=s∧putE s c=2:=by simp [put,putE,h,hi,hm]
theorem put_new {s:Tb} {c:Int} (v:Int) (h:right c=true) (hi:at? s.R c=none) (hm:s.R.length < s.m):put s c v = { s with R:=s.R ++ [⟨c,v⟩],P:=fun q=>if q=gap s.P (2 ^ s.k) (2 ^ s.k) (fst s.k c) then s.R.length+1 else s.P q }∧putE s c=0:=by
 have : ¬ s.m≤s.R.length:=by omega
 simp [put,putE,h,hi,this]
def empty (m:Nat):Tb:=⟨m,pw m,[],fun _=>0⟩
theorem empty_inv {m:Nat} (h1:1≤m) (h:m≤24):Inv (empty m) :=
 ⟨h1,h,rfl,Nat.zero_le _,fun i h=>absurd h (by simp [empty]),fun i j h=>absurd h (by simp [empty]),fun q _=>Nat.le_refl _,by simp [empty],fun i h=>absurd h (by simp [empty])⟩
theorem set_c {R:List Wr} {i:Nat} {x:Wr} (hi:i < R.length) (hx:R[i].c=x.c) (j:Nat) (hj:j < (R.set i x).length):(R.set i x)[j].c=(R[j]'(by simpa using hj)).c:=by
 rw [List.getElem_set]
 split
 ·next e=>subst e; exact hx.symm
 ·rfl
theorem put_inv {s:Tb} (h:Inv s) (c v:Int):Inv (put s c v):=by
 cases hr:right c with
 | false=>rw [(put_wrong v hr).1]; exact h
 | true =>
  cases ha:at? s.R c with
  | some i =>
   rw [(put_old v hr ha).1]
   obtain ⟨hi,hc⟩:=at_some ha
   have hs:=fun j hj=>set_c (x:=⟨c,v⟩) hi hc j hj
   refine ⟨h.m1,h.m24,h.k,by simpa using h.len,fun j hj => ?_,fun j j' hj hj' e => ?_,fun q hq=>by simpa using h.lo q hq,by simpa using h.cnt,fun j hj => ?_⟩
   ·show 0≤(s.R.set i ⟨c,v⟩)[j].c∧_
    rw [hs j hj]; exact h.right j (by simpa using hj)
   ·have e':(s.R.set i ⟨c,v⟩)[j].c=(s.R.set i ⟨c,v⟩)[j'].c:=e
    rw [hs j hj,hs j' hj'] at e'
    exact h.inj j j' (by simpa using hj) (by simpa using hj') e'
   ·show ∃ d,d < 2 ^ s.k∧s.P ((fst s.k (s.R.set i ⟨c,v⟩)[j].c+d) % 2 ^ s.k)=j+1 ∧ ∀ e,e < d→s.P ((fst s.k (s.R.set i ⟨c,v⟩)[j].c+e) % 2 ^ s.k)≠0
    rw [hs j hj]
    exact h.way j (by simpa using hj)
  | none =>
   by_cases hm:s.m≤s.R.length
   ·rw [(put_full v hr ha hm).1]; exact h
   ·rw [(put_new v hr ha (by omega)).1]
    have hn:=at_none ha
    obtain ⟨d,hd,h0,hb⟩:=h.free _ (h.fst c)
    rw [gap_eq s.P _ (pw_pos _) d _ _ (h.fst c) (by omega) h0 hb]
    have hq0:(fst s.k c+d) % 2 ^ s.k < 2 ^ s.k:=Nat.mod_lt _ (pw_pos _)
    have hcr:0≤c∧c < 1024:=by simpa [right] using hr
    refine ⟨h.m1,h.m24,h.k,by simp; omega,fun j hj => ?_,fun j j' hj hj' e => ?_,fun q hq => ?_, ?_,fun j hj => ?_⟩
    ·simp only [List.length_append,List.length_cons,List.length_nil] at hj
     by_cases e:j < s.R.length
     ·simp only [List.getElem_append_left e]; exact h.right j e
     ·obtain rfl:j=s.R.length:=by omega
      simp only [List.getElem_append_right (Nat.le_refl _),Nat.sub_self,List.getElem_cons_zero]; exact hcr
    ·simp only [List.length_append,List.length_cons,List.length_nil] at hj hj'
     by_cases e1:j < s.R.length
     ·by_cases e2:j' < s.R.length
      ·simp only [List.getElem_append_left e1,List.getElem_append_left e2] at e; exact h.inj j j' e1 e2 e
      ·obtain rfl:j'=s.R.length:=by omega
       simp only [List.getElem_append_left e1,List.getElem_append_right (Nat.le_refl _),Nat.sub_self,List.getElem_cons_zero] at e
       exact absurd e (hn j e1)
     ·obtain rfl:j=s.R.length:=by omega
      by_cases e2:j' < s.R.length
      ·simp only [List.getElem_append_left e2,List.getElem_append_right (Nat.le_refl _),Nat.sub_self,List.getElem_cons_zero] at e
       exact absurd e.symm (hn j' e2)
      ·omega
    ·have:=h.lo q hq
     show (if q=_ then s.R.length+1 else s.P q)≤_
     simp only [List.length_append,List.length_cons,List.length_nil]
     split <;> omega
    ·show (List.range (2 ^ s.k)).countP (fun q=>(if q=_ then s.R.length+1 else s.P q) != 0)=_
     have:=count_upd (fun q=>s.P q != 0) (2 ^ s.k) _ hq0 (by simpa using h0)
     rw [h.cnt] at this
     rw [List.length_append,List.length_cons,List.length_nil]
     refine Eq.trans ?_ this
     congr 1
     funext x
     by_cases e:x=(fst s.k c+d) % 2 ^ s.k
     ·rw [if_pos e,if_pos e]; simp
     ·rw [if_neg e,if_neg e]
    ·simp only [List.length_append,List.length_cons,List.length_nil] at hj
     by_cases e:j < s.R.length
     ·simp only [List.getElem_append_left e]
      obtain ⟨d1,hd1,h1,hb1⟩:=h.way j e
      refine ⟨d1,hd1, ?_,fun e' he' => ?_⟩
      ·rw [if_neg (fun e2=>by rw [e2] at h1; omega)]; exact h1
      ·have:=hb1 e' he'
       split <;> omega
     ·obtain rfl:j=s.R.length:=by omega
      simp only [List.getElem_append_right (Nat.le_refl _),Nat.sub_self,List.getElem_cons_zero]
      refine ⟨d,hd,by rw [if_pos rfl],fun e' he' => ?_⟩
      have:=hb e' he'
      split <;> omega
def tf (s:Tb) (i:Nat):Int :=
 if i=0 then s.m else if i=1 then s.k else if i=2 then s.R.length
 else if i < 51 then (if (i - 3) % 2=0 then (s.R.getD ((i - 3) / 2) noWr).c else (s.R.getD ((i - 3) / 2) noWr).v)
 else s.P (i - 51)
def cellsOf (f:Nat→Int):Array Value:=((List.range 115).map fun i=>Value.int .i64 (f i)).toArray
theorem cellsOf_get (f:Nat→Int) (i:Nat) (h:i < 115):(cellsOf f)[i]? = some (.int .i64 (f i)):=by simp [cellsOf,h]
theorem cellsOf_set (f:Nat→Int) (i:Nat) (h:i < 115) (z:Int):(cellsOf f).setIfInBounds i (.int .i64 z)=cellsOf (fun j=>if j=i then z else f j) :=
 map_set_range h (by simp) (fun q hq=>by simp [hq])
theorem cellsOf_congr {f g:Nat→Int} (h : ∀ i,i < 115→f i=g i):cellsOf f=cellsOf g :=
 map_same_range (fun q hq=>by rw [h q hq])
theorem tf_c (s:Tb) (i:Nat) (h:i < 24):tf s (3+i * 2)=(s.R.getD i noWr).c:=by
 unfold tf
 rw [if_neg (by omega),if_neg (by omega),if_neg (by omega),if_pos (by omega),if_pos (by omega),show (3+i * 2 - 3) / 2=i by omega]
theorem tf_v (s:Tb) (i:Nat) (h:i < 24):tf s (3+i * 2+1)=(s.R.getD i noWr).v:=by
 unfold tf
 rw [if_neg (by omega),if_neg (by omega),if_neg (by omega),if_pos (by omega),if_neg (by omega),show (3+i * 2+1 - 3) / 2=i by omega]
theorem tf_p (s:Tb) (q:Nat):tf s (51+q)=s.P q:=by
 unfold tf
 rw [if_neg (by omega),if_neg (by omega),if_neg (by omega),if_neg (by omega),show 51+q - 51=q by omega]
def tabC (s:Tb):Array Value:=cellsOf (tf s)
theorem tabC_old {s:Tb} {i:Nat} {c v:Int} (hi:i < s.R.length) (h24:s.R.length≤24) (hc:s.R[i].c=c) :
  (tabC s).setIfInBounds (3+i * 2+1) (.int .i64 v)=tabC { s with R:=s.R.set i ⟨c,v⟩ }:=by
 unfold tabC
 rw [cellsOf_set _ _ (by omega)]
 apply cellsOf_congr
 intro j hj
 unfold tf
 simp only [List.length_set]
 by_cases e:j=3+i * 2+1
 ·subst e
  rw [if_pos rfl,if_neg (by omega),if_neg (by omega),if_neg (by omega),if_pos (by omega),if_neg (by omega),show (3+i * 2+1 - 3) / 2=i by omega]
  simp [hi]
 ·rw [if_neg e]
  by_cases e2:(j - 3) / 2=i∧3≤j
  ·have hj2:j=3+i * 2:=by omega
   subst hj2
   rw [if_neg (by omega),if_neg (by omega),if_neg (by omega),if_pos (by omega),if_pos (by omega),if_neg (by omega),if_neg (by omega),if_neg (by omega),if_pos (by omega),if_pos (by omega),show (3+i * 2 - 3) / 2=i by omega]
   simp [hi,hc]
  ·have : ∀ (j:Nat),j < 115 → ¬ ((j - 3) / 2=i∧3≤j)→3≤j→(s.R.set i ⟨c,v⟩).getD ((j - 3) / 2) noWr=s.R.getD ((j - 3) / 2) noWr:=fun j _ h1 h2=>by
    simp only [List.getD_eq_getElem?_getD]
    rw [List.getElem?_set_ne (by omega)]
   by_cases h3:3≤j
   ·rw [this j hj e2 h3]
   ·have hj:j=0∨j=1∨j=2:=by omega
    rcases hj with rfl | rfl | rfl <;> rfl
theorem tabC_new {s:Tb} {c v:Int} {q:Nat} (h24:s.R.length < 24) (hq:q < 64) :
  ((((tabC s).setIfInBounds (3+s.R.length * 2) (.int .i64 c)).setIfInBounds (3+s.R.length * 2+1) (.int .i64 v)).setIfInBounds 2 (.int .i64 ((s.R.length:Int)+1))).setIfInBounds (51+q) (.int .i64 ((s.R.length:Int)+1))=tabC { s with R:=s.R ++ [⟨c,v⟩],P:=fun x=>if x=q then s.R.length+1 else s.P x }:=by
 unfold tabC
 rw [cellsOf_set _ _ (by omega),cellsOf_set _ _ (by omega),cellsOf_set _ _ (by omega),cellsOf_set _ _ (by omega)]
 apply cellsOf_congr
 intro j hj
 unfold tf
 simp only [List.length_append,List.length_cons,List.length_nil]
 by_cases h51:51≤j
 ·obtain ⟨x,rfl⟩ : ∃ x,j=51+x:=⟨j - 51,by omega⟩
  have e0 : ¬ (51+x < 51):=by omega
  have e1 : ¬ (51+x=2):=by omega
  have e2 : ¬ (51+x=3+s.R.length * 2+1):=by omega
  have e3 : ¬ (51+x=3+s.R.length * 2):=by omega
  have e4 : ¬ (51+x=0):=by omega
  have e5 : ¬ (51+x=1):=by omega
  have e6:51+x - 51=x:=by omega
  simp only [e0,e1,e2,e3,e4,e5,e6,if_false]
  by_cases e:x=q
  ·subst e; simp
  ·have : ¬ (51+x=51+q):=by omega
   simp [e]
 ·have e0 : ¬ (j=51+q):=by omega
  have e7:j < 51:=by omega
  by_cases h3:3≤j
  ·obtain ⟨y,rfl⟩ : ∃ y,j=3+y:=⟨j - 3,by omega⟩
   have e1 : ¬ (3+y=2):=by omega
   have e4 : ¬ (3+y=0):=by omega
   have e5 : ¬ (3+y=1):=by omega
   have e6:3+y - 3=y:=by omega
   simp only [e0,e1,e4,e5,e6,e7,if_false,if_true,List.getD_eq_getElem?_getD]
   by_cases hy:y / 2=s.R.length
   ·by_cases hy2:y % 2=0
    ·have e8 : ¬ (3+y=3+s.R.length * 2+1):=by omega
     have e9:3+y=3+s.R.length * 2:=by omega
     rw [if_neg e8,if_pos e9,if_pos hy2,hy]
     simp
    ·have e8:3+y=3+s.R.length * 2+1:=by omega
     rw [if_pos e8,if_neg hy2,hy]
     simp
   ·have e8 : ¬ (3+y=3+s.R.length * 2+1):=by omega
    have e9 : ¬ (3+y=3+s.R.length * 2):=by omega
    simp only [e8,e9,if_false]
    have:(s.R ++ [⟨c,v⟩])[y / 2]?.getD noWr=s.R[y / 2]?.getD noWr:=by
     by_cases hlt:y / 2 < s.R.length
     ·rw [List.getElem?_append_left hlt]
     ·rw [List.getElem?_eq_none (by simp; omega),List.getElem?_eq_none (by omega)]
    rw [this]
  ·have hj:j=0∨j=1∨j=2:=by omega
   rcases hj with rfl | rfl | rfl
   ·simp; rw [if_neg (by omega),if_neg (by omega)]
   ·simp; rw [if_neg (by omega),if_neg (by omega)]
   ·simp
end Go.Proofs.YtigfjedohdgjfaaGreatDoor.Tl
namespace Go.Proofs.YtigfjedohdgjfaaGreatDoor.Tl
open Go.ChangeShapes Go.WideShapes Go.ChangeAt Go.RowKit
def TabAt (w:World) (B:Nat) (s:Tb):Prop:=w.heap[B]? = some (.cells (tabC s) 187 (0,0))
theorem TabAt.cell {w:World} {B:Nat} {s:Tb} (h:TabAt w B s) (i:Nat) (hi:i < 115):w.cell? ⟨B,i,none⟩=some (.int .i64 (tf s i)):=by
 rw [cell_at h]; exact cellsOf_get _ _ hi
theorem TabAt.keep {w w':World} {B:Nat} {s:Tb} {F:List Nat} (h:TabAt w B s) (k:Keep F w w') (hB:B ∉ F):TabAt w' B s:=by
 unfold TabAt; rw [k.block _ (heap_lt h) hB]; exact h
theorem TabAt.below {w w':World} {B:Nat} {s:Tb} (h:TabAt w B s) (k:Below w.heap.size w w'):TabAt w' B s:=h.keep (Keep.of_below k []) (by simp)
theorem TabAt.k {w:World} {B:Nat} {s:Tb} (h:TabAt w B s):w.cell? ⟨B,1,none⟩=some (.int .i64 (s.k:Int)):=h.cell 1 (by decide)
theorem TabAt.m {w:World} {B:Nat} {s:Tb} (h:TabAt w B s):w.cell? ⟨B,0,none⟩=some (.int .i64 (s.m:Int)):=h.cell 0 (by decide)
theorem TabAt.n {w:World} {B:Nat} {s:Tb} (h:TabAt w B s):w.cell? ⟨B,2,none⟩=some (.int .i64 (s.R.length:Int)):=h.cell 2 (by decide)
theorem TabAt.c {w:World} {B:Nat} {s:Tb} (h:TabAt w B s) (i:Nat) (hi:i < 24):w.cell? ⟨B,3+i * 2,none⟩=some (.int .i64 (s.R.getD i noWr).c):=by rw [← tf_c s i hi]; exact h.cell _ (by omega)
theorem TabAt.v {w:World} {B:Nat} {s:Tb} (h:TabAt w B s) (i:Nat) (hi:i < 24):w.cell? ⟨B,3+i * 2+1,none⟩=some (.int .i64 (s.R.getD i noWr).v):=by rw [← tf_v s i hi]; exact h.cell _ (by omega)
theorem TabAt.p {w:World} {B:Nat} {s:Tb} (h:TabAt w B s) (q:Nat) (hq:q < 64):w.cell? ⟨B,51+q,none⟩=some (.int .i64 (s.P q:Int)):=by rw [← tf_p s q]; exact h.cell _ (by omega)
theorem pow_eq {k:Nat} (hk:k≤6):wrap64 (2 ^ k)=((2 ^ k:Nat):Int):=by
 have h1:=pw_64 hk
 have h2:(2:Int) ^ k=((2 ^ k:Nat):Int):=by simp
 rw [h2]
 generalize 2 ^ k=n at *
 unfold wrap64
 omega
theorem first_eq {k:Nat} (hk:k≤6) (c:Int):wrap64 (IntKind.u64.wrap (IntKind.u64.wrap c * 11400714819323198485) / 2 ^ (64 - k))=(fst k c:Int):=by
 have h1:IntKind.u64.wrap (IntKind.u64.wrap c * 11400714819323198485)=c * 11400714819323198485 % 18446744073709551616:=by
  rw [IntKind.wrap_u64,IntKind.wrap_u64,Int.mul_emod,Int.emod_emod_of_dvd _ (Int.dvd_refl _),← Int.mul_emod]
 have h2:(((c * 11400714819323198485 % 18446744073709551616).toNat:Nat):Int)=c * 11400714819323198485 % 18446744073709551616:=Int.toNat_of_nonneg (Int.emod_nonneg _ (by decide))
 have h3:c * 11400714819323198485 % 18446744073709551616 / 2 ^ (64 - k)=(fst k c:Int):=by
  unfold fst
  generalize c * 11400714819323198485 % 18446744073709551616=x at *
  rw [Int.natCast_ediv,h2]
  congr 1
 rw [h1,h3]
 have h4:=fst_lt k (by omega) c
 have h5:=pw_64 hk
 generalize fst k c=f at *
 generalize 2 ^ k=n at *
 unfold wrap64
 omega
theorem len_any {w:World} {B:Nat} {s:Tb} (h:TabAt w B s):Calls Tryz.prog 111 #[.pointer (some ⟨B,0,none⟩)] w fun e w' => e = .returned (.int .i64 (s.R.length:Int))∧w'=w:=by
 have h2:=h.n
 clear h
 go_enter Tryz.func111,Tryz.ntmps111
 go_wp2
 go_ret
 exact ⟨rfl,rfl⟩
theorem size_any {w:World} {B:Nat} {s:Tb} (h:TabAt w B s) (hk:s.k≤6):Calls Tryz.prog 178 #[.pointer (some ⟨B,0,none⟩)] w fun e w' => e = .returned (.int .i64 ((2 ^ s.k:Nat):Int))∧w'=w:=by
 have h1:=h.k
 have HP:=pow_eq hk
 clear h
 generalize s.k=k at *
 generalize ((2 ^ k:Nat):Int)=z at *
 go_enter Tryz.func178,Tryz.ntmps178
 go_wp2
 go_ret
 refine ⟨?_,rfl⟩
 show Ending.returned (Value.int .i64 (wrap64 (2 ^ k)))=_
 rw [HP]
theorem first_any {w:World} {B:Nat} {s:Tb} (h:TabAt w B s) (hk:s.k≤6) (c:Int):Calls Tryz.prog 177 #[.pointer (some ⟨B,0,none⟩),.int .i64 c] w fun e w' => e = .returned (.int .i64 (fst s.k c:Int))∧w'=w:=by
 have h1:=h.k
 have HP:=first_eq hk c
 clear h
 generalize s.k=k at *
 generalize ((fst k c:Nat):Int)=z at *
 have HP':Hid (wrap64 (IntKind.u64.wrap (IntKind.u64.wrap c * 11400714819323198485) / 2 ^ (64 - k))=z):=HP
 clear HP
 go_enter Tryz.func177,Tryz.ntmps177
 go_wp2
 go_ret
 refine ⟨?_,rfl⟩
 show Ending.returned (Value.int .i64 (wrap64 (IntKind.u64.wrap (IntKind.u64.wrap c * 11400714819323198485) / 2 ^ (64 - k))))=_
 rw [HP'.out]
end Go.Proofs.YtigfjedohdgjfaaGreatDoor.Tl
