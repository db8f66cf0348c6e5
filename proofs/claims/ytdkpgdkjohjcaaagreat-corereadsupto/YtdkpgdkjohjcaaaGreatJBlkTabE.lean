/- Blocks of memory: what is kept while others change, rows that a call owns, cells by their place. -/
import Derived.Test.YtdkpgdkjohjcaaaGreatRows
import Derived.WalkKit
import Derived.ProofKit
import Derived.OpenShut
import Derived.ShutString
import Derived.WalkSpells
import Derived.WalkLawsBesides
import Derived.Deep.QuietTactic
import Derived.BigQuiet
import Derived.ChangeOld
import Derived.Below
import Derived.WalkSmall
import Derived.Laws.Rows
import Derived.Laws.Tables
import Derived.Deep.WholeRow
import Derived.Laws.AppendOwn
import Derived.Deep.RegionHeld3
import Derived.Deep.AppendLies
import Derived.Deep.DrawnRows
import Derived.Deep.RegionLaw
import Derived.Deep.Slices
import Derived.WalkMore
set_option maxRecDepth 100000
namespace Go.Proofs.YtdkpgdkjohjcaaaGreat.Tl
set_option linter.unusedVariables false
open Go.ChangeShapes Go.WideShapes Go.ChangeAt Go.RowKit
theorem map_set_range {f g:Nat→Value} {n i:Nat} {v:Value} (hi:i < n) (h1:g i=v) (h2 : ∀ q,q≠i→g q=f q):(((List.range n).map f).toArray.setIfInBounds i v)=((List.range n).map g).toArray:=by
 apply Array.ext_getElem?
 intro q
 rw [Array.getElem?_setIfInBounds]
 by_cases e:i=q
 ·subst e; simp [hi,h1]
 ·rw [if_neg e]
  by_cases hq:q < n
  ·simp [hq,h2 q (fun e' => e e'.symm)]
  ·simp [hq]
theorem map_same_range {f g:Nat→Value} {n:Nat} (h : ∀ q,q < n→g q=f q):(((List.range n).map f).toArray)=((List.range n).map g).toArray:=by
 congr 1
 apply List.map_congr_left
 intro q hq
 exact (h q (List.mem_range.1 hq)).symm
structure Keep (F:List Nat) (w w':World):Prop where
 os:w'.os=w.os
 tape:w'.tape=w.tape
 output:w'.output=w.output
 size:w.heap.size≤w'.heap.size
 block : ∀ b,b < w.heap.size→b ∉ F→w'.heap[b]? = w.heap[b]?
theorem Keep.refl (F:List Nat) (w:World):Keep F w w:=⟨rfl,rfl,rfl,Nat.le_refl _,fun _ _ _=>rfl⟩
theorem Keep.mono {F G:List Nat} {w w':World} (h:Keep F w w') (hs : ∀ b ∈ F,b ∈ G):Keep G w w':=⟨h.os,h.tape,h.output,h.size,fun b hb hn=>h.block b hb fun e=>hn (hs b e)⟩
theorem Keep.of_below {w w':World} (h:Below w.heap.size w w') (F:List Nat):Keep F w w':=⟨h.os,h.tape,h.output,h.size,fun b hb _=>h.block b hb⟩
theorem Keep.drewN {F:List Nat} {w w':World} (h:Keep F w w') (n:Nat):Keep F w (w'.drewN n):=⟨h.os,h.tape,h.output,h.size,h.block⟩
theorem Keep.setCell {F:List Nat} {w w':World} (h:Keep F w w') (a:Addr) (v:Value) (ha:a.block ∈ F∨w.heap.size≤a.block):Keep F w (w'.setCell a v) :=
 ⟨h.os,h.tape,h.output,by simpa [World.setCell] using h.size,fun b hb hn=>by
    rw [← h.block b hb hn]
    unfold World.setCell
    simp only
    rw [Array.getElem?_modify,if_neg (fun e=>by rcases ha with h1 | h1; exact hn (e ▸ h1); omega)]⟩
theorem cell_at {w:World} {b:Nat} {cs:Array Value} {t:TypeId} {fz:Nat × Nat} (h:w.heap[b]? = some (.cells cs t fz)) (i:Nat):w.cell? ⟨b,i,none⟩=cs[i]?:=by
 unfold World.cell?; simp [h]
theorem frozen_at {w:World} {b:Nat} {cs:Array Value} {t:TypeId} (h:w.heap[b]? = some (.cells cs t (0,0))) (i:Nat):w.frozen? ⟨b,i,none⟩=false:=by
 unfold World.frozen?; simp [h]
theorem heap_set {w:World} {b:Nat} {cs:Array Value} {t:TypeId} {fz:Nat × Nat} (h:w.heap[b]? = some (.cells cs t fz)) (i:Nat) (v:Value):(w.setCell ⟨b,i,none⟩ v).heap[b]? = some (.cells (cs.setIfInBounds i v) t fz):=by
 unfold World.setCell; simp [Array.getElem?_modify,h]
theorem heap_set_other {w:World} {b d:Nat} (i:Nat) (v:Value) (h:b≠d):(w.setCell ⟨b,i,none⟩ v).heap[d]? = w.heap[d]?:=by
 unfold World.setCell; simp [Array.getElem?_modify,h]
theorem ne_of_type {w:World} {b d:Nat} {cs ds:Array Value} {t u:TypeId} (h1:w.heap[b]? = some (.cells cs t (0,0))) (h2:w.heap[d]? = some (.cells ds u (0,0))) (h:t≠u):b≠d:=fun e=>by
 subst e; rw [h1] at h2; simp at h2; exact h h2.2
theorem heap_lt {w:World} {b:Nat} {o:Obj} (h:w.heap[b]? = some o):b < w.heap.size:=(Array.getElem?_eq_some_iff.1 h).1
theorem own_keep {w w':World} {F:List Nat} {base:Nat} {e:TypeId} {s n:Nat} {v:Value} {xs:List Value} (h:w.ownsRow base e s v n xs) (k:Keep F w w') (hv : ∀ b,v.ownBlock=some b→b ∉ F):w'.ownsRow base e s v n xs:=by
 refine ⟨h.1, ?_⟩
 rcases h.2 with ⟨h1, h2⟩ | ⟨g, cap, cur, hv', hb, hg, rest⟩
 ·exact Or.inl ⟨h1,h2⟩
 ·exact Or.inr ⟨g, cap, cur, hv', hb, by rw [k.block g (heap_lt hg) (hv g (by rw [hv']; rfl))]; exact hg, rest⟩
theorem own_slice {w:World} {base:Nat} {e:TypeId} {s n:Nat} {v:Value} {xs:List Value} (h:w.ownsRow base e s v n xs) : ∃ a cap,v = .slice a n cap:=by
 rcases h.2 with ⟨e,h0⟩ | ⟨g,cp,cur,e,_⟩
 ·exact ⟨none,0,by rw [e,h0]⟩
 ·exact ⟨_,_,e⟩
theorem own_block {w:World} {base:Nat} {e:TypeId} {s n:Nat} {v:Value} {xs:List Value} (h:w.ownsRow base e s v n xs) (b:Nat) (hv:v.ownBlock=some b):base≤b∧b < w.heap.size:=by
 rcases h.2 with ⟨h1, _⟩ | ⟨g, cap, cur, hv', hb, hg, _⟩
 ·rw [h1] at hv; simp [Value.ownBlock] at hv
 ·rw [hv'] at hv
  simp [Value.ownBlock] at hv
  subst hv
  exact ⟨hb,heap_lt hg⟩
theorem below_alloc {w w':World} (h:Below w.heap.size w w') (o:Obj):Below w.heap.size w (w'.alloc o):=h.alloc h.size o
theorem below_drawn {w w':World} (h:Below w.heap.size w w') (n:Nat):Below w.heap.size w (w'.drewN n):=⟨h.os,h.tape,h.output,h.size,h.block⟩
theorem below_a1 (w:World) (o1:Obj):Below w.heap.size w (w.alloc o1):=below_alloc (Below.refl _ _) _
theorem below_then {w w1 w2:World} (h:Below w.heap.size w w1) (k:Below w1.heap.size w1 w2):Below w.heap.size w w2:=h.trans (k.mono h.size)
theorem info_parts {t:TypeId} {z:Value} {s b:Nat} (h:(Tryz.prog.info? t).map (fun i=>(i.zero,i.size,i.bytes))=some (some z,s,b)) : ∃ i,Tryz.prog.info? t=some i∧i.zero=some z∧i.size=s∧i.bytes=b:=by
 cases hi:Tryz.prog.info? t with
 | none=>rw [hi] at h; cases h
 | some i=>rw [hi] at h; simp at h; exact ⟨i,rfl,h.1,h.2.1,h.2.2⟩
def Next (F F' : List Nat) (w w' : World) : Prop := Keep F w w' ∧ ∀ b ∈ F', b ∈ F ∨ w.heap.size ≤ b
theorem own_cells {w:World} {base g cap n s:Nat} {e:TypeId} {xs:List Value} (h:w.ownsRow base e s (.slice (some ⟨g,0,none⟩) n cap) n xs) : ∀ (j:Nat) u,xs[j]? = some u→w.cell? ⟨g,j,none⟩=some u:=by
 intro j u hu
 rcases h.2 with ⟨e, _⟩ | ⟨g', cap', cur, e, _, hg, _, _, _, ht⟩
 ·cases e
 ·simp at e
  obtain ⟨rfl,rfl⟩:=e
  rw [cell_at hg]
  rw [← ht,List.getElem?_take] at hu
  split at hu
  ·simpa using hu
  ·cases hu
theorem below_row {w w':World} (h:Below w.heap.size w w') (b:Nat) (hb:w.heap.size≤b) (cs:Array Value):Below w.heap.size w (w'.setRow b cs) :=
 ⟨h.os,h.tape,h.output,by rw [setRow_size]; exact h.size,fun k hk=>by rw [setRow_other _ _ _ _ (by omega)]; exact h.block k hk⟩
end Go.Proofs.YtdkpgdkjohjcaaaGreat.Tl
namespace Go.Proofs.YtdkpgdkjohjcaaaGreat.Tl
set_option linter.unusedVariables false
structure Wr where
 c:Int
 v:Int
def noWr:Wr:=⟨0,0⟩
structure Tb where
 m:Nat
 k:Nat
 R:List Wr
 P:Nat→Nat
def fst (k:Nat) (c:Int):Nat:=(c * 11400714819323198485 % 18446744073709551616).toNat / 2 ^ (64 - k)
theorem fst_lt (k:Nat) (hk:k≤64) (c:Int):fst k c < 2 ^ k:=by
 unfold fst
 apply Nat.div_lt_of_lt_mul
 have h1:(2:Nat) ^ (64 - k) * 2 ^ k=18446744073709551616:=by
  rw [← Nat.pow_add,show 64 - k+k=64 by omega]
 rw [h1]
 omega
def pw (m:Nat):Nat:=if m≤1 then 1 else if m≤2 then 2 else if m≤4 then 3 else if m≤8 then 4 else if m≤16 then 5 else 6
theorem pw_bound (m:Nat):1≤pw m∧pw m≤6:=by
 unfold pw
 repeat' split
 all_goals omega
theorem pw_two (m:Nat) (h1:1≤m) (h:m≤24):2 * m≤2 ^ pw m:=by
 have : ∀ m,m < 25→2 * m≤2 ^ pw m:=by decide
 exact this m (by omega)
theorem pw_pos (k:Nat):0 < 2 ^ k:=Nat.two_pow_pos k
theorem pw_64 {k:Nat} (h:k≤6):2 ^ k≤64:=by
 have : ∀ k,k < 7→2 ^ k≤64:=by decide
 exact this k (by omega)
theorem count_upd (p:Nat→Bool) (n q:Nat) (hq:q < n) (h0:p q=false):(List.range n).countP (fun x=>if x=q then true else p x)=(List.range n).countP p+1:=by
 induction n with
 | zero=>omega
 | succ n ih =>
  rw [List.range_succ,List.countP_append,List.countP_append]
  by_cases e:q=n
  ·subst e
   have h1:(List.range q).countP (fun x=>if x=q then true else p x)=(List.range q).countP p:=by
    apply List.countP_congr
    intro x hx
    have:=List.mem_range.1 hx
    rw [if_neg (by omega)]
   rw [h1]
   simp [h0]
  ·rw [ih (by omega)]
   have:(if n=q then true else p n)=p n:=if_neg (fun e' => e e'.symm)
   simp only [List.countP_cons,List.countP_nil,this]
   omega
theorem count_all {p:Nat→Bool} {n:Nat} (h : ∀ q,q < n→p q=true):(List.range n).countP p=n:=by
 have:=List.countP_eq_length (p:=p) (l:=List.range n) |>.2 (fun a ha=>h a (List.mem_range.1 ha))
 simpa using this
theorem least {Q:Nat→Prop} (n:Nat) (h : ∃ d,d < n∧Q d) : ∃ d,d < n∧Q d ∧ ∀ e,e < d → ¬ Q e:=by
 obtain ⟨d,hd,hQ⟩:=h
 induction d using Nat.strongRecOn with
 | _ d ih =>
  by_cases h : ∃ e,e < d∧Q e
  ·obtain ⟨e,he,hq⟩:=h
   exact ih e he (by omega) hq
  ·exact ⟨d,hd,hQ,fun e he hq=>h ⟨e,he,hq⟩⟩
theorem mod_step (q e N:Nat):((q+1) % N+e) % N=(q+(e+1)) % N:=by
 rw [Nat.add_mod,Nat.mod_mod,← Nat.add_mod]
 congr 1
 omega
def gap (P:Nat→Nat) (N:Nat):Nat→Nat→Nat
 | 0,q=>q
 | n+1,q=>if P q=0 then q else gap P N n ((q+1) % N)
theorem gap_eq (P:Nat→Nat) (N:Nat) (hN:0 < N) : ∀ (d n q:Nat),q < N→d≤n→P ((q+d) % N)=0→(∀ e,e < d→P ((q+e) % N)≠0)→gap P N n q=(q+d) % N:=by
 intro d
 induction d with
 | zero =>
  intro n q hq _ h0 _
  rw [Nat.add_zero,Nat.mod_eq_of_lt hq] at h0 ⊢
  cases n with
  | zero=>rfl
  | succ n=>unfold gap; rw [if_pos h0]
 | succ d ih =>
  intro n q hq hn h0 hb
  cases n with
  | zero=>omega
  | succ n =>
   have h1:=hb 0 (by omega)
   rw [Nat.add_zero,Nat.mod_eq_of_lt hq] at h1
   unfold gap
   rw [if_neg h1,ih n ((q+1) % N) (Nat.mod_lt _ hN) (by omega) (by rw [mod_step]; exact h0) (fun e he=>by rw [mod_step]; exact hb _ (by omega)),mod_step]
def at? (R:List Wr) (c:Int):Option Nat:=R.findIdx? (fun x=>x.c == c)
def right (c:Int):Bool:=decide (0≤c) && decide (c < 1024)
theorem at_some {R:List Wr} {c:Int} {i:Nat} (h:at? R c=some i) : ∃ h:i < R.length,R[i].c=c:=by
 obtain ⟨h1,h2,_⟩:=List.findIdx?_eq_some_iff_getElem.1 h
 exact ⟨h1,by simpa using h2⟩
theorem at_none {R:List Wr} {c:Int} (h:at? R c=none) (i:Nat) (hi:i < R.length):R[i].c≠c:=by
 have:=List.findIdx?_eq_none_iff.1 h R[i] (List.getElem_mem hi)
 simpa using this
theorem at_none_of {R:List Wr} {c:Int} (h : ∀ i,(hi:i < R.length)→R[i].c≠c):at? R c=none:=by
 apply List.findIdx?_eq_none_iff.2
 intro x hx
 obtain ⟨i,hi,rfl⟩:=List.getElem_of_mem hx
 simpa using h i hi
theorem at_some_of {R:List Wr} {c:Int} {i:Nat} (hi:i < R.length) (h:R[i].c=c) (hf : ∀ j,(hj:j < i)→R[j].c≠c):at? R c=some i:=by
 apply List.findIdx?_eq_some_iff_getElem.2
 exact ⟨hi,by simpa using h,fun j hj=>by simpa using hf j hj⟩
structure Inv (s:Tb):Prop where
 m1:1≤s.m
 m24:s.m≤24
 k:s.k=pw s.m
 len:s.R.length≤s.m
 right : ∀ i,(h:i < s.R.length)→0≤s.R[i].c∧s.R[i].c < 1024
 inj : ∀ i j,(h:i < s.R.length)→(h':j < s.R.length)→s.R[i].c=s.R[j].c→i=j
 lo : ∀ q,q < 2 ^ s.k→s.P q≤s.R.length
 cnt:(List.range (2 ^ s.k)).countP (fun q=>s.P q != 0)=s.R.length
 way : ∀ i,(h:i < s.R.length) → ∃ d,d < 2 ^ s.k∧s.P ((fst s.k s.R[i].c+d) % 2 ^ s.k)=i+1 ∧ ∀ e,e < d→s.P ((fst s.k s.R[i].c+e) % 2 ^ s.k)≠0
theorem Inv.k6 {s:Tb} (h:Inv s):1≤s.k∧s.k≤6:=by rw [h.k]; exact pw_bound _
theorem Inv.two {s:Tb} (h:Inv s):2 * s.m≤2 ^ s.k:=by rw [h.k]; exact pw_two _ h.m1 h.m24
theorem Inv.n64 {s:Tb} (h:Inv s):2 ^ s.k≤64:=pw_64 h.k6.2
theorem Inv.fst {s:Tb} (h:Inv s) (c:Int):fst s.k c < 2 ^ s.k:=fst_lt _ (by have:=h.k6; omega) c
theorem Inv.at_eq {s:Tb} (h:Inv s) {c:Int} {i:Nat} (hi:i < s.R.length) (hc:s.R[i].c=c):at? s.R c=some i :=
 at_some_of hi hc (fun j hj e=>by
    have:=h.inj j i (by omega) hi (e.trans hc.symm)
    omega)
theorem Inv.free {s:Tb} (h:Inv s) (f:Nat) (hf:f < 2 ^ s.k) : ∃ d,d < 2 ^ s.k∧s.P ((f+d) % 2 ^ s.k)=0 ∧ ∀ e,e < d → ¬ s.P ((f+e) % 2 ^ s.k)=0:=by
 have h2:=h.two
 have hl:=h.len
 have hm:=h.m1
 apply least (Q:=fun d=>s.P ((f+d) % 2 ^ s.k)=0)
 have ⟨q,hq,h0⟩ : ∃ q,q < 2 ^ s.k∧s.P q=0:=by
  apply Classical.byContradiction
  intro hn
  have:=count_all (p:=fun q=>s.P q != 0) (n:=2 ^ s.k) (fun q hq=>by simpa using fun e=>hn ⟨q,hq,e⟩)
  rw [h.cnt] at this
  omega
 generalize 2 ^ s.k=N at *
 refine ⟨(q+N - f) % N,Nat.mod_lt _ (by omega), ?_⟩
 rw [Nat.add_mod,Nat.mod_mod,← Nat.add_mod,show f+(q+N - f)=q+N by omega,Nat.add_mod_right,Nat.mod_eq_of_lt hq]
 exact h0
theorem Inv.none {s:Tb} (h:Inv s) {c:Int} {d:Nat} (h0:s.P ((Proofs.YtdkpgdkjohjcaaaGreat.Tl.fst s.k c+d) % 2 ^ s.k)=0) (hb : ∀ e,e < d→s.P ((Proofs.YtdkpgdkjohjcaaaGreat.Tl.fst s.k c+e) % 2 ^ s.k)≠0∧(s.R.getD (s.P ((Proofs.YtdkpgdkjohjcaaaGreat.Tl.fst s.k c+e) % 2 ^ s.k) - 1) noWr).c≠c):at? s.R c = .none:=by
 apply at_none_of
 intro i hi hc
 obtain ⟨e,he,h1,h2⟩:=h.way i hi
 rw [hc] at h1 h2
 rcases Nat.lt_trichotomy e d with hlt | rfl | hlt
 ·have:=(hb e hlt).2
  rw [h1] at this
  apply this
  simp [hi,hc]
 ·omega
 ·exact h2 d hlt h0
def put (s:Tb) (c v:Int):Tb :=
 if right c then
  match at? s.R c with
  | some i=>{ s with R:=s.R.set i ⟨c,v⟩ }
  | none=>if s.m≤s.R.length then s else { s with R:=s.R ++ [⟨c,v⟩],P:=fun q=>if q=gap s.P (2 ^ s.k) (2 ^ s.k) (fst s.k c) then s.R.length+1 else s.P q }
 else s
def putE (s:Tb) (c:Int):Int :=
 if right c then
  match at? s.R c with
  | some _=>0
  | none=>if s.m≤s.R.length then 2 else 0
 else 1
theorem put_wrong {s:Tb} {c:Int} (v:Int) (h:right c=false):put s c v=s∧putE s c=1:=by simp [put,putE,h]
theorem put_old {s:Tb} {c:Int} (v:Int) {i:Nat} (h:right c=true) (hi:at? s.R c=some i):put s c v = { s with R:=s.R.set i ⟨c,v⟩ }∧putE s c=0:=by simp [put,putE,h,hi]
theorem put_full {s:Tb} {c:Int} (v:Int) (h:right c=true) (hi:at? s.R c=none) (hm:s.m≤s.R.length):put s c v=s∧putE s c=2:=by simp [put,putE,h,hi,hm]
theorem put_new {s:Tb} {c:Int} (v:Int) (h:right c=true) (hi:at? s.R c=none) (hm:s.R.length < s.m):put s c v = { s with R:=s.R ++ [⟨c,v⟩],P:=fun q=>if q=gap s.P (2 ^ s.k) (2 ^ s.k) (fst s.k c) then s.R.length+1 else s.P q }∧putE s c=0:=by
 have : ¬ s.m≤s.R.length:=by omega
 simp [put,putE,h,hi,this]
def empty (m:Nat):Tb:=⟨m,pw m,[],fun _=>0⟩
theorem empty_inv {m:Nat} (h1:1≤m) (h:m≤24):Inv (empty m) :=
 ⟨h1,h,rfl,Nat.zero_le _,fun i h=>absurd h (by simp [empty]),fun i j h=>absurd h (by simp [empty]),fun q _=>Nat.le_refl _,by simp [empty],fun i h=>absurd h (by simp [empty])⟩
theorem set_c {R:List Wr} {i:Nat} {x:Wr} (hi:i < R.length) (hx:R[i].c=x.c) (j:Nat) (hj:j < (R.set i x).length):(R.set i x)[j].c=(R[j]'(by simpa using hj)).c:=by
 rw [List.getElem_set]
 split
 ·next e=>subst e; exact hx.symm
 ·rfl
theorem put_keeps (s:Tb) (c v:Int):(put s c v).m=s.m∧(put s c v).k=s.k:=by
 unfold put
 split
 ·split
  ·exact ⟨rfl,rfl⟩
  ·split <;> exact ⟨rfl,rfl⟩
 ·exact ⟨rfl,rfl⟩
theorem put_inv {s:Tb} (h:Inv s) (c v:Int):Inv (put s c v):=by
 cases hr:right c with
 | false=>rw [(put_wrong v hr).1]; exact h
 | true =>
  cases ha:at? s.R c with
  | some i =>
   rw [(put_old v hr ha).1]
   obtain ⟨hi,hc⟩:=at_some ha
   have hs:=fun j hj=>set_c (x:=⟨c,v⟩) hi hc j hj
   refine ⟨h.m1,h.m24,h.k,by simpa using h.len,fun j hj => ?_,fun j j' hj hj' e => ?_,fun q hq=>by simpa using h.lo q hq,by simpa using h.cnt,fun j hj => ?_⟩
   ·show 0≤(s.R.set i ⟨c,v⟩)[j].c∧_
    rw [hs j hj]; exact h.right j (by simpa using hj)
   ·have e':(s.R.set i ⟨c,v⟩)[j].c=(s.R.set i ⟨c,v⟩)[j'].c:=e
    rw [hs j hj,hs j' hj'] at e'
    exact h.inj j j' (by simpa using hj) (by simpa using hj') e'
   ·show ∃ d,d < 2 ^ s.k∧s.P ((fst s.k (s.R.set i ⟨c,v⟩)[j].c+d) % 2 ^ s.k)=j+1 ∧ ∀ e,e < d→s.P ((fst s.k (s.R.set i ⟨c,v⟩)[j].c+e) % 2 ^ s.k)≠0
    rw [hs j hj]
    exact h.way j (by simpa using hj)
  | none =>
   by_cases hm:s.m≤s.R.length
   ·rw [(put_full v hr ha hm).1]; exact h
   ·rw [(put_new v hr ha (by omega)).1]
    have hn:=at_none ha
    obtain ⟨d,hd,h0,hb⟩:=h.free _ (h.fst c)
    rw [gap_eq s.P _ (pw_pos _) d _ _ (h.fst c) (by omega) h0 hb]
    have hq0:(fst s.k c+d) % 2 ^ s.k < 2 ^ s.k:=Nat.mod_lt _ (pw_pos _)
    have hcr:0≤c∧c < 1024:=by simpa [right] using hr
    refine ⟨h.m1,h.m24,h.k,by simp; omega,fun j hj => ?_,fun j j' hj hj' e => ?_,fun q hq => ?_, ?_,fun j hj => ?_⟩
    ·simp only [List.length_append,List.length_cons,List.length_nil] at hj
     by_cases e:j < s.R.length
     ·simp only [List.getElem_append_left e]; exact h.right j e
     ·obtain rfl:j=s.R.length:=by omega
      simp only [List.getElem_append_right (Nat.le_refl _),Nat.sub_self,List.getElem_cons_zero]; exact hcr
    ·simp only [List.length_append,List.length_cons,List.length_nil] at hj hj'
     by_cases e1:j < s.R.length
     ·by_cases e2:j' < s.R.length
      ·simp only [List.getElem_append_left e1,List.getElem_append_left e2] at e; exact h.inj j j' e1 e2 e
      ·obtain rfl:j'=s.R.length:=by omega
       simp only [List.getElem_append_left e1,List.getElem_append_right (Nat.le_refl _),Nat.sub_self,List.getElem_cons_zero] at e
       exact absurd e (hn j e1)
     ·obtain rfl:j=s.R.length:=by omega
      by_cases e2:j' < s.R.length
      ·simp only [List.getElem_append_left e2,List.getElem_append_right (Nat.le_refl _),Nat.sub_self,List.getElem_cons_zero] at e
       exact absurd e.symm (hn j' e2)
      ·omega
    ·have:=h.lo q hq
     show (if q=_ then s.R.length+1 else s.P q)≤_
     simp only [List.length_append,List.length_cons,List.length_nil]
     split <;> omega
    ·show (List.range (2 ^ s.k)).countP (fun q=>(if q=_ then s.R.length+1 else s.P q) != 0)=_
     have:=count_upd (fun q=>s.P q != 0) (2 ^ s.k) _ hq0 (by simpa using h0)
     rw [h.cnt] at this
     rw [List.length_append,List.length_cons,List.length_nil]
     refine Eq.trans ?_ this
     congr 1
     funext x
     by_cases e:x=(fst s.k c+d) % 2 ^ s.k
     ·rw [if_pos e,if_pos e]; simp
     ·rw [if_neg e,if_neg e]
    ·simp only [List.length_append,List.length_cons,List.length_nil] at hj
     by_cases e:j < s.R.length
     ·simp only [List.getElem_append_left e]
      obtain ⟨d1,hd1,h1,hb1⟩:=h.way j e
      refine ⟨d1,hd1, ?_,fun e' he' => ?_⟩
      ·rw [if_neg (fun e2=>by rw [e2] at h1; omega)]; exact h1
      ·have:=hb1 e' he'
       split <;> omega
     ·obtain rfl:j=s.R.length:=by omega
      simp only [List.getElem_append_right (Nat.le_refl _),Nat.sub_self,List.getElem_cons_zero]
      refine ⟨d,hd,by rw [if_pos rfl],fun e' he' => ?_⟩
      have:=hb e' he'
      split <;> omega
def tf (s:Tb) (i:Nat):Int :=
 if i=0 then s.m else if i=1 then s.k else if i=2 then s.R.length
 else if i < 51 then (if (i - 3) % 2=0 then (s.R.getD ((i - 3) / 2) noWr).c else (s.R.getD ((i - 3) / 2) noWr).v)
 else s.P (i - 51)
def cellsOf (f:Nat→Int):Array Value:=((List.range 115).map fun i=>Value.int .i64 (f i)).toArray
theorem cellsOf_get (f:Nat→Int) (i:Nat) (h:i < 115):(cellsOf f)[i]? = some (.int .i64 (f i)):=by simp [cellsOf,h]
theorem cellsOf_set (f:Nat→Int) (i:Nat) (h:i < 115) (z:Int):(cellsOf f).setIfInBounds i (.int .i64 z)=cellsOf (fun j=>if j=i then z else f j) :=
 map_set_range h (by simp) (fun q hq=>by simp [hq])
theorem cellsOf_congr {f g:Nat→Int} (h : ∀ i,i < 115→f i=g i):cellsOf f=cellsOf g :=
 map_same_range (fun q hq=>by rw [h q hq])
theorem tf_c (s:Tb) (i:Nat) (h:i < 24):tf s (3+i * 2)=(s.R.getD i noWr).c:=by
 unfold tf
 rw [if_neg (by omega),if_neg (by omega),if_neg (by omega),if_pos (by omega),if_pos (by omega),show (3+i * 2 - 3) / 2=i by omega]
theorem tf_v (s:Tb) (i:Nat) (h:i < 24):tf s (3+i * 2+1)=(s.R.getD i noWr).v:=by
 unfold tf
 rw [if_neg (by omega),if_neg (by omega),if_neg (by omega),if_pos (by omega),if_neg (by omega),show (3+i * 2+1 - 3) / 2=i by omega]
theorem tf_p (s:Tb) (q:Nat):tf s (51+q)=s.P q:=by
 unfold tf
 rw [if_neg (by omega),if_neg (by omega),if_neg (by omega),if_neg (by omega),show 51+q - 51=q by omega]
def tabC (s:Tb):Array Value:=cellsOf (tf s)
theorem tabC_old {s:Tb} {i:Nat} {c v:Int} (hi:i < s.R.length) (h24:s.R.length≤24) (hc:s.R[i].c=c) :
  (tabC s).setIfInBounds (3+i * 2+1) (.int .i64 v)=tabC { s with R:=s.R.set i ⟨c,v⟩ }:=by
 unfold tabC
 rw [cellsOf_set _ _ (by omega)]
 apply cellsOf_congr
 intro j hj
 unfold tf
 simp only [List.length_set]
 by_cases e:j=3+i * 2+1
 ·subst e
  rw [if_pos rfl,if_neg (by omega),if_neg (by omega),if_neg (by omega),if_pos (by omega),if_neg (by omega),show (3+i * 2+1 - 3) / 2=i by omega]
  simp [hi]
 ·rw [if_neg e]
  by_cases e2:(j - 3) / 2=i∧3≤j
  ·have hj2:j=3+i * 2:=by omega
   subst hj2
   rw [if_neg (by omega),if_neg (by omega),if_neg (by omega),if_pos (by omega),if_pos (by omega),if_neg (by omega),if_neg (by omega),if_neg (by omega),if_pos (by omega),if_pos (by omega),show (3+i * 2 - 3) / 2=i by omega]
   simp [hi,hc]
  ·have : ∀ (j:Nat),j < 115 → ¬ ((j - 3) / 2=i∧3≤j)→3≤j→(s.R.set i ⟨c,v⟩).getD ((j - 3) / 2) noWr=s.R.getD ((j - 3) / 2) noWr:=fun j _ h1 h2=>by
    simp only [List.getD_eq_getElem?_getD]
    rw [List.getElem?_set_ne (by omega)]
   by_cases h3:3≤j
   ·rw [this j hj e2 h3]
   ·have hj:j=0∨j=1∨j=2:=by omega
    rcases hj with rfl | rfl | rfl <;> rfl
theorem tabC_new {s:Tb} {c v:Int} {q:Nat} (h24:s.R.length < 24) (hq:q < 64) :
  ((((tabC s).setIfInBounds (3+s.R.length * 2) (.int .i64 c)).setIfInBounds (3+s.R.length * 2+1) (.int .i64 v)).setIfInBounds 2 (.int .i64 ((s.R.length:Int)+1))).setIfInBounds (51+q) (.int .i64 ((s.R.length:Int)+1))=tabC { s with R:=s.R ++ [⟨c,v⟩],P:=fun x=>if x=q then s.R.length+1 else s.P x }:=by
 unfold tabC
 rw [cellsOf_set _ _ (by omega),cellsOf_set _ _ (by omega),cellsOf_set _ _ (by omega),cellsOf_set _ _ (by omega)]
 apply cellsOf_congr
 intro j hj
 unfold tf
 simp only [List.length_append,List.length_cons,List.length_nil]
 by_cases h51:51≤j
 ·obtain ⟨x,rfl⟩ : ∃ x,j=51+x:=⟨j - 51,by omega⟩
  have e0 : ¬ (51+x < 51):=by omega
  have e1 : ¬ (51+x=2):=by omega
  have e2 : ¬ (51+x=3+s.R.length * 2+1):=by omega
  have e3 : ¬ (51+x=3+s.R.length * 2):=by omega
  have e4 : ¬ (51+x=0):=by omega
  have e5 : ¬ (51+x=1):=by omega
  have e6:51+x - 51=x:=by omega
  simp only [e0,e1,e2,e3,e4,e5,e6,if_false]
  by_cases e:x=q
  ·subst e; simp
  ·have : ¬ (51+x=51+q):=by omega
   simp [e]
 ·have e0 : ¬ (j=51+q):=by omega
  have e7:j < 51:=by omega
  by_cases h3:3≤j
  ·obtain ⟨y,rfl⟩ : ∃ y,j=3+y:=⟨j - 3,by omega⟩
   have e1 : ¬ (3+y=2):=by omega
   have e4 : ¬ (3+y=0):=by omega
   have e5 : ¬ (3+y=1):=by omega
   have e6:3+y - 3=y:=by omega
   simp only [e0,e1,e4,e5,e6,e7,if_false,if_true,List.getD_eq_getElem?_getD]
   by_cases hy:y / 2=s.R.length
   ·by_cases hy2:y % 2=0
    ·have e8 : ¬ (3+y=3+s.R.length * 2+1):=by omega
     have e9:3+y=3+s.R.length * 2:=by omega
     rw [if_neg e8,if_pos e9,if_pos hy2,hy]
     simp
    ·have e8:3+y=3+s.R.length * 2+1:=by omega
     rw [if_pos e8,if_neg hy2,hy]
     simp
   ·have e8 : ¬ (3+y=3+s.R.length * 2+1):=by omega
    have e9 : ¬ (3+y=3+s.R.length * 2):=by omega
    simp only [e8,e9,if_false]
    have:(s.R ++ [⟨c,v⟩])[y / 2]?.getD noWr=s.R[y / 2]?.getD noWr:=by
     by_cases hlt:y / 2 < s.R.length
     ·rw [List.getElem?_append_left hlt]
     ·rw [List.getElem?_eq_none (by simp; omega),List.getElem?_eq_none (by omega)]
    rw [this]
  ·have hj:j=0∨j=1∨j=2:=by omega
   rcases hj with rfl | rfl | rfl
   ·simp; rw [if_neg (by omega),if_neg (by omega)]
   ·simp; rw [if_neg (by omega),if_neg (by omega)]
   ·simp
end Go.Proofs.YtdkpgdkjohjcaaaGreat.Tl
namespace Go.Proofs.YtdkpgdkjohjcaaaGreat.Tl
open Go.ChangeShapes Go.WideShapes Go.ChangeAt Go.RowKit
def TabAt (w:World) (B:Nat) (s:Tb):Prop:=w.heap[B]? = some (.cells (tabC s) 130 (0,0))
theorem TabAt.cell {w:World} {B:Nat} {s:Tb} (h:TabAt w B s) (i:Nat) (hi:i < 115):w.cell? ⟨B,i,none⟩=some (.int .i64 (tf s i)):=by
 rw [cell_at h]; exact cellsOf_get _ _ hi
theorem TabAt.keep {w w':World} {B:Nat} {s:Tb} {F:List Nat} (h:TabAt w B s) (k:Keep F w w') (hB:B ∉ F):TabAt w' B s:=by
 unfold TabAt; rw [k.block _ (heap_lt h) hB]; exact h
theorem TabAt.below {w w':World} {B:Nat} {s:Tb} (h:TabAt w B s) (k:Below w.heap.size w w'):TabAt w' B s:=h.keep (Keep.of_below k []) (by simp)
theorem TabAt.k {w:World} {B:Nat} {s:Tb} (h:TabAt w B s):w.cell? ⟨B,1,none⟩=some (.int .i64 (s.k:Int)):=h.cell 1 (by decide)
theorem TabAt.m {w:World} {B:Nat} {s:Tb} (h:TabAt w B s):w.cell? ⟨B,0,none⟩=some (.int .i64 (s.m:Int)):=h.cell 0 (by decide)
theorem TabAt.n {w:World} {B:Nat} {s:Tb} (h:TabAt w B s):w.cell? ⟨B,2,none⟩=some (.int .i64 (s.R.length:Int)):=h.cell 2 (by decide)
theorem TabAt.c {w:World} {B:Nat} {s:Tb} (h:TabAt w B s) (i:Nat) (hi:i < 24):w.cell? ⟨B,3+i * 2,none⟩=some (.int .i64 (s.R.getD i noWr).c):=by rw [← tf_c s i hi]; exact h.cell _ (by omega)
theorem TabAt.v {w:World} {B:Nat} {s:Tb} (h:TabAt w B s) (i:Nat) (hi:i < 24):w.cell? ⟨B,3+i * 2+1,none⟩=some (.int .i64 (s.R.getD i noWr).v):=by rw [← tf_v s i hi]; exact h.cell _ (by omega)
theorem TabAt.p {w:World} {B:Nat} {s:Tb} (h:TabAt w B s) (q:Nat) (hq:q < 64):w.cell? ⟨B,51+q,none⟩=some (.int .i64 (s.P q:Int)):=by rw [← tf_p s q]; exact h.cell _ (by omega)
theorem pow_eq {k:Nat} (hk:k≤6):wrap64 (2 ^ k)=((2 ^ k:Nat):Int):=by
 have h1:=pw_64 hk
 have h2:(2:Int) ^ k=((2 ^ k:Nat):Int):=by simp
 rw [h2]
 generalize 2 ^ k=n at *
 unfold wrap64
 omega
theorem first_eq {k:Nat} (hk:k≤6) (c:Int):wrap64 (IntKind.u64.wrap (IntKind.u64.wrap c * 11400714819323198485) / 2 ^ (64 - k))=(fst k c:Int):=by
 have h1:IntKind.u64.wrap (IntKind.u64.wrap c * 11400714819323198485)=c * 11400714819323198485 % 18446744073709551616:=by
  rw [IntKind.wrap_u64,IntKind.wrap_u64,Int.mul_emod,Int.emod_emod_of_dvd _ (Int.dvd_refl _),← Int.mul_emod]
 have h2:(((c * 11400714819323198485 % 18446744073709551616).toNat:Nat):Int)=c * 11400714819323198485 % 18446744073709551616:=Int.toNat_of_nonneg (Int.emod_nonneg _ (by decide))
 have h3:c * 11400714819323198485 % 18446744073709551616 / 2 ^ (64 - k)=(fst k c:Int):=by
  unfold fst
  generalize c * 11400714819323198485 % 18446744073709551616=x at *
  rw [Int.natCast_ediv,h2]
  congr 1
 rw [h1,h3]
 have h4:=fst_lt k (by omega) c
 have h5:=pw_64 hk
 generalize fst k c=f at *
 generalize 2 ^ k=n at *
 unfold wrap64
 omega
theorem len_any {w:World} {B:Nat} {s:Tb} (h:TabAt w B s):Calls Tryz.prog 51 #[.pointer (some ⟨B,0,none⟩)] w fun e w' => e = .returned (.int .i64 (s.R.length:Int))∧w'=w:=by
 have h2:=h.n
 clear h
 go_enter Tryz.func51,Tryz.ntmps51
 go_wp2
 go_ret
 exact ⟨rfl,rfl⟩
theorem size_any {w:World} {B:Nat} {s:Tb} (h:TabAt w B s) (hk:s.k≤6):Calls Tryz.prog 84 #[.pointer (some ⟨B,0,none⟩)] w fun e w' => e = .returned (.int .i64 ((2 ^ s.k:Nat):Int))∧w'=w:=by
 have h1:=h.k
 have HP:=pow_eq hk
 clear h
 generalize s.k=k at *
 generalize ((2 ^ k:Nat):Int)=z at *
 go_enter Tryz.func84,Tryz.ntmps84
 go_wp2
 go_ret
 refine ⟨?_,rfl⟩
 show Ending.returned (Value.int .i64 (wrap64 (2 ^ k)))=_
 rw [HP]
theorem first_any {w:World} {B:Nat} {s:Tb} (h:TabAt w B s) (hk:s.k≤6) (c:Int):Calls Tryz.prog 83 #[.pointer (some ⟨B,0,none⟩),.int .i64 c] w fun e w' => e = .returned (.int .i64 (fst s.k c:Int))∧w'=w:=by
 have h1:=h.k
 have HP:=first_eq hk c
 clear h
 generalize s.k=k at *
 generalize ((fst k c:Nat):Int)=z at *
 have HP':Hid (wrap64 (IntKind.u64.wrap (IntKind.u64.wrap c * 11400714819323198485) / 2 ^ (64 - k))=z):=HP
 clear HP
 go_enter Tryz.func83,Tryz.ntmps83
 go_wp2
 go_ret
 refine ⟨?_,rfl⟩
 show Ending.returned (Value.int .i64 (wrap64 (IntKind.u64.wrap (IntKind.u64.wrap c * 11400714819323198485) / 2 ^ (64 - k))))=_
 rw [HP'.out]
structure Left (s:Tb) (c:Int) (d:Nat) (y:Bool):Prop where
 lt:d < 2 ^ s.k
 before : ∀ e,e < d→s.P ((fst s.k c+e) % 2 ^ s.k)≠0∧(s.R.getD (s.P ((fst s.k c+e) % 2 ^ s.k) - 1) noWr).c≠c
 here:(y=false∧s.P ((fst s.k c+d) % 2 ^ s.k)=0)∨(y=true∧s.P ((fst s.k c+d) % 2 ^ s.k)≠0∧(s.R.getD (s.P ((fst s.k c+d) % 2 ^ s.k) - 1) noWr).c=c)
theorem mod_step' (q i N:Nat):((q+i) % N+1) % N=(q+(i+1)) % N:=by
 rw [Nat.mod_add_mod,Nat.add_assoc]
theorem find_any {w:World} {B:Nat} {s:Tb} (h:TabAt w B s) (hi:Inv s) (c:Int):Calls Tryz.prog 74 #[.pointer (some ⟨B,0,none⟩),.int .i64 c] w fun e w' => ∃ d y,e = .returned (.tuple #[.int .i64 (((fst s.k c+d) % 2 ^ s.k:Nat):Int),.bool y])∧Left s c d y∧w'=w:=by
 have HS:Hid (Calls Tryz.prog 84 #[.pointer (some ⟨B,0,none⟩)] w fun e w' => e = .returned (.int .i64 ((2 ^ s.k:Nat):Int))∧w'=w):=size_any h hi.k6.2
 have HF:Hid (Calls Tryz.prog 83 #[.pointer (some ⟨B,0,none⟩),.int .i64 c] w fun e w' => e = .returned (.int .i64 (fst s.k c:Int))∧w'=w):=first_any h hi.k6.2 c
 have HI:Hid (Inv s):=hi
 have HT:Hid (TabAt w B s):=h
 have hf:=hi.fst c
 have h64:=hi.n64
 have hp:=pw_pos s.k
 clear h hi
 generalize hN:2 ^ s.k=N at *
 generalize hff:fst s.k c=f at *
 go_enter Tryz.func74,Tryz.ntmps74
 go_wp2
 go_step3
 go_wp2_with fail
 refine HF.out.mono ?_
 rintro e w1 ⟨rfl,rfl⟩
 go_wp2
 go_step3
 go_wp2_with fail
 refine HS.out.mono ?_
 rintro e w' ⟨rfl,rfl⟩
 go_wp2
 go_loopw [6,7,14] (fun sv yv iv wr => ∃ i:Nat,i≤N∧yv = .bool false∧iv = .int .i64 i∧sv = .int .i64 (((f+i) % N:Nat):Int)∧(∀ e,e < i→s.P ((f+e) % N)≠0∧(s.R.getD (s.P ((f+e) % N) - 1) noWr).c≠c)∧wr=w') (fun _ _ iv _=>N - (intOf iv).toNat)
 case atStart=>exact ⟨0,Nat.zero_le _,rfl,rfl,by rw [Nat.add_zero,Nat.mod_eq_of_lt hf],fun e he=>absurd he (by omega),rfl⟩
 case round =>
  obtain ⟨i,hi,rfl,rfl,rfl,hbef,rfl⟩:=hrel
  have HBEF:Hid (∀ e,e < i→s.P ((f+e) % N)≠0∧(s.R.getD (s.P ((f+e) % N) - 1) noWr).c≠c):=hbef
  clear hbef
  by_cases hlt:i < N
  ·have hd:decide ((i:Int) < (N:Int))=true:=by simp; omega
   have HQ:Hid (∃ q,(f+i) % N=q∧q < N):=⟨_,rfl,Nat.mod_lt _ hp⟩
   obtain ⟨q,hq,hqN⟩:=HQ.out
   have HQ':Hid ((f+i) % N=q):=hq
   rw [hq]
   clear hq HQ
   have hcp:=HT.out.p q (by omega)
   have hlo:=HI.out.lo q (by rw [hN]; exact hqN)
   have hl:=HI.out.len
   have hm:=HI.out.m24
   by_cases h0:s.P q=0
   ·have HE:Hid (Left s c i false):=⟨by rw [hN]; exact hlt,by rw [hN,hff]; exact HBEF.out,Or.inl ⟨rfl,by rw [hN,hff,HQ'.out]; exact h0⟩⟩
    rw [h0] at hcp
    clear hlo hl hm
    go_wp2
    rw [Exit.noGoto_ret]
    go_ret2
    exact ⟨i,false,by rw [HQ'.out]; rfl,HE.out,rfl⟩
   ·obtain ⟨j,hj⟩ : ∃ j,s.P q=j+1:=⟨s.P q - 1,by omega⟩
    have hcc:=HT.out.c j (by omega)
    by_cases hz:(s.R.getD j noWr).c=c
    ·have HE:Hid (Left s c i true):=⟨by rw [hN]; exact hlt,by rw [hN,hff]; exact HBEF.out,Or.inr ⟨rfl,by rw [hN,hff,HQ'.out]; exact ⟨h0,by rw [hj]; exact hz⟩⟩⟩
     rw [hz] at hcc
     rw [hj] at hcp
     have e0:(((j+1:Nat):Int) == 0)=false:=by simp; omega
     go_wp2
     rw [Exit.noGoto_ret]
     go_ret2
     exact ⟨i,true,by rw [HQ'.out]; rfl,HE.out,rfl⟩
    ·have HE:Hid (∀ e,e < i+1→s.P ((f+e) % N)≠0∧(s.R.getD (s.P ((f+e) % N) - 1) noWr).c≠c):=fun e he=>by
      by_cases e1:e < i
      ·exact HBEF.out e e1
      ·obtain rfl:e=i:=by omega
       rw [HQ'.out]
       exact ⟨h0,by rw [hj]; exact hz⟩
     rw [hj] at hcp
     have e0:(((j+1:Nat):Int) == 0)=false:=by simp; omega
     have e1:((s.R.getD j noWr).c == c)=false:=by simpa using hz
     generalize (s.R.getD j noWr).c=z at *
     go_wp2_with fail
     refine HS.out.mono ?_
     rintro e w' ⟨rfl,rfl⟩
     go_wp2
     go_roundw
     case rel => exact ⟨i + 1, by omega, rfl, by go_num, by rw [← mod_step', HQ'.out]; go_num, HE.out, by first | rfl | trivial⟩
     case measure=>simp [intOf]; omega
  ·exfalso
   obtain ⟨d,hd,h0,_⟩:=HI.out.free f (by rw [hN]; exact hf)
   rw [hN] at hd h0
   exact (HBEF.out d (by omega)).1 h0
theorem Left.found {s:Tb} {c:Int} {d:Nat} (hi:Inv s) (h:Left s c d true) : ∃ i,at? s.R c=some i∧i < s.R.length∧s.P ((fst s.k c+d) % 2 ^ s.k)=i+1:=by
 rcases h.here with ⟨h1,_⟩ | ⟨_,h1,h2⟩
 ·cases h1
 ·have hlo:=hi.lo _ (Nat.mod_lt (fst s.k c+d) (pw_pos s.k))
  generalize s.P ((fst s.k c+d) % 2 ^ s.k)=z at *
  refine ⟨z - 1,hi.at_eq (by omega) ?_,by omega,by omega⟩
  have h3:z - 1 < s.R.length:=by omega
  simpa [h3] using h2
theorem Left.lost {s:Tb} {c:Int} {d:Nat} (hi:Inv s) (h:Left s c d false):at? s.R c=none∧gap s.P (2 ^ s.k) (2 ^ s.k) (fst s.k c)=(fst s.k c+d) % 2 ^ s.k:=by
 rcases h.here with ⟨_,h1⟩ | ⟨h1,_⟩
 ·exact ⟨hi.none h1 h.before,gap_eq _ _ (pw_pos _) _ _ _ (hi.fst c) (Nat.le_of_lt h.lt) h1 (fun e he=>(h.before e he).1)⟩
 ·cases h1
def getV (s:Tb) (c:Int):Int:=match at? s.R c with | some i=>(s.R.getD i noWr).v | none=>0
def getY (s:Tb) (c:Int):Bool:=(at? s.R c).isSome
theorem get_any {w:World} {B:Nat} {s:Tb} (h:TabAt w B s) (hi:Inv s) (c:Int):Calls Tryz.prog 64 #[.pointer (some ⟨B,0,none⟩),.int .i64 c] w fun e w' => e = .returned (.tuple #[.int .i64 (getV s c),.bool (getY s c)]) ∧ ∃ n,w'=w.drewN n:=by
 have HF:Hid (Calls Tryz.prog 74 #[.pointer (some ⟨B,0,none⟩),.int .i64 c] w fun e w' => ∃ d y,e = .returned (.tuple #[.int .i64 (((fst s.k c+d) % 2 ^ s.k:Nat):Int),.bool y])∧Left s c d y∧w'=w):=find_any h hi c
 have HI:Hid (Inv s):=hi
 have HT:Hid (TabAt w B s):=h
 have h64:=hi.n64
 have hl:=hi.len
 have hm:=hi.m24
 clear h hi
 go_enter Tryz.func64,Tryz.ntmps64
 go_wp2_with fail
 refine HF.out.mono ?_
 rintro e w1 ⟨d,y,rfl,hL,rfl⟩
 cases y with
 | false =>
  obtain ⟨h1,_⟩:=hL.lost HI.out
  have E1:Hid (getV s c=0):=by rw [Hid]; simp [getV,h1]
  have E2:Hid (getY s c=false):=by rw [Hid]; simp [getY,h1]
  go_wp2
  go_ret2
  exact ⟨by rw [E1.out,E2.out]; rfl,0,rfl⟩
 | true =>
  obtain ⟨i,h1,h2,h3⟩:=hL.found HI.out
  have hq:(fst s.k c+d) % 2 ^ s.k < 64:=Nat.lt_of_lt_of_le (Nat.mod_lt _ (pw_pos _)) h64
  have E1:Hid (getV s c=(s.R.getD i noWr).v):=by rw [Hid]; simp [getV,h1]
  have E2:Hid (getY s c=true):=by rw [Hid]; simp [getY,h1]
  have c1:=HT.out.p _ hq
  have c2:=HT.out.v i (by omega)
  rw [h3] at c1
  generalize (fst s.k c+d) % 2 ^ s.k=q at *
  generalize (s.R.getD i noWr).v=z at *
  clear hL
  go_wp2
  go_quiet (fail)
  go_wp2
  go_ret2
  exact ⟨by rw [E1.out,E2.out]; rfl,_,rfl⟩
theorem put_any {w:World} {B:Nat} {s:Tb} (h:TabAt w B s) (hi:Inv s) (c v:Int):Calls Tryz.prog 67 #[.pointer (some ⟨B,0,none⟩),.int .i64 c,.int .i64 v] w fun e w' => e = .returned (.int .i64 (putE s c))∧TabAt w' B (put s c v)∧Keep [B] w w':=by
 have HF:Hid (Calls Tryz.prog 74 #[.pointer (some ⟨B,0,none⟩),.int .i64 c] w fun e w' => ∃ d y,e = .returned (.tuple #[.int .i64 (((fst s.k c+d) % 2 ^ s.k:Nat):Int),.bool y])∧Left s c d y∧w'=w):=find_any h hi c
 have HI:Hid (Inv s):=hi
 have HT:Hid (TabAt w B s):=h
 have h64:=hi.n64
 have hl:=hi.len
 have hm:=hi.m24
 clear h hi
 by_cases hc0:c < 0
 ·have hr:right c=false:=by simp [right]; omega
  rw [(put_wrong v hr).1,(put_wrong v hr).2]
  go_enter Tryz.func67,Tryz.ntmps67
  go_wp2
  go_ret
  exact ⟨rfl,HT.out,Keep.refl _ _⟩
 by_cases hc1:1024≤c
 ·have hr:right c=false:=by simp [right]; omega
  rw [(put_wrong v hr).1,(put_wrong v hr).2]
  have hd0:decide (c < 0)=false:=by simp; omega
  go_enter Tryz.func67,Tryz.ntmps67
  go_wp2
  go_ret
  exact ⟨rfl,HT.out,Keep.refl _ _⟩
 have hr:right c=true:=by simp [right]; omega
 have hd0:decide (c < 0)=false:=by simp; omega
 have hd1:decide (1024≤c)=false:=by simp; omega
 go_enter Tryz.func67,Tryz.ntmps67
 go_wp2_with fail
 refine HF.out.mono ?_
 rintro e w1 ⟨d,y,rfl,hL,rfl⟩
 have hq:(fst s.k c+d) % 2 ^ s.k < 64:=Nat.lt_of_lt_of_le (Nat.mod_lt _ (pw_pos _)) h64
 cases y with
 | true =>
  obtain ⟨i,h1,h2,h3⟩:=hL.found HI.out
  have c1:=HT.out.p _ hq
  have c2:=HT.out.v i (by omega)
  have f2:=frozen_at HT.out (3+i * 2+1)
  rw [h3] at c1
  have HE:Hid (TabAt (w1.setCell ⟨B,3+i * 2+1,none⟩ (.int .i64 v)) B (put s c v)):=by
   obtain ⟨_,hc⟩:=at_some h1
   rw [Hid,(put_old v hr h1).1,TabAt,heap_set HT.out,tabC_old h2 (by omega) hc]
  have HP:Hid (putE s c=0):=(put_old v hr h1).2
  generalize (fst s.k c+d) % 2 ^ s.k=q at *
  generalize (s.R.getD i noWr).v=z at *
  clear hL h1
  go_wp2
  go_region
  all_goals
   go_wp2
   go_ret
   exact ⟨by rw [HP.out]; rfl,HE.out,((Keep.refl _ _).setCell _ _ (by simp)).drewN 1⟩
 | false =>
  obtain ⟨h1,h2⟩:=hL.lost HI.out
  have c1:=HT.out.n
  have c2:=HT.out.m
  by_cases hfull:s.m≤s.R.length
  ·have HP:Hid (putE s c=2):=(put_full v hr h1 hfull).2
   have HE:Hid (TabAt w1 B (put s c v)):=by rw [Hid,(put_full v hr h1 hfull).1]; exact HT.out
   have hd:decide ((s.m:Int)≤(s.R.length:Int))=true:=by simp; omega
   clear hL
   go_wp2
   go_quiet (fail)
   go_wp2
   go_ret
   exact ⟨by rw [HP.out]; rfl,HE.out,(Keep.refl _ _).drewN _⟩
  ·have HP:Hid (putE s c=0):=(put_new v hr h1 (by omega)).2
   have hd:decide ((s.m:Int)≤(s.R.length:Int))=false:=by simp; omega
   have hn24:s.R.length < 24:=by omega
   have HE:Hid (∀ w2:World,w2.heap[B]? = some (.cells (((((tabC s).setIfInBounds (3+s.R.length * 2) (.int .i64 c)).setIfInBounds (3+s.R.length * 2+1) (.int .i64 v)).setIfInBounds 2 (.int .i64 ((s.R.length:Int)+1))).setIfInBounds (51+(fst s.k c+d) % 2 ^ s.k) (.int .i64 ((s.R.length:Int)+1))) 130 (0,0))→TabAt w2 B (put s c v)):=fun w2 h=>by
    rw [(put_new v hr h1 (by omega)).1,h2,TabAt,h,tabC_new hn24 hq]
   have HB:Hid (w1.heap[B]? = some (.cells (tabC s) 130 (0,0))):=HT.out
   have c3:=HT.out.c _ hn24
   have c4:=HT.out.v _ hn24
   have c5:=HT.out.p _ hq
   have f1:=frozen_at HT.out 2
   have f3:=frozen_at HT.out (3+s.R.length * 2)
   have f4:=frozen_at HT.out (3+s.R.length * 2+1)
   have f5:=frozen_at HT.out (51+(fst s.k c+d) % 2 ^ s.k)
   generalize (fst s.k c+d) % 2 ^ s.k=q at *
   generalize (s.R.getD s.R.length noWr).v=z1 at *
   generalize (s.R.getD s.R.length noWr).c=z2 at *
   generalize s.R.length=n at *
   clear hL h1 h2
   go_wp2
   go_quiet (fail)
   go_wp2
   go_region
   all_goals
    go_wp2
    go_region
    all_goals
     go_wp2
     go_ret
     exact ⟨by rw [HP.out]; rfl,HE.out _ (heap_set (heap_set (heap_set (heap_set HB.out _ _) _ _) _ _) _ _),((((((((Keep.refl [B] w1).drewN nq).setCell ⟨B,3+n * 2,none⟩ _ (by simp)).setCell ⟨B,3+n * 2+1,none⟩ _ (by simp)).drewN 1).setCell ⟨B,2,none⟩ _ (by simp)).setCell ⟨B,51+q,none⟩ _ (by simp)).drewN 1)⟩
theorem len64_any (m:Nat) (h1:1≤m) (h:m≤24) (w:World):Calls Tryz.prog 82 #[.int .u64 (2 * (m:Int) - 1)] w fun e w' => e = .returned (.int .i64 (pw m:Int))∧w'=w:=by
 have hm:m=1∨m=2∨m=3∨m=4∨m=5∨m=6∨m=7∨m=8∨m=9∨m=10∨m=11∨m=12∨m=13∨m=14∨m=15∨m=16∨m=17∨m=18∨m=19∨m=20∨m=21∨m=22∨m=23∨m=24:=by omega
 rcases hm with rfl | rfl | rfl | rfl | rfl | rfl | rfl | rfl | rfl | rfl | rfl | rfl | rfl | rfl | rfl | rfl | rfl | rfl | rfl | rfl | rfl | rfl | rfl | rfl
 all_goals
  go_enter Tryz.func82,Tryz.ntmps82
  go_wp2
  go_ret
  exact ⟨by kernel_rfl,rfl⟩
theorem power_any (m:Nat) (h1:1≤m) (h:m≤24) (w:World):Calls Tryz.prog 63 #[.int .i64 (m:Int)] w fun e w' => e = .returned (.int .i64 (pw m:Int))∧w'=w:=by
 have HL:Hid (Calls Tryz.prog 82 #[.int .u64 (2 * (m:Int) - 1)] w fun e w' => e = .returned (.int .i64 (pw m:Int))∧w'=w):=len64_any m h1 h w
 have HB:Hid (Calls Tryz.prog 73 #[.int .u64 (2 * (m:Int) - 1)] w fun e w' => e = .returned (.int .i64 (pw m:Int))∧w'=w):=by
  rw [Hid]
  go_enter Tryz.func73,Tryz.ntmps73
  go_wp2_with fail
  refine HL.out.mono ?_
  rintro e w' ⟨rfl,rfl⟩
  go_wp2
  go_ret
  exact ⟨rfl,rfl⟩
 go_enter Tryz.func63,Tryz.ntmps63
 go_wp2_with fail
 refine HB.out.mono ?_
 rintro e w' ⟨rfl,rfl⟩
 go_wp2
 go_ret
 exact ⟨rfl,rfl⟩
theorem tnew_no (w:World) (m:Int) (h : ¬ (1≤m∧m≤24)):Calls Tryz.prog 43 #[.int .i64 m] w fun e w' => e = .returned (.tuple #[.pointer none,.int .i64 1])∧w'=w:=by
 by_cases h1:m < 1
 ·go_enter Tryz.func43,Tryz.ntmps43
  go_wp2
  go_ret2
  exact ⟨rfl,rfl⟩
 ·have h2:24 < m:=by omega
  go_enter Tryz.func43,Tryz.ntmps43
  go_wp2
  go_ret2
  exact ⟨rfl,rfl⟩
def zC:Array Value:=cellsOf (fun _=>0)
theorem zC_empty (m:Nat):(zC.setIfInBounds 0 (.int .i64 (m:Int))).setIfInBounds 1 (.int .i64 (pw m:Int))=tabC (empty m):=by
 unfold zC tabC
 rw [cellsOf_set _ _ (by omega),cellsOf_set _ _ (by omega)]
 apply cellsOf_congr
 intro j hj
 unfold tf empty
 by_cases h1:j=1
 ·subst h1; rfl
 ·by_cases h0:j=0
  ·subst h0; rfl
  ·simp only [h0,h1,if_false,List.length_nil,List.getD_nil]
   simp [noWr]
theorem zC_size:zC.size=115:=by simp [zC,cellsOf]
theorem info_tab:(Tryz.prog.info? 130).map (fun i=>(i.zero,i.size,i.bytes))=some (some (.agg zC),115,920):=by kernel_rfl
theorem zero_tab (w:World):Sem.run Tryz.prog (zeroValue 130) w = .ok (.agg zC) w:=by
 obtain ⟨i0,hi,hz0,hz1,hz2⟩:=info_parts info_tab
 simp [zeroValue,typeInfo,hi,hz0]
theorem tnew_yes (w:World) (m:Nat) (h1:1≤m) (h:m≤24):Calls Tryz.prog 43 #[.int .i64 (m:Int)] w fun e w' => ∃ B,e = .returned (.tuple #[.pointer (some ⟨B,0,none⟩),.int .i64 0])∧w.heap.size≤B∧TabAt w' B (empty m)∧Below w.heap.size w w':=by
 have hz : ∀ w,Sem.run Tryz.prog (zeroValue 130) w = .ok (.agg zC) w:=zero_tab
 have hzs:=zC_size
 have hzn:(zC = #[])=False:=by simp [← Array.size_eq_zero_iff,zC_size]
 have HP:Hid (∀ w,Calls Tryz.prog 63 #[.int .i64 (m:Int)] w fun e w' => e = .returned (.int .i64 (pw m:Int))∧w'=w):=power_any m h1 h
 go_enter Tryz.func43,Tryz.ntmps43
 go_wp2_with fail
 refine (HP.out _).mono ?_
 rintro e w' ⟨rfl,rfl⟩
 go_wp2
 go_ret2
 refine ⟨_,rfl,Nat.le_refl _, ?_,below_a1 _ _⟩
 rw [zC_empty]
 exact heap_alloc_new _ _
theorem store_whole {P:Program} {w:World} {b:Nat} {t:TypeId} {old cs:Array Value} (h:w.heap[b]? = some (.cells old t (0,0))) (hc:cs.size=old.size) (h1:cs.all (·.oneCell')=true):(storeCells ⟨b,0,none⟩ cs.toList 0).run P w = .ok () (w.setRow b cs):=by
 have:=run_storeCells_from (P:=P) b t cs.toList 0 old w h (by simp [hc]) (fun v hv=>(Array.all_eq_true_iff_forall_mem.1 h1) v (by simpa using hv))
 simpa using this
theorem tabC_size (s:Tb):(tabC s).size=115:=by simp [tabC,cellsOf]
theorem tabC_one (s:Tb):(tabC s).all (·.oneCell')=true:=by
 rw [Array.all_eq_true_iff_forall_mem]
 intro v hv
 simp only [tabC,cellsOf,List.mem_toArray,List.mem_map] at hv
 obtain ⟨i,_,rfl⟩:=hv
 rfl
theorem Keep.setRow {F:List Nat} {w w':World} (h:Keep F w w') (b:Nat) (cs:Array Value) (hb:b ∈ F∨w.heap.size≤b):Keep F w (w'.setRow b cs) :=
 ⟨h.os,h.tape,h.output,by rw [setRow_size]; exact h.size,fun k hk hn=>by rw [setRow_other _ _ _ _ (fun e=>by rcases hb with h1 | h1; exact hn (e ▸ h1); omega)]; exact h.block k hk hn⟩
theorem clear_any {w:World} {B:Nat} {s:Tb} (h:TabAt w B s) (hi:Inv s):Calls Tryz.prog 77 #[.pointer (some ⟨B,0,none⟩)] w fun e w' => e = .returned (.tuple #[])∧TabAt w' B (empty s.m)∧Keep [B] w w':=by
 have HT:Hid (TabAt w B s):=h
 have h0:=h.m
 have h1:=h.k
 rw [hi.k] at h1
 have hz : ∀ w,Sem.run Tryz.prog (zeroValue 130) w = .ok (.agg zC) w:=zero_tab
 have hzs:=zC_size
 have hzn:(zC = #[])=False:=by simp [← Array.size_eq_zero_iff,zC_size]
 have hst:Sem.run Tryz.prog (storeCells ⟨B,0,none⟩ ((zC.toList.set 0 (.int .i64 (s.m:Int))).set 1 (.int .i64 (pw s.m:Int))) 0) w.drew = .ok () (w.drew.setRow B (tabC (empty s.m))):=by
  have e:((zC.toList.set 0 (.int .i64 (s.m:Int))).set 1 (.int .i64 (pw s.m:Int)))=(tabC (empty s.m)).toList:=by rw [← zC_empty]; simp
  rw [e]
  exact store_whole (w:=w.drew) (old:=tabC s) (t:=130) h (by rw [tabC_size,tabC_size]) (tabC_one _)
 generalize s.m=m at *
 clear h hi
 go_enter Tryz.func77,Tryz.ntmps77
 go_wp2
 go_region
 all_goals
  go_wp2
  go_end0
  exact ⟨rfl,setRow_heap w B _ _ _ _ HT.out,((Keep.refl _ _).setRow _ _ (by simp)).drewN 1⟩
def wrC (x:Wr):List Value:=[.int .i64 x.c,.int .i64 x.v]
def rowsC (R:List Wr):List Value:=R.flatMap wrC
theorem rowsC_len (R:List Wr):(rowsC R).length=R.length * 2:=by
 induction R with
 | nil=>rfl
 | cons x R ih=>simp only [rowsC,List.flatMap_cons,List.length_append,List.length_cons] at ih ⊢; rw [ih]; simp [wrC]; omega
theorem rowsC_get (R:List Wr) (i:Nat) (hi:i < R.length):(rowsC R)[i * 2]? = some (.int .i64 (R.getD i noWr).c)∧(rowsC R)[i * 2+1]? = some (.int .i64 (R.getD i noWr).v):=by
 induction R generalizing i with
 | nil=>simp at hi
 | cons x R ih =>
  have e:rowsC (x :: R)=wrC x++rowsC R:=rfl
  have h2:(wrC x).length=2:=rfl
  rw [e]
  cases i with
  | zero=>exact ⟨rfl,rfl⟩
  | succ i =>
   obtain ⟨h1,h3⟩:=ih i (by simpa using hi)
   rw [List.getElem?_append_right (by omega),List.getElem?_append_right (by omega),h2,show (i+1) * 2 - 2=i * 2 by omega,show (i+1) * 2+1 - 2=i * 2+1 by omega,h1,h3]
   simp
theorem rowsC_one (R:List Wr) : ∀ v ∈ rowsC R,v.oneCell'=true:=by
 intro v hv
 simp only [rowsC,List.mem_flatMap] at hv
 obtain ⟨x,_,hx⟩:=hv
 simp only [wrC,List.mem_cons,List.not_mem_nil,or_false] at hx
 rcases hx with rfl | rfl <;> rfl
theorem TabAt.row {w:World} {B:Nat} {s:Tb} (h:TabAt w B s) (h24:s.R.length≤24) (j:Nat) (v:Value) (hj:(rowsC s.R)[j]? = some v):w.cell? ⟨B,3+j,none⟩=some v:=by
 have hlt:j < s.R.length * 2:=by rw [← rowsC_len]; exact (List.getElem?_eq_some_iff.1 hj).1
 obtain ⟨i,hi⟩ : ∃ i,j=i * 2∨j=i * 2+1:=⟨j / 2,by omega⟩
 obtain ⟨h1,h2⟩:=rowsC_get s.R i (by omega)
 rcases hi with rfl | rfl
 ·rw [h1] at hj
  rw [h.c i (by omega)]
  exact hj
 ·rw [h2] at hj
  rw [← Nat.add_assoc,h.v i (by omega)]
  exact hj
theorem info_wr:(Tryz.prog.info? 60).map (fun i=>(i.zero,i.size,i.bytes))=some (some (.agg #[.int .i64 0,.int .i64 0]),2,16):=by kernel_rfl
def fresh2 (n:Nat):Array Value:=madeCells (Value.cells (.agg #[.int .i64 0,.int .i64 0])) (n * 2)
theorem make_wrs (w:World) (n:Nat) (hn:n≤1000000) :
  (Instr.makeSlice 47 (.int .i64 (n:Int)) (.int .i64 (n:Int))).run Tryz.prog w = .ok (.slice (some ⟨w.heap.size,0,none⟩) n n) (w.alloc (.cells (fresh2 n) 60)):=by
 obtain ⟨i0,hi,hz0,hz1,hz2⟩:=info_parts info_wr
 have:=run_make (P:=Tryz.prog) w 47 60 i0 _ Tryz.underlying47 hi hz0 .i64 .i64 (n:Int) (n:Int) (by omega) (by omega) (by rw [hz2]; omega) (by omega)
 rw [this]
 simp [fresh2,hz1]
theorem run_copy_wide {P:Program} (w:World) (dT sT ty elem:TypeId) (g dLen dCap:Nat) (a:Addr) (sLen sCap:Nat) (cur:Array Value) (t:TypeId) (cs:List Value) (k:Nat)
  (hu:P.underlying dT=some (.slice elem)) (hs:(P.info? elem).map (·.size)=some k)
  (hg:w.heap[g]? = some (.cells cur t (0,0))) (hn:cs.length=Nat.min sLen dLen * k)
  (hsrc : ∀ j v,cs[j]? = some v→w.cell? (a.add j)=some v) (hfit:cs.length=cur.size) (h1 : ∀ v ∈ cs,v.oneCell'=true) :
  (Builtin.copy_ #[dT,sT] ty #[.slice (some ⟨g,0,none⟩) dLen dCap,.slice (some a) sLen sCap]).run P w =
   .ok (goInt (Nat.min sLen dLen)) (w.setRow g cs.toArray):=by
 have hl:=run_loadCells_list (P:=P) w a cs hsrc
 have hst:=run_storeCells_at P g 0 t cs 0 cur w hg (by omega) h1
 have hd:(cur.toList.drop (0+0+cs.length)) = []:=by apply List.drop_eq_nil_of_le; simp; omega
 rw [hd] at hst
 cases hq:P.info? elem with
 | none=>simp [hq] at hs
 | some i =>
  have hi:i.size=k:=by simpa [hq] using hs
  simp only [List.append_nil,Nat.add_zero,List.take_zero,List.nil_append] at hst
  simp [Builtin.copy_,run_underlying hu,Builtin.lenOf,Builtin.firstCells,sizeOf,typeInfo,hq,hi,← hn,hl,hst]
theorem fresh2_size (n:Nat):(fresh2 n).size=n * 2:=by simp [fresh2,size_madeCells]
def slotV (s:Tb) (q:Nat):Int:=if s.P q=0 then -1 else (s.R.getD (s.P q - 1) noWr).c
theorem list_any {w:World} {B:Nat} {s:Tb} (h:TabAt w B s) (hi:Inv s):Calls Tryz.prog 38 #[.pointer (some ⟨B,0,none⟩)] w fun e w' => ∃ v,e = .returned v∧w'.ownsRow w.heap.size 60 2 v s.R.length (rowsC s.R)∧Below w.heap.size w w':=by
 have hl:=hi.len
 have hm:=hi.m24
 have hB:B < w.heap.size:=heap_lt h
 have h2:=h.n
 have hmk:=make_wrs w s.R.length (by omega)
 have hcp : ∀ ty,(Builtin.copy_ #[47,47] ty #[.slice (some ⟨w.heap.size,0,none⟩) s.R.length s.R.length,.slice (some ⟨B,3,none⟩) s.R.length 24]).run Tryz.prog (w.alloc (.cells (fresh2 s.R.length) 60)).drew = .ok (goInt s.R.length) ((w.alloc (.cells (fresh2 s.R.length) 60)).drew.setRow w.heap.size (rowsC s.R).toArray):=fun ty=>by
  have:=run_copy_wide (P:=Tryz.prog) (w.alloc (.cells (fresh2 s.R.length) 60)).drew 47 47 ty 60 w.heap.size s.R.length s.R.length ⟨B,3,none⟩ s.R.length 24 (fresh2 s.R.length) 60 (rowsC s.R) 2 Tryz.underlying47 (by kernel_rfl) (heap_alloc_new w _) (by rw [rowsC_len]; simp) (fun j v hj=>by
        have e:(⟨B,3,none⟩:Addr).add j=⟨B,3+j,none⟩:=by unfold Addr.add; split <;> simp_all
        rw [e]
        have:=(h.below (below_a1 w (.cells (fresh2 s.R.length) 60))).row (by omega) j v hj
        exact this) (by rw [rowsC_len,fresh2_size]) (rowsC_one _)
  rw [this]
  simp
 have hsl:(Instr.sliceAt 127 (.pointer (some ⟨B,3,none⟩)) none (some (.int .i64 (s.R.length:Int))) none).run Tryz.prog (w.alloc (.cells (fresh2 s.R.length) 60)).drew = .ok (.slice (some ⟨B,3,none⟩) s.R.length 24) (w.alloc (.cells (fresh2 s.R.length) 60)).drew:=by
  obtain ⟨i0,hi,hz0,hz1,hz2⟩:=info_parts info_wr
  have ha:Tryz.prog.arrayLen 127=24:=by kernel_rfl
  have he:Tryz.prog.elem 127=60:=by kernel_rfl
  rw [run_sliceAt_array_h _ _ _ (by rw [ha,he]; exact Tryz.underlying127) .i64 _ (by omega) (by rw [ha]; omega)]
  simp [ha,he,slicedAt,sizeOf,typeInfo,hi,Addr.add]
 have HE:Hid (World.ownsRow ((w.alloc (.cells (fresh2 s.R.length) 60)).drew.setRow w.heap.size (rowsC s.R).toArray) w.heap.size 60 2 (.slice (some ⟨w.heap.size,0,none⟩) s.R.length s.R.length) s.R.length (rowsC s.R)) :=
  ⟨rowsC_len _,Or.inr ⟨_,_,(rowsC s.R).toArray,rfl,Nat.le_refl _,setRow_heap _ _ _ _ _ _ (heap_alloc_new w _),Nat.le_refl _,by unfold maxLen; omega,by simp [rowsC_len],by rw [List.toList_toArray,← rowsC_len,List.take_length]⟩⟩
 clear h hi
 generalize rowsC s.R=cs at *
 generalize s.R.length=n at *
 go_enter Tryz.func38,Tryz.ntmps38
 go_wp2
 go_region
 all_goals
  go_wp2
  go_ret
  exact ⟨_,rfl,HE.out,below_row (below_drawn (below_a1 _ _) 1) _ (Nat.le_refl _) _⟩
end Go.Proofs.YtdkpgdkjohjcaaaGreat.Tl
