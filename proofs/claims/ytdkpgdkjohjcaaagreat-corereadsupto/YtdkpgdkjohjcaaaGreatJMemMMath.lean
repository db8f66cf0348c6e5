/- The document's words of layer 3, as plain data: addresses, accesses, what a log says of a word. -/
import Derived.WalkKit
import Derived.Laws.Bits64
import Derived.Laws.Bits64b
namespace Go.Proofs.YtdkpgdkjohjcaaaGreat
structure Ad where
 k:Int
 i:Int
 j:Int
 deriving DecidableEq
structure Ac where
 t:Int
 k:Int
 a:Ad
 o:Int
 v:Int
 y:Bool
 deriving DecidableEq
def hit (x:Ac) (a:Ad):Bool:=decide (x.a=a) && (x.k == 2 || x.k == 3 && x.y)
def first (a:Ad):Int:=if a.k=2 then 1 else 0
def wordOf (L:List Ac) (a:Ad):Int:=L.foldl (fun z x=>if hit x a then x.v else z) (first a)
theorem wordOf_nil (a:Ad):wordOf [] a=first a:=rfl
theorem wordOf_snoc (L:List Ac) (x:Ac) (a:Ad):wordOf (L ++ [x]) a=if hit x a then x.v else wordOf L a:=by
 unfold wordOf; rw [List.foldl_append]; rfl
def isAd (c r:Nat) (a:Ad):Bool :=
 (a.k == 1 && a.i == 0 && a.j == 0) || (a.k == 2 && decide (0≤a.i) && decide (a.i < (r:Int)) && a.j == 0) ||
 (a.k == 3 && decide (0≤a.i) && decide (a.i < (r:Int)) && decide (0≤a.j) && decide (a.j < 8)) || (a.k == 4 && decide (0≤a.i) && decide (a.i < (c:Int)) && a.j == 0)
theorem isAd_cases {c r:Nat} {a:Ad} (h:isAd c r a=true) :
  a=⟨1,0,0⟩∨(∃ i:Nat,i < r∧a=⟨2,i,0⟩)∨(∃ i j:Nat,i < r∧j < 8∧a=⟨3,i,j⟩)∨(∃ i:Nat,i < c∧a=⟨4,i,0⟩):=by
 obtain ⟨k,i,j⟩:=a
 simp only [isAd,Bool.or_eq_true,Bool.and_eq_true,beq_iff_eq,decide_eq_true_eq] at h
 rcases h with ((⟨⟨rfl,rfl⟩,rfl⟩ | ⟨⟨⟨rfl,h1⟩,h2⟩,rfl⟩) | ⟨⟨⟨⟨rfl,h1⟩,h2⟩,h3⟩,h4⟩) | ⟨⟨⟨rfl,h1⟩,h2⟩,rfl⟩
 ·exact Or.inl rfl
 ·exact Or.inr (Or.inl ⟨i.toNat,by omega,by congr 1; omega⟩)
 ·exact Or.inr (Or.inr (Or.inl ⟨i.toNat,j.toNat,by omega,by omega,by congr 1 <;> omega⟩))
 ·exact Or.inr (Or.inr (Or.inr ⟨i.toNat,by omega,by congr 1; omega⟩))
def upd (f:Ad→Int) (a:Ad) (z:Int):Ad→Int:=fun b=>if a=b then z else f b
theorem wordOf_hit {L:List Ac} {x:Ac} (h:x.k=2∨x.k=3∧x.y=true):wordOf (L ++ [x])=upd (wordOf L) x.a x.v:=by
 funext b
 rw [wordOf_snoc]
 unfold hit upd
 rcases h with h | ⟨h,h'⟩
 ·by_cases e:x.a=b <;> simp [e,h]
 ·by_cases e:x.a=b <;> simp [e,h,h']
theorem wordOf_miss {L:List Ac} {x:Ac} (h:(x.k == 2 || x.k == 3 && x.y)=false):wordOf (L ++ [x])=wordOf L:=by
 funext b
 rw [wordOf_snoc]
 unfold hit
 rw [h]
 simp
def i64 (z:Int):Value:=.int .i64 z
def headC (f:Ad→Int) (r:Nat):Array Value:=((List.range r).map fun (i:Nat)=>Value.int .i64 (f ⟨2,(i:Int),0⟩)).toArray
def sigC (f:Ad→Int) (r:Nat):Array Value:=((List.range (r * 8)).map fun (q:Nat)=>Value.int .i64 (f ⟨3,((q / 8:Nat):Int),((q % 8:Nat):Int)⟩)).toArray
def cellC (f:Ad→Int) (c:Nat):Array Value:=((List.range c).map fun (i:Nat)=>Value.int .i64 (f ⟨4,(i:Int),0⟩)).toArray
theorem headC_get (f:Ad→Int) (r i:Nat) (h:i < r):(headC f r)[i]? = some (.int .i64 (f ⟨2,(i:Int),0⟩)):=by simp [headC,h]
theorem sigC_get (f:Ad→Int) (r i j:Nat) (h:i < r) (hj:j < 8):(sigC f r)[i * 8+j]? = some (.int .i64 (f ⟨3,(i:Int),(j:Int)⟩)):=by
 have h1:i * 8+j < r * 8:=by omega
 have h2:(i * 8+j) / 8=i:=by omega
 have h3:(i * 8+j) % 8=j:=by omega
 simp [sigC,h1]
 rw [show ((i:Int) * 8+(j:Int)) / 8=(i:Int) by omega,show (j:Int) % 8=(j:Int) by omega]
theorem cellC_get (f:Ad→Int) (c i:Nat) (h:i < c):(cellC f c)[i]? = some (.int .i64 (f ⟨4,(i:Int),0⟩)):=by simp [cellC,h]
theorem map_set_range {f g:Nat→Value} {n i:Nat} {v:Value} (hi:i < n) (h1:g i=v) (h2 : ∀ q,q≠i→g q=f q):(((List.range n).map f).toArray.setIfInBounds i v)=((List.range n).map g).toArray:=by
 apply Array.ext_getElem?
 intro q
 rw [Array.getElem?_setIfInBounds]
 by_cases e:i=q
 ·subst e; simp [hi,h1]
 ·rw [if_neg e]
  by_cases hq:q < n
  ·simp [hq,h2 q (fun e' => e e'.symm)]
  ·simp [hq]
theorem map_same_range {f g:Nat→Value} {n:Nat} (h : ∀ q,q < n→g q=f q):(((List.range n).map f).toArray)=((List.range n).map g).toArray:=by
 congr 1
 apply List.map_congr_left
 intro q hq
 exact (h q (List.mem_range.1 hq)).symm
theorem headC_set (f:Ad→Int) (r i:Nat) (z:Int) (h:i < r):(headC f r).setIfInBounds i (.int .i64 z)=headC (upd f ⟨2,i,0⟩ z) r :=
 map_set_range h (by simp [upd]) (fun q hq=>by
    have : ¬ ((i:Int)=(q:Int)):=by omega
    simp [upd,this])
theorem cellC_set (f:Ad→Int) (c i:Nat) (z:Int) (h:i < c):(cellC f c).setIfInBounds i (.int .i64 z)=cellC (upd f ⟨4,i,0⟩ z) c :=
 map_set_range h (by simp [upd]) (fun q hq=>by
    have : ¬ ((i:Int)=(q:Int)):=by omega
    simp [upd,this])
theorem sigC_set (f:Ad→Int) (r i j:Nat) (z:Int) (h:i < r) (hj:j < 8):(sigC f r).setIfInBounds (i * 8+j) (.int .i64 z)=sigC (upd f ⟨3,i,j⟩ z) r :=
 map_set_range (by omega) (by
    have h2:(i * 8+j) / 8=i:=by omega
    have h3:(i * 8+j) % 8=j:=by omega
    simp only [h2,h3,upd]
    simp) (fun q hq=>by
    have : ¬ ((i:Int)=((q / 8:Nat):Int)∧(j:Int)=((q % 8:Nat):Int)):=by omega
    simp only [upd,Ad.mk.injEq,true_and,if_neg this])
theorem headC_other (f:Ad→Int) (r:Nat) (a:Ad) (z:Int) (h:a.k≠2):headC (upd f a z) r=headC f r :=
 map_same_range (fun q _=>by
    have : ¬ (a=⟨2,(q:Int),0⟩):=fun e=>h (by rw [e])
    simp [upd,this])
theorem sigC_other (f:Ad→Int) (r:Nat) (a:Ad) (z:Int) (h:a.k≠3):sigC (upd f a z) r=sigC f r :=
 map_same_range (fun q _=>by
    have : ¬ (a=⟨3,((q / 8:Nat):Int),((q % 8:Nat):Int)⟩):=fun e=>h (by rw [e])
    simp only [upd,if_neg this])
theorem cellC_other (f:Ad→Int) (c:Nat) (a:Ad) (z:Int) (h:a.k≠4):cellC (upd f a z) c=cellC f c :=
 map_same_range (fun q _=>by
    have : ¬ (a=⟨4,(q:Int),0⟩):=fun e=>h (by rw [e])
    simp [upd,this])
theorem upd_other {f:Ad→Int} {a b:Ad} {z:Int} (h:a≠b):upd f a z b=f b:=if_neg h
theorem upd_same (f:Ad→Int) (a:Ad) (z:Int):upd f a z a=z:=if_pos rfl
def adC (a:Ad):Array Value:=#[.int .i64 a.k,.int .i64 a.i,.int .i64 a.j]
def acC (x:Ac):Array Value:=#[.int .i64 x.t,.int .i64 x.k,.int .i64 x.a.k,.int .i64 x.a.i,.int .i64 x.a.j,.int .i64 x.o,.int .i64 x.v,.bool x.y]
def logC (L:List Ac):List Value:=L.flatMap fun x=>(acC x).toList
theorem logC_len (L:List Ac):(logC L).length=L.length * 8:=by
 induction L with
 | nil=>rfl
 | cons x L ih=>simp only [logC,List.flatMap_cons,List.length_append,List.length_cons] at *; rw [ih]; simp [acC]; omega
theorem logC_app (L K:List Ac):logC (L++K)=logC L++logC K:=List.flatMap_append
theorem logC_one (x:Ac):logC [x] = (acC x).toList:=by simp [logC]
def sizeOk (s:Int):Bool:=decide (1≤s) && decide (s≤16)
def slotV (st s:Int):Int:=if sizeOk s then st % s else 0
def laidV (h st:Int):Bool:=h / 2 == st
def overV (h st:Int):Bool:=decide (st < 1) || (decide (h / 2 > st) || laidV h st && (h % 2 == 1))
def freeV (h st s:Int):Bool:=sizeOk s && (decide (st≤s) || overV h (st - s))
theorem sizeOk_iff {s:Int}:sizeOk s=true ↔ 1≤s∧s≤16:=by simp [sizeOk]
theorem slotV_bd (st s:Int) (h:sizeOk s=true):0≤slotV st s∧slotV st s < s:=by
 have hs:=sizeOk_iff.mp h
 unfold slotV
 rw [if_pos h]
 exact ⟨Int.emod_nonneg _ (by omega),Int.emod_lt_of_pos _ (by omega)⟩
structure Bg where
 st:Int
 seen:Int
 stamp:Int
 deriving DecidableEq
def bgNew:Bg:=⟨0,0,0⟩
def seeV (v:Int):Bg:=if v < 1 then ⟨2,v,0⟩ else ⟨1,v,v⟩
def lookV (s:Nat) (b:Bg) (h:Int):Bg:=if overV h b.stamp then ⟨2,b.seen,b.stamp⟩ else if b.stamp - 1 < 1∨b.stamp - 1=b.seen - (s:Int) then ⟨2,b.seen,b.stamp - 1⟩ else ⟨1,b.seen,b.stamp - 1⟩
def adV (s:Nat) (b:Bg):Ad:=if b.st=0 then ⟨1,0,0⟩ else ⟨2,slotV b.stamp s,0⟩
def stepV (s:Nat) (b:Bg) (v:Int):Bg:=if b.st=0 then seeV v else if b.st=1 then lookV s b v else b
def W64 (z:Int):Prop:=-9223372036854775808≤z∧z≤9223372036854775807
structure BOk (s:Nat) (b:Bg):Prop where
 s1:1≤s
 s16:s≤16
 c:(b.st=0∧b.seen=0∧b.stamp=0)∨(b.st=1∧1≤b.stamp∧b.stamp≤b.seen∧b.seen - (s:Int) < b.stamp∧W64 b.seen)∨(b.st=2∧0≤b.stamp∧(b.stamp≤b.seen∨b.seen < 0)∧W64 b.seen)
theorem bok_new {s:Nat} (h1:1≤s) (h2:s≤16):BOk s bgNew:=⟨h1,h2,Or.inl ⟨rfl,rfl,rfl⟩⟩
theorem bok_step {s:Nat} {b:Bg} {v:Int} (h:BOk s b) (hv:W64 v):BOk s (stepV s b v):=by
 refine ⟨h.s1,h.s16, ?_⟩
 have h1:=h.s1
 rcases h.c with ⟨c0,c1,c2⟩ | ⟨c0,c1,c2,c3,c4⟩ | ⟨c0,c1,c2,c3⟩
 ·unfold stepV seeV
  rw [if_pos c0]
  by_cases e:v < 1
  ·rw [if_pos e]
   exact Or.inr (Or.inr ⟨rfl,by simp,by simp only; omega,hv⟩)
  ·rw [if_neg e]
   exact Or.inr (Or.inl ⟨rfl,by simp only; omega,by simp,by simp only; omega,hv⟩)
 ·unfold stepV lookV
  rw [if_neg (by omega),if_pos c0]
  by_cases e:overV v b.stamp=true
  ·rw [if_pos e]
   exact Or.inr (Or.inr ⟨rfl,by simp only; omega,Or.inl c2,c4⟩)
  ·rw [if_neg e]
   by_cases e2:b.stamp - 1 < 1∨b.stamp - 1=b.seen - (s:Int)
   ·rw [if_pos e2]
    exact Or.inr (Or.inr ⟨rfl,by simp only; omega,Or.inl (by simp only; omega),c4⟩)
   ·rw [if_neg e2]
    exact Or.inr (Or.inl ⟨rfl,by simp only; omega,by simp only; omega,by simp only; omega,c4⟩)
 ·unfold stepV
  rw [if_neg (by omega),if_neg (by omega)]
  exact Or.inr (Or.inr ⟨c0,c1,c2,c3⟩)
theorem bok_st {s:Nat} {b:Bg} (h:BOk s b):b.st=0∨b.st=1∨b.st=2:=by
 rcases h.c with ⟨c,_⟩ | ⟨c,_⟩ | ⟨c,_⟩ <;> simp [c]
theorem adV_is {s c:Nat} {b:Bg} (h:BOk s b):isAd c s (adV s b)=true:=by
 unfold adV
 split
 ·rfl
 ·obtain ⟨h1,h2⟩:=slotV_bd b.stamp s (sizeOk_iff.mpr ⟨by have:=h.s1; omega,by have:=h.s16; omega⟩)
  simp [isAd,h1,h2]
end Go.Proofs.YtdkpgdkjohjcaaaGreat
namespace Go.Proofs.YtdkpgdkjohjcaaaGreat
open Go.RowKit (wrap64)
theorem and1 (x:Int):bits .and .i64 x 1=x % 2:=by
 show IntKind.i64.wrap ((BitVec.ofInt 64 x &&& BitVec.ofInt 64 1).toNat:Int)=_
 rw [BitVec.toNat_and,BitVec.toNat_ofInt,BitVec.toNat_ofInt]
 have e:((1:Int) % ((2 ^ 64:Nat):Int)).toNat=1:=by decide
 rw [e,Nat.and_one_is_mod,IntKind.wrap_i64]
 omega
theorem or1 (x:Int):bits .or .i64 (wrap64 (x * 2)) 1=wrap64 (x * 2+1):=by
 show IntKind.i64.wrap ((BitVec.ofInt 64 (wrap64 (x * 2)) ||| BitVec.ofInt 64 1).toNat:Int)=_
 rw [BitVec.toNat_or,BitVec.toNat_ofInt,BitVec.toNat_ofInt]
 have e:((1:Int) % ((2 ^ 64:Nat):Int)).toNat=1:=by decide
 have e2:((2 ^ 64:Nat):Int)=18446744073709551616:=by decide
 rw [e,e2]
 generalize hq:(wrap64 (x * 2) % 18446744073709551616).toNat=q
 have hev:q % 2=0:=by unfold wrap64 at hq; omega
 have hor:q ||| 1=q+1:=by
  have h:=Nat.two_pow_add_eq_or_of_lt (i:=1) (b:=1) (by decide) (q / 2)
  have:2 ^ 1 * (q / 2)=q:=by omega
  rw [this] at h
  exact h.symm
 rw [hor,IntKind.wrap_i64]
 unfold wrap64 at *
 omega
theorem two_pow_pos (k:Nat):(0:Int) < 2 ^ k:=by
 have:=Nat.two_pow_pos k
 have h:((2 ^ k:Nat):Int)=(2:Int) ^ k:=by simp
 omega
def fold33 (x:Int):Int:=bits .xor .u64 x (x / 8589934592)
def mixV (x:Int):Int:=fold33 (IntKind.u64.wrap (fold33 (IntKind.u64.wrap (fold33 x * 18397679294719823053)) * 14181476777654086739))
theorem fold_bd (x:Int):0≤fold33 x∧fold33 x≤18446744073709551615:=⟨bits_lo_u64 _ _ _,bits_hi_u64 _ _ _⟩
theorem mix_bd (x:Int):0≤mixV x∧mixV x≤18446744073709551615:=fold_bd _
theorem bd_i64 (x:Int) (h:(Lit.int .i64 x).wf=true) : -9223372036854775808≤x∧x≤9223372036854775807:=by
 simpa [Lit.wf,IntKind.min,IntKind.max,IntKind.signed,IntKind.bits] using h
theorem tmod_neg (x m:Int) (hm:0 < m) (hx:x < 0) (hne : ¬ x % m=0):x.tmod m=x % m - m:=by
 have e:x % m=x.tmod m+((if 0≤x∨m ∣ x then 0 else m.natAbs:Nat):Int):=Int.emod_eq_tmod
 rw [if_neg (by
    intro hh
    rcases hh with hh | hh
    · omega
    · exact hne (Int.emod_eq_zero_of_dvd hh))] at e
 omega
theorem tmod_same (x m:Int) (hx:0≤x∨x % m=0):x.tmod m=x % m:=by
 rcases hx with hx | hx
 ·exact Int.tmod_eq_emod_of_nonneg hx
 ·rw [Int.tmod_eq_zero_of_dvd (Int.dvd_of_emod_eq_zero hx),hx]
theorem tmod_low (x m:Int) (hm:0 < m) (h:x.tmod m < 0):x < 0 ∧ ¬ x % m=0∧x.tmod m=x % m - m:=by
 have hb:=Int.emod_nonneg x (show m≠0 by omega)
 have hx:x < 0:=by
  rcases Int.lt_or_le x 0 with h' | h'
  ·exact h'
  ·rw [tmod_same x m (.inl h')] at h; omega
 have hne : ¬ x % m=0:=fun e=>by rw [tmod_same x m (.inr e)] at h; omega
 exact ⟨hx,hne,tmod_neg x m hm hx hne⟩
theorem tmod_high (x m:Int) (hm:0 < m) (h:0≤x.tmod m):x.tmod m=x % m:=by
 have hb:=Int.emod_lt_of_pos x hm
 rcases Int.lt_or_le x 0 with h' | h'
 ·by_cases hne:x % m=0
  ·exact tmod_same x m (.inr hne)
  ·rw [tmod_neg x m hm h' hne] at h; omega
 ·exact tmod_same x m (.inl h')
def headV (x:Int) (d:Bool):Int:=wrap64 (x * 2+if d then 1 else 0)
end Go.Proofs.YtdkpgdkjohjcaaaGreat
