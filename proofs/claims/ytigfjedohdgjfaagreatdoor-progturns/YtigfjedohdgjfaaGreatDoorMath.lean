/- Plain facts on words of 64 bits, on their wraps, shifts and bits: they import nothing of the program and speak of numbers alone. -/
import Derived.WalkKit
import Derived.Laws.Bits64
import Derived.Laws.Bits64b
namespace Go.Proofs.YtigfjedohdgjfaaGreatDoor
open Go.RowKit (wrap64)
theorem and63 (n:Int):bits .and .u64 (IntKind.u64.wrap n) 63=((n % 64).toNat:Int):=by
 rw [IntKind.wrap_u64]
 obtain ⟨m,hm⟩:=Int.eq_ofNat_of_zero_le (Int.emod_nonneg n (show (18446744073709551616:Int)≠0 by decide))
 have hlt:m < 18446744073709551616:=by
  have:=Int.emod_lt_of_pos n (show (0:Int) < 18446744073709551616 by decide)
  omega
 rw [hm]
 have h:=bits_and_u64_nat m 63 hlt (by decide)
 have h2:m &&& 63=m % 64:=Nat.and_two_pow_sub_one_eq_mod m 6
 rw [h2] at h
 refine Eq.trans h ?_
 omega
theorem and1 (x:Int):bits .and .i64 x 1=x % 2:=by
 show IntKind.i64.wrap ((BitVec.ofInt 64 x &&& BitVec.ofInt 64 1).toNat:Int)=_
 rw [BitVec.toNat_and,BitVec.toNat_ofInt,BitVec.toNat_ofInt]
 have e:((1:Int) % ((2 ^ 64:Nat):Int)).toNat=1:=by decide
 rw [e,Nat.and_one_is_mod,IntKind.wrap_i64]
 omega
theorem or1 (x:Int):bits .or .i64 (wrap64 (x * 2)) 1=wrap64 (x * 2+1):=by
 show IntKind.i64.wrap ((BitVec.ofInt 64 (wrap64 (x * 2)) ||| BitVec.ofInt 64 1).toNat:Int)=_
 rw [BitVec.toNat_or,BitVec.toNat_ofInt,BitVec.toNat_ofInt]
 have e:((1:Int) % ((2 ^ 64:Nat):Int)).toNat=1:=by decide
 have e2:((2 ^ 64:Nat):Int)=18446744073709551616:=by decide
 rw [e,e2]
 generalize hq:(wrap64 (x * 2) % 18446744073709551616).toNat=q
 have hev:q % 2=0:=by unfold wrap64 at hq; omega
 have hor:q ||| 1=q+1:=by
  have h:=Nat.two_pow_add_eq_or_of_lt (i:=1) (b:=1) (by decide) (q / 2)
  have:2 ^ 1 * (q / 2)=q:=by omega
  rw [this] at h
  exact h.symm
 rw [hor,IntKind.wrap_i64]
 unfold wrap64 at *
 omega
theorem two_pow_pos (k:Nat):(0:Int) < 2 ^ k:=by
 have:=Nat.two_pow_pos k
 have h:((2 ^ k:Nat):Int)=(2:Int) ^ k:=by simp
 omega
def fold33 (x:Int):Int:=bits .xor .u64 x (x / 8589934592)
def mixV (x:Int):Int:=fold33 (IntKind.u64.wrap (fold33 (IntKind.u64.wrap (fold33 x * 18397679294719823053)) * 14181476777654086739))
theorem fold_bd (x:Int):0≤fold33 x∧fold33 x≤18446744073709551615:=⟨bits_lo_u64 _ _ _,bits_hi_u64 _ _ _⟩
theorem mix_bd (x:Int):0≤mixV x∧mixV x≤18446744073709551615:=fold_bd _
theorem tmod_neg (x m:Int) (hm:0 < m) (hx:x < 0) (hne : ¬ x % m=0):x.tmod m=x % m - m:=by
 have e:x % m=x.tmod m+((if 0≤x∨m ∣ x then 0 else m.natAbs:Nat):Int):=Int.emod_eq_tmod
 rw [if_neg (by
    intro hh
    rcases hh with hh | hh
    · omega
    · exact hne (Int.emod_eq_zero_of_dvd hh))] at e
 omega
theorem tmod_same (x m:Int) (hx:0≤x∨x % m=0):x.tmod m=x % m:=by
 rcases hx with hx | hx
 ·exact Int.tmod_eq_emod_of_nonneg hx
 ·rw [Int.tmod_eq_zero_of_dvd (Int.dvd_of_emod_eq_zero hx),hx]
theorem tmod_low (x m:Int) (hm:0 < m) (h:x.tmod m < 0):x < 0 ∧ ¬ x % m=0∧x.tmod m=x % m - m:=by
 have hb:=Int.emod_nonneg x (show m≠0 by omega)
 have hx:x < 0:=by
  rcases Int.lt_or_le x 0 with h' | h'
  ·exact h'
  ·rw [tmod_same x m (.inl h')] at h; omega
 have hne : ¬ x % m=0:=fun e=>by rw [tmod_same x m (.inr e)] at h; omega
 exact ⟨hx,hne,tmod_neg x m hm hx hne⟩
theorem tmod_high (x m:Int) (hm:0 < m) (h:0≤x.tmod m):x.tmod m=x % m:=by
 have hb:=Int.emod_lt_of_pos x hm
 rcases Int.lt_or_le x 0 with h' | h'
 ·by_cases hne:x % m=0
  ·exact tmod_same x m (.inr hne)
  ·rw [tmod_neg x m hm h' hne] at h; omega
 ·exact tmod_same x m (.inl h')
def headV (x:Int) (d:Bool):Int:=wrap64 (x * 2+if d then 1 else 0)
def shlV (x:Int) (k:Nat):Int:=wrap64 (x * 2 ^ k)
def shrV (x:Int) (k:Nat):Int:=x / 2 ^ k
end Go.Proofs.YtigfjedohdgjfaaGreatDoor
