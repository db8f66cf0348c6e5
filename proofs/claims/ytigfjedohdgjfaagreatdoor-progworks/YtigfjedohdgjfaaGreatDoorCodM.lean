/- Instructions and their bytes as plain data: what stands at a place, what is laid down, there and back. -/
import Derived.Test.YtigfjedohdgjfaaGreatDoorMath
namespace Go.Proofs.YtigfjedohdgjfaaGreatDoor.Tl.Cd
open Go.RowKit (wrap64)
def byt (s:ByteArray) (i:Nat):Nat:=s[i]?.elim 0 (·.toNat)
theorem byt_at (s:ByteArray) (i:Nat) (h:i < s.size):byt s i=s[i].toNat:=by
 unfold byt
 rw [getElem?_pos s i h]
 rfl
theorem byt_lt (s:ByteArray) (i:Nat):byt s i < 256:=by
 unfold byt
 cases h:s[i]? with
 | none=>decide
 | some b=>exact b.toNat_lt
def xb (x:Int) (j:Nat):Int:=x / 256 ^ j
def layN (x:Int) (n:Nat):List Int:=(List.range n).map fun j=>xb x j % 256
theorem pow256 (j:Nat):(0:Int) < 256 ^ j:=Int.pow_pos (by decide)
theorem xb_zero (x:Int):xb x 0=x:=by unfold xb; simp
theorem xb_succ (x:Int) (j:Nat):xb x j / 256=xb x (j+1):=by
 unfold xb
 rw [Int.ediv_ediv_of_nonneg (Int.le_of_lt (pow256 j)),Int.pow_succ]
theorem lay_succ (x:Int) (n:Nat):layN x (n+1)=layN x n ++ [xb x n % 256]:=by
 unfold layN
 rw [List.range_succ,List.map_append]
 rfl
theorem lay_len (x:Int) (n:Nat):(layN x n).length=n:=by unfold layN; simp
theorem lay_get (x:Int) (n i:Nat) (h:i < n):(layN x n)[i]? = some (xb x i % 256):=by unfold layN; simp [h]
theorem layn (x:Int):layN x 1 = [x % 256] ∧ layN x 2 = [x % 256,x / 256 % 256] ∧ layN x 4 = [x % 256,x / 256 % 256,x / 65536 % 256,x / 16777216 % 256] ∧
  layN x 8 = [x % 256,x / 256 % 256,x / 65536 % 256,x / 16777216 % 256,x / 4294967296 % 256,x / 1099511627776 % 256,x / 281474976710656 % 256,x / 72057594037927936 % 256]:=by
 simp [layN,xb,List.range_succ]
def leF (f:Nat→Nat):Nat→Int
 | 0=>0
 | n+1=>leF f n+(f n:Int) * 256 ^ n
def takeF (f:Nat→Nat) (n:Nat):Int:=if 128 * 256 ^ (n - 1)≤leF f n then leF f n - 256 ^ n else leF f n
theorem leF_congr {f g:Nat→Nat} {n:Nat} (h : ∀ i,i < n→f i=g i):leF f n=leF g n:=by
 induction n with
 | zero=>rfl
 | succ n ih=>unfold leF; rw [ih (fun i hi=>h i (by omega)),h n (by omega)]
theorem le_bd {f:Nat→Nat} (hf : ∀ i,f i < 256) (n:Nat):0≤leF f n∧leF f n < 256 ^ n:=by
 induction n with
 | zero=>simp [leF]
 | succ n ih =>
  have hb:=hf n
  have hp:=pow256 n
  unfold leF
  rw [Int.pow_succ]
  have h1:0≤(f n:Int) * 256 ^ n:=Int.mul_nonneg (by omega) (Int.le_of_lt hp)
  have h2:(f n:Int) * 256 ^ n≤255 * 256 ^ n:=Int.mul_le_mul_of_nonneg_right (by omega) (Int.le_of_lt hp)
  omega
theorem le_or {f:Nat→Nat} (hf : ∀ i,f i < 256) (j:Nat) (hj:j < 8):bits .or .u64 (leF f j) (IntKind.u64.wrap ((f j:Int) * 2 ^ (8 * j)))=leF f (j+1):=by
 have hb:=hf j
 have hl:=le_bd hf j
 have hl1:=le_bd hf (j+1)
 have hp:(2:Int) ^ (8 * j)=256 ^ j:=by rw [Int.pow_mul]; rfl
 rw [hp,show leF f (j+1)=leF f j+(f j:Int) * 256 ^ j from rfl] at *
 generalize f j=c at *
 obtain ⟨m,hm⟩:=Int.eq_ofNat_of_zero_le hl.1
 rw [hm] at hl hl1 ⊢
 have hpn:((256 ^ j:Nat):Int)=(256:Int) ^ j:=by simp
 have h8:(256:Nat) ^ (j+1)≤256 ^ 8:=Nat.pow_le_pow_right (by decide) (by omega)
 have h8':(256:Int) ^ (j+1)≤18446744073709551616:=by
  have e:((256 ^ (j+1):Nat):Int)=(256:Int) ^ (j+1):=by simp
  omega
 have hlt:m < 256 ^ j:=by omega
 have hcm:c * 256 ^ j < 18446744073709551616:=by
  have e:((c * 256 ^ j:Nat):Int)=(c:Int) * 256 ^ j:=by simp
  omega
 have e1:IntKind.u64.wrap ((c:Int) * 256 ^ j)=((c * 256 ^ j:Nat):Int):=by
  rw [IntKind.wrap_u64]
  have e:((c * 256 ^ j:Nat):Int)=(c:Int) * 256 ^ j:=by simp
  omega
 rw [e1,bits_or_u64_nat m _ (by omega) hcm]
 have h2:256 ^ j=2 ^ (8 * j):=by rw [Nat.pow_mul]
 have hor:=Nat.two_pow_add_eq_or_of_lt (i:=8 * j) (b:=m) (by rw [← h2]; exact hlt) c
 rw [Nat.mul_comm,h2,Nat.or_comm,← hor,Nat.mul_comm]
 rw [← hpn,h2]
 omega
theorem le_lay (x:Int) (n:Nat) (f:Nat→Nat) (hf : ∀ i,i < n→(f i:Int)=xb x i % 256):leF f n=x % 256 ^ n:=by
 induction n with
 | zero=>simp [leF,Int.emod_one]
 | succ n ih =>
  have hp:=pow256 n
  unfold leF
  rw [ih (fun i hi=>hf i (by omega)),hf n (by omega)]
  unfold xb
  have h1:=Int.emod_add_mul_ediv x (256 ^ n)
  have h2:=Int.emod_add_mul_ediv (x / 256 ^ n) 256
  have h3:=Int.emod_nonneg x (show (256:Int) ^ n≠0 by omega)
  have h4:=Int.emod_lt_of_pos x hp
  have h5:=Int.emod_nonneg (x / 256 ^ n) (show (256:Int)≠0 by decide)
  have h6:=Int.emod_lt_of_pos (x / 256 ^ n) (show (0:Int) < 256 by decide)
  symm
  have e:x=(x % 256 ^ n+x / 256 ^ n % 256 * 256 ^ n)+256 ^ (n+1) * (x / 256 ^ n / 256):=by
   rw [Int.pow_succ]
   generalize x / 256 ^ n / 256=q2 at *
   generalize x / 256 ^ n % 256=r2 at *
   rw [← h2] at h1
   rw [Int.mul_add,← Int.mul_assoc,Int.mul_comm _ r2] at h1
   omega
  have hr0:0≤x / 256 ^ n % 256 * 256 ^ n:=Int.mul_nonneg h5 (Int.le_of_lt hp)
  have hr1:x / 256 ^ n % 256 * 256 ^ n≤255 * 256 ^ n:=Int.mul_le_mul_of_nonneg_right (by omega) (Int.le_of_lt hp)
  conv=>lhs; rw [e]
  rw [Int.add_mul_emod_self_left,Int.emod_eq_of_lt (by omega) (by rw [Int.pow_succ]; omega)]
theorem take_lay (x:Int) (n:Nat) (h0:0 < n) (f:Nat→Nat) (hf : ∀ i,i < n→(f i:Int)=xb x i % 256) (hx0 : -(128 * 256 ^ (n - 1))≤x) (hx1:x < 128 * 256 ^ (n - 1)):takeF f n=x:=by
 have h:=le_lay x n f hf
 obtain ⟨k,rfl⟩ : ∃ k,n=k+1:=⟨n - 1,by omega⟩
 have hp:=pow256 k
 simp only [Nat.add_sub_cancel] at hx0 hx1
 unfold takeF
 rw [h,Int.pow_succ]
 simp only [Nat.add_sub_cancel]
 rcases Int.lt_or_le x 0 with hn | hn
 ·have e:x % (256 ^ k * 256)=x+256 ^ k * 256:=by
   rw [← Int.add_emod_right,Int.emod_eq_of_lt (by omega) (by omega)]
  rw [e,if_pos (by omega)]
  omega
 ·rw [Int.emod_eq_of_lt hn (by omega),if_neg (by omega)]
def wdC (c:Nat):Nat:=if c=3 then 8 else if c=2∨c=24∨c=25∨c=26 then 2 else if c=1∨c=23∨c=28∨33≤c then 1 else 0
def loC (c:Nat):Int:=if c=1 then -128 else if c=2∨c=24∨c=25 then -32768 else if c=3 then -9223372036854775808 else 0
def hiC (c:Nat):Int:=if c=1 then 127 else if c=2∨c=24∨c=25 then 32767 else if c=3 then 9223372036854775807 else if c=23 then 5 else if c=26 then 65535 else if c=28∨33≤c then 255 else 0
def opF (c:Nat) (f:Nat→Nat):Int:=if loC c < 0 then takeF f (wdC c) else leF f (wdC c)
def okI (c:Int) (x:Int):Prop:=0≤c∧c≤40∧loC c.toNat≤x∧x≤hiC c.toNat
instance (c x:Int):Decidable (okI c x):=by unfold okI; infer_instance
def bytesI (c:Nat) (x:Int):List Int:=(c:Int) :: layN x (wdC c)
theorem bytesI_len (c:Nat) (x:Int):(bytesI c x).length=1+wdC c:=by simp [bytesI,lay_len]; omega
theorem wd_cases (c:Nat):wdC c=0∨wdC c=1∨wdC c=2∨wdC c=8:=by
 unfold wdC
 split
 ·simp
 ·split
  ·simp
  ·split
   ·simp
   ·simp
def atV (f:Nat→Nat) (n:Nat):Option (Nat × Int) :=
 if n=0∨40 < f 0∨n - 1 < wdC (f 0) then none
 else if opF (f 0) (fun i=>f (i+1))≤hiC (f 0) then some (f 0,opF (f 0) (fun i=>f (i+1))) else none
theorem opF_congr {c:Nat} {f g:Nat→Nat} (h : ∀ i,i < wdC c→f i=g i):opF c f=opF c g:=by
 unfold opF takeF
 rw [leF_congr h]
theorem opF_lo {f:Nat→Nat} (hf : ∀ i,f i < 256) (c:Nat):loC c≤opF c f:=by
 have hl:=le_bd hf (wdC c)
 unfold opF
 split
 ·rename_i hlo
  have:c=1∨c=2∨c=24∨c=25∨c=3:=by
   unfold loC at hlo
   repeat' split at hlo
   all_goals omega
  unfold takeF
  rcases this with rfl | rfl | rfl | rfl | rfl <;> simp [wdC,loC] at * <;> split <;> omega
 ·rename_i hlo
  have:loC c≤0:=by
   unfold loC
   split
   ·decide
   ·split
    ·decide
    ·split <;> decide
  omega
theorem op_of_lay {c:Nat} {x:Int} (h:okI c x) (f:Nat→Nat) (hf : ∀ i,i < wdC c→(f i:Int)=xb x i % 256):opF c f=x:=by
 obtain ⟨_,h40,h1,h2⟩:=h
 rw [Int.toNat_natCast] at h1 h2
 unfold opF
 split
 ·rename_i hlo
  have:c=1∨c=2∨c=24∨c=25∨c=3:=by
   unfold loC at hlo
   repeat' split at hlo
   all_goals omega
  rcases this with rfl | rfl | rfl | rfl | rfl
  all_goals
   simp only [wdC,loC,hiC] at *
   refine take_lay x _ (by decide) f hf ?_ ?_
   all_goals simp at *; omega
 ·rename_i hlo
  rw [le_lay x _ f hf]
  refine Int.emod_eq_of_lt ?_ ?_
  ·unfold loC at *
   repeat' split at h1
   all_goals simp_all
  ·clear hf
   unfold hiC wdC loC at *
   repeat' split at h2
   all_goals (repeat' split)
   all_goals simp_all <;> omega
theorem at_bytes {c:Nat} {x:Int} (h:okI c x) {f:Nat→Nat} {n:Nat} (hn:1+wdC c≤n) (hf : ∀ i,i < 1+wdC c→(bytesI c x)[i]? = some (f i:Int)):atV f n=some (c,x):=by
 have h0:f 0=c:=by
  have:=hf 0 (by omega)
  simp [bytesI] at this
  omega
 have hl : ∀ i,i < wdC c→(f (i+1):Int)=xb x i % 256:=fun i hi=>by
  have:=hf (i+1) (by omega)
  unfold bytesI at this
  rw [List.getElem?_cons_succ,lay_get _ _ _ hi] at this
  simpa using this.symm
 have ho:=op_of_lay h (fun i=>f (i+1)) hl
 obtain ⟨_,h40,h1,h2⟩:=h
 rw [Int.toNat_natCast] at h1 h2
 unfold atV
 rw [h0,if_neg (by omega),ho,if_pos h2]
def fr (s:ByteArray) (p:Nat):Nat→Nat:=fun i=>byt s (p+i)
end Go.Proofs.YtigfjedohdgjfaaGreatDoor.Tl.Cd
