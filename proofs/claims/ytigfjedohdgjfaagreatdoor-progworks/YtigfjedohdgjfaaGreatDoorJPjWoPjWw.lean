/- ProgWorks: the document's Two, and the law's programs as data. -/
import Derived.Test.YtigfjedohdgjfaaGreatDoorPjLf
import Derived.Deep.DeepCutAuto
namespace Go.Proofs.YtigfjedohdgjfaaGreatDoor.Pj
open Go.ChangeShapes Go.WideShapes Go.ChangeAt Go.RowKit
open Tl (Wn wn0 nth numC Nl)
open Tl.Cd (bytesI layN xb okI wdC)
attribute [local go_sem ↓] Go.wp_at_zero Go.wp_at_succ
theorem w64_sx (n:Int):Tl.Sx (wrap64 n):=by unfold Tl.Sx wrap64; omega
theorem i64_sx (n:Int):Tl.Sx (IntKind.i64.wrap n):=by
 unfold Tl.Sx
 simp [IntKind.wrap,IntKind.signed,IntKind.bits]
 split <;> omega
theorem tr_sx (b:Bool):Tl.Sx (trV b):=by unfold trV Tl.Sx; cases b <;> simp
theorem rem_sx {a:Int} (b:Int) (ha:Tl.Sx a):Tl.Sx (remV a b):=by
 have key : ∀ c:Int,0≤c→0≤c.tmod b∧c.tmod b≤c:=fun c hc=>⟨Int.tmod_nonneg b hc,by
    have h:=Nat.mod_le c.natAbs b.natAbs
    have h2:(c.tmod b).natAbs=c.natAbs % b.natAbs:=Int.natAbs_tmod c b
    have:=Int.tmod_nonneg b hc
    omega⟩
 unfold remV
 by_cases hb:b=0
 ·rw [if_pos hb]; unfold Tl.Sx; omega
 ·rw [if_neg hb]
  unfold Tl.Sx at *
  by_cases h:0≤a
  ·have:=key a h; omega
  ·obtain ⟨c,rfl⟩ : ∃ c,a = -c:=⟨-a,by omega⟩
   rw [Int.neg_tmod]
   have:=key c (by omega)
   omega
theorem div_sx (a b:Int):Tl.Sx (divV a b):=by
 unfold divV
 by_cases hb:b=0
 ·rw [if_pos hb]; unfold Tl.Sx; omega
 ·rw [if_neg hb]; exact w64_sx _
theorem shr_sx {a:Int} (n:Nat) (ha:Tl.Sx a):Tl.Sx (a / 2 ^ n):=by
 unfold Tl.Sx at *
 have hp:(0:Int) < 2 ^ n:=Int.pow_pos (by decide)
 generalize (2:Int) ^ n=p at *
 constructor
 ·refine (Int.le_ediv_iff_mul_le hp).2 ?_
  omega
 ·refine Int.le_trans (Int.ediv_le_ediv hp ha.2) ?_
  exact Int.ediv_le_self _ (by decide)
def isW (c:Nat):Prop:=c=8∨c=9∨c=10∨c=11∨c=12∨c=13∨c=14∨c=15∨c=17∨c=18∨c=19∨c=20∨c=21∨c=22
theorem two_sx {c:Nat} (hc:isW c) {a b:Int} (ha:Tl.Sx a):Tl.Sx (twoV c a b):=by
 rcases hc with rfl | rfl | rfl | rfl | rfl | rfl | rfl | rfl | rfl | rfl | rfl | rfl | rfl | rfl
 ·exact w64_sx (a+b)
 ·exact w64_sx (a - b)
 ·exact w64_sx (a * b)
 ·exact div_sx a b
 ·exact rem_sx b ha
 ·exact i64_sx _
 ·exact i64_sx _
 ·exact i64_sx _
 ·exact w64_sx (a * 2 ^ shN b)
 ·exact shr_sx (shN b) ha
 ·exact w64_sx (IntKind.u64.wrap a / 2 ^ shN b)
 ·exact tr_sx (a == b)
 ·exact tr_sx (decide (a < b))
 ·exact tr_sx (decide (IntKind.u64.wrap a < IntKind.u64.wrap b))
def workP (c:Nat) (a b:Int):List (Nat × Int):=[(3,a),(3,b),(c,0),(29,0)]
def workB (c:Nat) (a b:Int):ByteArray:=strOfNums (bytesI 3 a)++strOfNums (bytesI 3 b)++strOfNums [(c:Int),29,0]
theorem work_bs (c:Nat) (a b:Int) (hc:isW c):Bs (workB c a b) (bytesP (workP c a b)++bytesI 0 0):=by
 have e:bytesP (workP c a b)++bytesI 0 0=bytesI 3 a++bytesI 3 b ++ [(c:Int),29,0]:=by
  rcases hc with rfl | rfl | rfl | rfl | rfl | rfl | rfl | rfl | rfl | rfl | rfl | rfl | rfl | rfl <;> simp [bytesP,workP] <;> rfl
 rw [e]
 refine bs_app (bs_app (bs_str _ (Tl.Cd.bytesI_bd (by decide) a)) (bs_str _ (Tl.Cd.bytesI_bd (by decide) b))) (bs_str _ (fun x hx => ?_))
 have hc40:c < 40:=by unfold isW at hc; omega
 simp at hx
 omega
theorem work_seq (c:Nat) (a b:Int) (hc:isW c) (ha:Tl.Sx a) (hb:Tl.Sx b):Seq (workB c a b) (workP c a b):=by
 have hbs:=work_bs c a b hc
 refine ⟨hbs, ?_,fun n q hq => ?_⟩
 ·rw [hbs.1]
  have hw:wdC c=0:=by rcases hc with rfl | rfl | rfl | rfl | rfl | rfl | rfl | rfl | rfl | rfl | rfl | rfl | rfl | rfl <;> rfl
  simp [bytesP,workP,Tl.Cd.bytesI_len]
  have:wdC 3=8:=rfl
  have:wdC 29=0:=rfl
  have:wdC 0=0:=rfl
  omega
 ·match n,hq with
  | 0,hq =>
   obtain rfl:(3,a)=q:=Option.some.inj hq
   dsimp only
   exact ⟨rfl,⟨by decide,by decide,ha.1,ha.2⟩,by decide,by decide,by decide,fun e=>absurd e (by decide),rfl⟩
  | 1,hq =>
   obtain rfl:(3,b)=q:=Option.some.inj hq
   dsimp only
   exact ⟨rfl,⟨by decide,by decide,hb.1,hb.2⟩,by decide,by decide,by decide,fun e=>absurd e (by decide),rfl⟩
  | 2,hq =>
   obtain rfl:(c,(0:Int))=q:=Option.some.inj hq
   dsimp only
   rcases hc with rfl | rfl | rfl | rfl | rfl | rfl | rfl | rfl | rfl | rfl | rfl | rfl | rfl | rfl <;> exact ⟨rfl,by decide,by decide,by decide,by decide,fun e=>absurd e (by decide),rfl⟩
  | 3,hq =>
   obtain rfl:((29:Nat),(0:Int))=q:=Option.some.inj hq
   dsimp only
   refine ⟨rfl,by decide,by decide,by decide,by decide,fun e=>absurd e (by decide), ?_⟩
   rcases hc with rfl | rfl | rfl | rfl | rfl | rfl | rfl | rfl | rfl | rfl | rfl | rfl | rfl | rfl <;> rfl
  | n+4,hq=>cases hq
theorem work_end (B:ByteArray) (c:Nat) (a b:Int) (hc:isW c):(stJ B (workP c a b) 6).tl = [twoV c a b] ∧ (stJ B (workP c a b) 6).err=0∧(stJ B (workP c a b) 6).nr=1:=by
 rcases hc with rfl | rfl | rfl | rfl | rfl | rfl | rfl | rfl | rfl | rfl | rfl | rfl | rfl | rfl <;> exact ⟨rfl,rfl,rfl⟩
theorem work_ends {w:World} (hT:Tl.Cd.Tab w) {c:Nat} {a b:Int} (hc:isW c) (ha:Tl.Sx a) (hb:Tl.Sx b) :
  Calls Tryz.prog 7 #[.agg #[.int .i64 1,.int .i64 2,.int .i64 4,.int .i64 9,.bool false,.int .i64 2,.slice none 0 0],.string (workB c a b),.slice none 0 0,.int .i64 9] w fun e w' => ∃ g cp,e = .returned (.tuple #[.agg #[.int .i64 1,.int .i64 0,.slice (some ⟨g,0,none⟩) 1 cp],.bool true])∧w'.cell? ⟨g,0,none⟩=some (.int .i64 (twoV c a b))∧1≤cp∧Below w.heap.size w w':=by
 obtain ⟨e1,e2,e3⟩:=work_end (workB c a b) c a b hc
 have hs:=work_seq c a b hc ha hb
 have hr:=seq_run hs
 have h:=ends_any hT (workB c a b) hs.cd hr (by show 1≤6; omega) 9 (by show 6≤9; omega) (by omega) (by
    show (stJ (workB c a b) (workP c a b) 6).tl.length≤1000∧_
    rw [show (workP c a b).length+2=6 from rfl,e1]
    exact ⟨by simp,fun x hx=>by simp at hx; subst hx; exact two_sx hc ha⟩)
 rw [show (workP c a b).length+2=6 from rfl,e1,e2,e3] at h
 refine h.mono ?_
 rintro e w' ⟨u,rfl,h1,_,hb⟩
 have ho:=h1 rfl
 rcases ho.2 with ⟨_,h2⟩ | ⟨g,cap,_,rfl,_,_,h3,_,_⟩
 ·simp at h2
 ·exact ⟨g,cap,rfl,own_cells ho 0 _ rfl,h3,hb⟩
theorem one_any (b:Bool) (w:World):Calls Tryz.prog 16 #[.bool b] w fun e w' => e = .returned (.int .i64 (trV b))∧w'=w:=by
 cases b
 ·go_enter Tryz.func16,Tryz.ntmps16
  go_wp2_with fail
  go_ret
  exact ⟨rfl,rfl⟩
 ·go_enter Tryz.func16,Tryz.ntmps16
  go_wp2_with fail
  go_ret
  exact ⟨rfl,rfl⟩
theorem sh_wrap (b:Int):(IntKind.u64.wrap b).tmod 64=(shN b:Int):=by
 rw [u64_wrap,Int.tmod_eq_emod_of_nonneg (by omega)]
 unfold shN
 omega
theorem two_8 (a b:Int) (w:World):Calls Tryz.prog 9 #[.int .i64 8,.int .i64 a,.int .i64 b] w fun e w' => e = .returned (.int .i64 (twoV 8 a b))∧Below w.heap.size w w':=by
 show Calls Tryz.prog 9 #[.int .i64 8,.int .i64 a,.int .i64 b] w fun e w' => e = .returned (.int .i64 (wrap64 (a+b)))∧Below w.heap.size w w'
 go_enter Tryz.func9,Tryz.ntmps9
 go_wp2_with fail
 go_ret
 exact ⟨rfl,Below.refl _ _⟩
theorem two_9 (a b:Int) (w:World):Calls Tryz.prog 9 #[.int .i64 9,.int .i64 a,.int .i64 b] w fun e w' => e = .returned (.int .i64 (twoV 9 a b))∧Below w.heap.size w w':=by
 show Calls Tryz.prog 9 #[.int .i64 9,.int .i64 a,.int .i64 b] w fun e w' => e = .returned (.int .i64 (wrap64 (a - b)))∧Below w.heap.size w w'
 go_enter Tryz.func9,Tryz.ntmps9
 go_wp2_with fail
 go_ret
 exact ⟨rfl,Below.refl _ _⟩
theorem two_10 (a b:Int) (w:World):Calls Tryz.prog 9 #[.int .i64 10,.int .i64 a,.int .i64 b] w fun e w' => e = .returned (.int .i64 (twoV 10 a b))∧Below w.heap.size w w':=by
 show Calls Tryz.prog 9 #[.int .i64 10,.int .i64 a,.int .i64 b] w fun e w' => e = .returned (.int .i64 (wrap64 (a * b)))∧Below w.heap.size w w'
 go_enter Tryz.func9,Tryz.ntmps9
 go_wp2_with fail
 go_ret
 exact ⟨rfl,Below.refl _ _⟩
theorem two_13 (a b:Int) (w:World):Calls Tryz.prog 9 #[.int .i64 13,.int .i64 a,.int .i64 b] w fun e w' => e = .returned (.int .i64 (twoV 13 a b))∧Below w.heap.size w w':=by
 show Calls Tryz.prog 9 #[.int .i64 13,.int .i64 a,.int .i64 b] w fun e w' => e = .returned (.int .i64 (bits .and .i64 a b))∧Below w.heap.size w w'
 go_enter Tryz.func9,Tryz.ntmps9
 go_wp2_with fail
 go_ret
 exact ⟨rfl,Below.refl _ _⟩
theorem two_14 (a b:Int) (w:World):Calls Tryz.prog 9 #[.int .i64 14,.int .i64 a,.int .i64 b] w fun e w' => e = .returned (.int .i64 (twoV 14 a b))∧Below w.heap.size w w':=by
 show Calls Tryz.prog 9 #[.int .i64 14,.int .i64 a,.int .i64 b] w fun e w' => e = .returned (.int .i64 (bits .or .i64 a b))∧Below w.heap.size w w'
 go_enter Tryz.func9,Tryz.ntmps9
 go_wp2_with fail
 go_ret
 exact ⟨rfl,Below.refl _ _⟩
theorem two_15 (a b:Int) (w:World):Calls Tryz.prog 9 #[.int .i64 15,.int .i64 a,.int .i64 b] w fun e w' => e = .returned (.int .i64 (twoV 15 a b))∧Below w.heap.size w w':=by
 show Calls Tryz.prog 9 #[.int .i64 15,.int .i64 a,.int .i64 b] w fun e w' => e = .returned (.int .i64 (bits .xor .i64 a b))∧Below w.heap.size w w'
 go_enter Tryz.func9,Tryz.ntmps9
 go_wp2_with fail
 go_ret
 exact ⟨rfl,Below.refl _ _⟩
theorem two_11 (a b:Int) (w:World):Calls Tryz.prog 9 #[.int .i64 11,.int .i64 a,.int .i64 b] w fun e w' => e = .returned (.int .i64 (twoV 11 a b))∧Below w.heap.size w w':=by
 show Calls Tryz.prog 9 #[.int .i64 11,.int .i64 a,.int .i64 b] w fun e w' => e = .returned (.int .i64 (divV a b))∧Below w.heap.size w w'
 unfold divV
 by_cases hb0:b=0
 ·subst hb0
  rw [if_pos rfl]
  go_enter Tryz.func9,Tryz.ntmps9
  go_wp2_with fail
  go_ret
  exact ⟨rfl,Below.refl _ _⟩
 ·rw [if_neg hb0]
  have hbz:(b == 0)=false:=by simpa using hb0
  go_enter Tryz.func9,Tryz.ntmps9
  go_wp2_with fail
  go_ret
  exact ⟨rfl,Below.refl _ _⟩
theorem two_12 (a b:Int) (w:World):Calls Tryz.prog 9 #[.int .i64 12,.int .i64 a,.int .i64 b] w fun e w' => e = .returned (.int .i64 (twoV 12 a b))∧Below w.heap.size w w':=by
 show Calls Tryz.prog 9 #[.int .i64 12,.int .i64 a,.int .i64 b] w fun e w' => e = .returned (.int .i64 (remV a b))∧Below w.heap.size w w'
 unfold remV
 by_cases hb0:b=0
 ·subst hb0
  rw [if_pos rfl]
  go_enter Tryz.func9,Tryz.ntmps9
  go_wp2_with fail
  go_ret
  exact ⟨rfl,Below.refl _ _⟩
 ·rw [if_neg hb0]
  have hbz:(b == 0)=false:=by simpa using hb0
  go_enter Tryz.func9,Tryz.ntmps9
  go_wp2_with fail
  go_ret
  exact ⟨rfl,Below.refl _ _⟩
theorem two_17 (a b:Int) (w:World):Calls Tryz.prog 9 #[.int .i64 17,.int .i64 a,.int .i64 b] w fun e w' => e = .returned (.int .i64 (twoV 17 a b))∧Below w.heap.size w w':=by
 show Calls Tryz.prog 9 #[.int .i64 17,.int .i64 a,.int .i64 b] w fun e w' => e = .returned (.int .i64 (wrap64 (a * 2 ^ shN b)))∧Below w.heap.size w w'
 have hsl:=shN_lt b
 have hsw:=sh_wrap b
 generalize shN b=n at *
 go_enter Tryz.func9,Tryz.ntmps9
 go_upto_region 1 with fail
 go_cut [7] (fun v wx=>v = .int .u64 (n:Int)∧w=wx)
 case first =>
  go_wp2_with fail
  go_meet
  exact ⟨rfl,rfl⟩
 case rest =>
  obtain ⟨rfl,rfl⟩:=hcut
  go_wp2_with fail
  go_ret
  exact ⟨rfl,Below.refl _ _⟩
theorem two_18 (a b:Int) (w:World):Calls Tryz.prog 9 #[.int .i64 18,.int .i64 a,.int .i64 b] w fun e w' => e = .returned (.int .i64 (twoV 18 a b))∧Below w.heap.size w w':=by
 show Calls Tryz.prog 9 #[.int .i64 18,.int .i64 a,.int .i64 b] w fun e w' => e = .returned (.int .i64 (a / 2 ^ shN b))∧Below w.heap.size w w'
 have hsl:=shN_lt b
 have hsw:=sh_wrap b
 generalize shN b=n at *
 go_enter Tryz.func9,Tryz.ntmps9
 go_upto_region 1 with fail
 go_cut [7] (fun v wx=>v = .int .u64 (n:Int)∧w=wx)
 case first =>
  go_wp2_with fail
  go_meet
  exact ⟨rfl,rfl⟩
 case rest =>
  obtain ⟨rfl,rfl⟩:=hcut
  go_wp2_with fail
  go_ret
  exact ⟨rfl,Below.refl _ _⟩
theorem two_19 (a b:Int) (w:World):Calls Tryz.prog 9 #[.int .i64 19,.int .i64 a,.int .i64 b] w fun e w' => e = .returned (.int .i64 (twoV 19 a b))∧Below w.heap.size w w':=by
 show Calls Tryz.prog 9 #[.int .i64 19,.int .i64 a,.int .i64 b] w fun e w' => e = .returned (.int .i64 (wrap64 (IntKind.u64.wrap a / 2 ^ shN b)))∧Below w.heap.size w w'
 have hsl:=shN_lt b
 have hsw:=sh_wrap b
 generalize shN b=n at *
 go_enter Tryz.func9,Tryz.ntmps9
 go_upto_region 1 with fail
 go_cut [7] (fun v wx=>v = .int .u64 (n:Int)∧w=wx)
 case first =>
  go_wp2_with fail
  go_meet
  exact ⟨rfl,rfl⟩
 case rest =>
  obtain ⟨rfl,rfl⟩:=hcut
  go_wp2_with fail
  go_ret
  exact ⟨rfl,Below.refl _ _⟩
theorem two_20 (a b:Int) (w:World):Calls Tryz.prog 9 #[.int .i64 20,.int .i64 a,.int .i64 b] w fun e w' => e = .returned (.int .i64 (twoV 20 a b))∧Below w.heap.size w w':=by
 show Calls Tryz.prog 9 #[.int .i64 20,.int .i64 a,.int .i64 b] w fun e w' => e = .returned (.int .i64 (trV (a == b)))∧Below w.heap.size w w'
 have HO:Hid (∀ w:World,Calls Tryz.prog 16 #[.bool (a == b)] w fun e w' => e = .returned (.int .i64 (trV (a == b)))∧w'=w):=one_any _
 go_enter Tryz.func9,Tryz.ntmps9
 go_wp2_with fail
 refine (HO.out _).mono ?_
 rintro e w1 ⟨rfl,rfl⟩
 go_wp2_with fail
 go_ret
 exact ⟨rfl,Below.refl _ _⟩
theorem two_21 (a b:Int) (w:World):Calls Tryz.prog 9 #[.int .i64 21,.int .i64 a,.int .i64 b] w fun e w' => e = .returned (.int .i64 (twoV 21 a b))∧Below w.heap.size w w':=by
 show Calls Tryz.prog 9 #[.int .i64 21,.int .i64 a,.int .i64 b] w fun e w' => e = .returned (.int .i64 (trV (decide (a < b))))∧Below w.heap.size w w'
 have HO:Hid (∀ w:World,Calls Tryz.prog 16 #[.bool (decide (a < b))] w fun e w' => e = .returned (.int .i64 (trV (decide (a < b))))∧w'=w):=one_any _
 go_enter Tryz.func9,Tryz.ntmps9
 go_wp2_with fail
 refine (HO.out _).mono ?_
 rintro e w1 ⟨rfl,rfl⟩
 go_wp2_with fail
 go_ret
 exact ⟨rfl,Below.refl _ _⟩
theorem two_22 (a b:Int) (w:World):Calls Tryz.prog 9 #[.int .i64 22,.int .i64 a,.int .i64 b] w fun e w' => e = .returned (.int .i64 (twoV 22 a b))∧Below w.heap.size w w':=by
 show Calls Tryz.prog 9 #[.int .i64 22,.int .i64 a,.int .i64 b] w fun e w' => e = .returned (.int .i64 (trV (decide (IntKind.u64.wrap a < IntKind.u64.wrap b))))∧Below w.heap.size w w'
 have HO:Hid (∀ w:World,Calls Tryz.prog 16 #[.bool (decide (IntKind.u64.wrap a < IntKind.u64.wrap b))] w fun e w' => e = .returned (.int .i64 (trV (decide (IntKind.u64.wrap a < IntKind.u64.wrap b))))∧w'=w):=one_any _
 go_enter Tryz.func9,Tryz.ntmps9
 go_wp2_with fail
 refine (HO.out _).mono ?_
 rintro e w1 ⟨rfl,rfl⟩
 go_wp2_with fail
 go_ret
 exact ⟨rfl,Below.refl _ _⟩
theorem two_any (c:Nat) (hc:isW c) (a b:Int) (w:World):Calls Tryz.prog 9 #[.int .i64 (c:Int),.int .i64 a,.int .i64 b] w fun e w' => e = .returned (.int .i64 (twoV c a b))∧Below w.heap.size w w':=by
 rcases hc with rfl | rfl | rfl | rfl | rfl | rfl | rfl | rfl | rfl | rfl | rfl | rfl | rfl | rfl
 ·exact two_8 a b w
 ·exact two_9 a b w
 ·exact two_10 a b w
 ·exact two_11 a b w
 ·exact two_12 a b w
 ·exact two_13 a b w
 ·exact two_14 a b w
 ·exact two_15 a b w
 ·exact two_17 a b w
 ·exact two_18 a b w
 ·exact two_19 a b w
 ·exact two_20 a b w
 ·exact two_21 a b w
 ·exact two_22 a b w
end Go.Proofs.YtigfjedohdgjfaaGreatDoor.Pj
namespace Go.Proofs.YtigfjedohdgjfaaGreatDoor.Pj
open Go.ChangeShapes Go.WideShapes Go.ChangeAt Go.RowKit
open Tl (Wn wn0 nth numC Nl)
open Tl.Cd (bytesI layN xb okI wdC)
attribute [local go_sem ↓] Go.wp_at_zero Go.wp_at_succ
theorem works_none (code a b:Int) {w:World} (h:code < 8∨22 < code∨code=16) :
  Calls Tryz.prog 3 #[.int .i64 code,.int .i64 a,.int .i64 b] w fun e w' => e = .returned (.bool true)∧Below w.heap.size w w':=by
 by_cases h1:code < 8
 ·go_enter Tryz.func3,Tryz.ntmps3
  go_wp2_with fail
  go_ret
  exact ⟨rfl,Below.refl _ _⟩
 ·by_cases h2:22 < code
  ·go_enter Tryz.func3,Tryz.ntmps3
   go_wp2_with fail
   go_ret
   exact ⟨rfl,Below.refl _ _⟩
  ·obtain rfl:code=16:=by omega
   clear h h1 h2
   go_enter Tryz.func3,Tryz.ntmps3
   go_wp2_with fail
   go_ret
   exact ⟨rfl,Below.refl _ _⟩
set_option maxRecDepth 10000 in
set_option maxHeartbeats 4000000 in
theorem works_some (c:Nat) (hc:isW c) (a b:Int) (wa:(Lit.int .i64 a).wf=true) (wb:(Lit.int .i64 b).wf=true) {w:World} (hT:Tl.Cd.Tab w) :
  Calls Tryz.prog 3 #[.int .i64 (c:Int),.int .i64 a,.int .i64 b] w fun e w' => e = .returned (.bool true)∧Below w.heap.size w w':=by
 have ha:Tl.Sx a:=Tl.sx_of_wf wa
 have hb:Tl.Sx b:=Tl.sx_of_wf wb
 have hc22:8≤c∧c≤22∧c≠16:=by unfold isW at hc; omega
 have HPU:Hid (∀ (v:Int) (w':World),Calls Tryz.prog 6 #[.int .i64 v] w' fun e w'' => e = .returned (.string (strOfNums (bytesI 3 v)))∧Below w'.heap.size w' w''):=fun v w' => pushed_any w' v
 have hu8:IntKind.u8.wrap (c:Int)=(c:Int):=by rw [u8_wrap]; omega
 have HC3:Hid (∀ (W:World) (B:Nat),W.heap[B]? = some (.cells #[.int .u8 (c:Int),.int .u8 29,.int .u8 0] 5 (0,0))→(convert 23 9 (.slice (some ⟨B,0,none⟩) 3 3)).run Tryz.prog W = .ok (.string (strOfNums [(c:Int),29,0])) W):=fun W B h=>conv_lit [(c:Int),29,0] h (by simp)
 have hsa:(strOfNums (bytesI 3 a)).size=9:=by rw [strOfNums_size,Tl.Cd.bytesI_len]; rfl
 have hsb:(strOfNums (bytesI 3 b)).size=9:=by rw [strOfNums_size,Tl.Cd.bytesI_len]; rfl
 have hA2 : ∀ w:World,(Op.stringOp .add (strOfNums (bytesI 3 a)) (strOfNums (bytesI 3 b))).run Tryz.prog w = .ok (.string (strOfNums (bytesI 3 a)++strOfNums (bytesI 3 b))) w:=fun w=>run_string_add_sum (P:=Tryz.prog) w _ _ (by rw [hsa,hsb]; decide)
 have hA3 : ∀ w:World,(Op.stringOp .add (strOfNums (bytesI 3 a)++strOfNums (bytesI 3 b)) (strOfNums [(c:Int),29,0])).run Tryz.prog w = .ok (.string (workB c a b)) w:=fun w=>run_string_add_sum (P:=Tryz.prog) w _ _ (by rw [ByteArray.size_append,hsa,hsb,strOfNums_size]; simp)
 have HTW:Hid (∀ w':World,Calls Tryz.prog 9 #[.int .i64 (c:Int),.int .i64 a,.int .i64 b] w' fun e w'' => e = .returned (.int .i64 (twoV c a b))∧Below w'.heap.size w' w''):=fun w' => two_any c hc a b w'
 have HSM:Hid (∀ w':World,Calls Tryz.prog 8 #[] w' fun e w'' => e = .returned (.agg #[.int .i64 1,.int .i64 2,.int .i64 4,.int .i64 9,.bool false,.int .i64 2,.slice none 0 0])∧Below w'.heap.size w' w''):=small_any
 have HEN:Hid (∀ w':World,Below w.heap.size w w'→Calls Tryz.prog 7 #[.agg #[.int .i64 1,.int .i64 2,.int .i64 4,.int .i64 9,.bool false,.int .i64 2,.slice none 0 0],.string (workB c a b),.slice none 0 0,.int .i64 9] w' fun e w'' => ∃ g cp,e = .returned (.tuple #[.agg #[.int .i64 1,.int .i64 0,.slice (some ⟨g,0,none⟩) 1 cp],.bool true])∧w''.cell? ⟨g,0,none⟩=some (.int .i64 (twoV c a b))∧1≤cp∧Below w'.heap.size w' w''):=fun w' hb2=>work_ends (hT.later hb2) hc ha hb
 have h8 : ¬ (c:Int) < 8:=by omega
 have h22 : ¬ (22:Int) < (c:Int):=by omega
 have h16:((c:Int) == 16)=false:=by
  have : ¬ (c:Int)=16:=by omega
  simpa using this
 clear hT wa wb ha hb hc hc22 hsa hsb
 generalize workB c a b=BB at *
 generalize twoV c a b=zz at *
 generalize strOfNums (bytesI 3 a)++strOfNums (bytesI 3 b)=AB at *
 generalize strOfNums [(c:Int),29,0] = SC at *
 generalize (c:Int)=cc at *
 go_enter Tryz.func3,Tryz.ntmps3
 go_upto_region 3 with fail
 go_cut [7] (fun s wx=>s = .string BB∧Below w.heap.size w wx)
 case first =>
  have hc0:=HC3.out (w.alloc (.cells #[.int .u8 cc,.int .u8 29,.int .u8 0] 5)) w.heap.size (heap_alloc_new _ _)
  have hc1:=HC3.out (w.alloc (.cells #[.int .u8 cc,.int .u8 29,.int .u8 0] 5)).drew w.heap.size (heap_alloc_new _ _)
  go_region_with (first
      | (have hX9:=HB1.out; go_at_call 6; refine (HPU.out _ _).mono ?_; rintro e w2 ⟨rfl,hb2⟩; have hc4:=HC3.out (w2.alloc (.cells #[.int .u8 cc,.int .u8 29,.int .u8 0] 5)) w2.heap.size (heap_alloc_new _ _); (try (have hr2:=row_on (w:=w1.alloc (.cells #[.int .u8 cc,.int .u8 29,.int .u8 0] 5)) (heap_alloc_new w1 _) hb2; have hc5:=HC3.out w2 w1.heap.size hr2)); (try (have hr3:=row_on hr hb2; have hc6:=HC3.out w2 w.heap.size hr3)); have HB2:Hid (Below w.heap.size w w2):=(by first | exact below_then HB1.out hb2 | exact below_then HB1.out (below_then (below_a1 _ _) hb2)))
      | (go_at_call 6; refine (HPU.out _ _).mono ?_; rintro e w1 ⟨rfl,hb1⟩; have hc2:=HC3.out (w1.alloc (.cells #[.int .u8 cc,.int .u8 29,.int .u8 0] 5)) w1.heap.size (heap_alloc_new _ _); (try (have hr:=(show w1.heap[w.heap.size]? = some (.cells #[.int .u8 cc,.int .u8 29,.int .u8 0] 5 (0,0)) by first | exact row_on (w:=w.alloc (.cells #[.int .u8 cc,.int .u8 29,.int .u8 0] 5)) (heap_alloc_new w _) hb1 | exact row_on (w:=(w.alloc (.cells #[.int .u8 cc,.int .u8 29,.int .u8 0] 5)).drew) (heap_alloc_new w _) hb1); have hc3:=HC3.out w1 w.heap.size hr)); have HB1:Hid (Below w.heap.size w w1):=(by first | exact hb1 | exact below_then (below_drawn (Below.refl _ _) 1) hb1 | exact below_then (below_a1 _ _) hb1 | exact below_then (below_a1 _ _).drew hb1)))
  all_goals
   go_wp2_with fail
   go_meet
   first
    | exact ⟨rfl,HB2.out⟩
    | exact ⟨rfl,below_then HB2.out (below_a1 _ _)⟩
    | exact ⟨rfl,below_then HB2.out (below_a1 _ _).drew⟩
    | exact ⟨rfl,below_then HB2.out (below_drawn (Below.refl _ _) _)⟩
 case rest =>
  obtain ⟨rfl,hb⟩:=hcut
  have HB:Hid (Below w.heap.size w wc):=hb
  clear hb HPU HC3 hA2 hA3
  go_wp2_with fail
  refine (HSM.out _).mono ?_
  rintro e w4 ⟨rfl,hb4⟩
  have HB4:Hid (Below w.heap.size w w4):=below_then HB.out hb4
  clear hb4
  go_wp2_with fail
  refine (HEN.out _ HB4.out).mono ?_
  rintro e w5 ⟨g,cp,rfl,hg,hcp,hb5⟩
  have HB5:Hid (Below w.heap.size w w5):=below_then HB4.out hb5
  have hgl:=World.block_lt_of_cell? _ _ hg
  have HG:Hid (w5.cell? ⟨g,0,none⟩=some (.int .i64 zz)∧g < w5.heap.size):=⟨hg,hgl⟩
  clear hb5 hg hgl
  go_wp2_with fail
  refine (HTW.out _).mono ?_
  rintro e w6 ⟨rfl,hb6⟩
  have hO:=row_on (w:=w5.alloc (.cells #[.int .i64 1,.int .i64 0,.slice (some ⟨g,0,none⟩) 1 cp] 27)) (heap_alloc_new w5 _) hb6
  have o1:w6.cell? ⟨w5.heap.size,1,none⟩=some (.int .i64 0):=(cell_at hO 1).trans rfl
  have o2:w6.cell? ⟨w5.heap.size,2,none⟩=some (.slice (some ⟨g,0,none⟩) 1 cp):=(cell_at hO 2).trans rfl
  have hOl:=heap_lt hO
  have hg6:w6.cell? ⟨g,0,none⟩=some (.int .i64 zz):=(hb6.cell (p:=⟨g,0,none⟩) (by have:=HG.out.2; simp; omega)).trans ((World.cell?_alloc_past _ _ _ HG.out.2).trans HG.out.1)
  have hgl:=World.block_lt_of_cell? _ _ hg6
  have HB6:Hid (Below w.heap.size w w6):=below_then HB5.out (below_then (below_a1 _ _) hb6)
  clear hb6 hO
  go_wp2_with fail
  go_ret
  exact ⟨rfl,HB6.out⟩
theorem works_walk (code:Int) (_wc:(Lit.int .i64 code).wf=true) (a:Int) (wa:(Lit.int .i64 a).wf=true) (b:Int) (wb:(Lit.int .i64 b).wf=true) {w:World} (hT:Tl.Cd.Tab w) :
  Calls Tryz.prog 3 #[.int .i64 code,.int .i64 a,.int .i64 b] w fun e w' => e = .returned (.bool true)∧Below w.heap.size w w':=by
 by_cases h:code < 8∨22 < code∨code=16
 ·exact works_none code a b h
 ·obtain ⟨c,rfl⟩ : ∃ c:Nat,code=(c:Int):=⟨code.toNat,by omega⟩
  exact works_some c (by unfold isW; omega) a b wa wb hT
end Go.Proofs.YtigfjedohdgjfaaGreatDoor.Pj
