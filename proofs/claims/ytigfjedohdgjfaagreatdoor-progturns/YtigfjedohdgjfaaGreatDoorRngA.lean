/- Heads, stamps and slots: what each small function of the program and of the document's answer does. -/
import Derived.Test.YtigfjedohdgjfaaGreatDoorRows
import Derived.Test.YtigfjedohdgjfaaGreatDoorMath
import Derived.Test.YtigfjedohdgjfaaGreatDoorJMemMBegM
import Derived.WalkKit
import Derived.ProofKit
import Derived.OpenShut
import Derived.ShutString
import Derived.WalkSpells
import Derived.WalkLawsBesides
namespace Go.Proofs.YtigfjedohdgjfaaGreatDoor
open Go.ChangeShapes Go.WideShapes Go.ChangeAt Go.RowKit
theorem stamp_any (x:Int) (w:World):Calls Tryz.prog 243 #[.int .i64 x] w fun e w' => e = .returned (.int .i64 (x / 2))∧w'=w:=by
 go_enter Tryz.func243,Tryz.ntmps243
 go_wp2
 go_ret
 exact ⟨rfl,rfl⟩
theorem done_any (x:Int) (w:World):Calls Tryz.prog 244 #[.int .i64 x] w fun e w' => e = .returned (.bool (x % 2 == 1))∧w'=w:=by
 have h1:=and1 x
 go_enter Tryz.func244,Tryz.ntmps244
 go_wp2
 go_ret
 exact ⟨rfl,rfl⟩
theorem isSize_any (s:Int) (w:World):Calls Tryz.prog 227 #[.int .i64 s] w fun e w' => e = .returned (.bool (sizeOk s))∧w'=w:=by
 unfold sizeOk
 by_cases h1:1≤s
 ·have e1:decide (1≤s)=true:=decide_eq_true h1
  clear h1
  go_enter Tryz.func227,Tryz.ntmps227
  go_wp2
  go_ret
  exact ⟨by simp [e1],rfl⟩
 ·have e1:decide (1≤s)=false:=decide_eq_false h1
  clear h1
  go_enter Tryz.func227,Tryz.ntmps227
  go_wp2
  go_ret
  exact ⟨by simp [e1],rfl⟩
theorem slot_any (st s:Int) (w:World):Calls Tryz.prog 213 #[.int .i64 st,.int .i64 s] w fun e w' => e = .returned (.int .i64 (slotV st s))∧w'=w:=by
 unfold slotV
 by_cases hs:sizeOk s=true
 ·have hb:=sizeOk_iff.mp hs
  by_cases ht:st.tmod s < 0
  ·have ⟨_,_,e⟩:=tmod_low st s (by omega) ht
   have hm1:=Int.emod_nonneg st (show s≠0 by omega)
   have hm2:=Int.emod_lt_of_pos st (show 0 < s by omega)
   have HE:Hid (wrap64 (st.tmod s+s)=st % s):=by unfold wrap64; rw [Hid,e]; omega
   have hd:decide (st.tmod s < 0)=true:=decide_eq_true ht
   have hz : ¬ s=0:=by omega
   rw [if_pos hs,← HE.out]
   clear e hm1 hm2 HE ht hb
   go_enter Tryz.func213,Tryz.ntmps213
   go_wp2_with fail
   refine (isSize_any _ _).mono ?_
   rintro e w' ⟨rfl,rfl⟩
   rw [hs]
   go_wp2
   go_ret
   exact ⟨rfl,rfl⟩
  ·have e:=tmod_high st s (by omega) (by omega)
   have hd:decide (st.tmod s < 0)=false:=decide_eq_false ht
   have hz : ¬ s=0:=by omega
   rw [if_pos hs,← e]
   clear e ht hb
   go_enter Tryz.func213,Tryz.ntmps213
   go_wp2_with fail
   refine (isSize_any _ _).mono ?_
   rintro e w' ⟨rfl,rfl⟩
   rw [hs]
   go_wp2
   go_ret
   exact ⟨rfl,rfl⟩
 ·have hs':sizeOk s=false:=by simpa using hs
  rw [if_neg hs]
  clear hs
  go_enter Tryz.func213,Tryz.ntmps213
  go_wp2_with fail
  refine (isSize_any _ _).mono ?_
  rintro e w' ⟨rfl,rfl⟩
  rw [hs']
  go_wp2
  go_ret
  exact ⟨rfl,rfl⟩
theorem laid_any (h st:Int) (w:World):Calls Tryz.prog 241 #[.int .i64 h,.int .i64 st] w fun e w' => e = .returned (.bool (laidV h st))∧w'=w:=by
 go_enter Tryz.func241,Tryz.ntmps241
 go_wp2_with fail
 refine (stamp_any _ _).mono ?_
 rintro e w' ⟨rfl,rfl⟩
 go_wp2
 go_ret
 exact ⟨rfl,rfl⟩
theorem over_any (h st:Int) (w:World):Calls Tryz.prog 237 #[.int .i64 h,.int .i64 st] w fun e w' => e = .returned (.bool (overV h st))∧w'=w:=by
 unfold overV
 cases d1:decide (st < 1)
 ·cases d2:decide (h / 2 > st)
  ·cases d3:laidV h st
   ·go_enter Tryz.func237,Tryz.ntmps237
    go_wp2_with fail
    refine (stamp_any _ _).mono ?_
    rintro e w' ⟨rfl,rfl⟩
    go_wp2_with fail
    refine (laid_any _ _ _).mono ?_
    rintro e w' ⟨rfl,rfl⟩
    rw [d3]
    go_wp2
    go_ret
    exact ⟨rfl,rfl⟩
   ·go_enter Tryz.func237,Tryz.ntmps237
    go_wp2_with fail
    refine (stamp_any _ _).mono ?_
    rintro e w' ⟨rfl,rfl⟩
    go_wp2_with fail
    refine (laid_any _ _ _).mono ?_
    rintro e w' ⟨rfl,rfl⟩
    rw [d3]
    go_wp2_with fail
    refine (done_any _ _).mono ?_
    rintro e w' ⟨rfl,rfl⟩
    go_wp2
    go_ret
    exact ⟨rfl,rfl⟩
  ·go_enter Tryz.func237,Tryz.ntmps237
   go_wp2_with fail
   refine (stamp_any _ _).mono ?_
   rintro e w' ⟨rfl,rfl⟩
   go_wp2
   go_ret
   exact ⟨rfl,rfl⟩
 ·go_enter Tryz.func237,Tryz.ntmps237
  go_wp2
  go_ret
  exact ⟨rfl,rfl⟩
theorem free_any (h st s:Int) (h0 : -9223372036854775808≤st) (h1:st≤9223372036854775807) (w:World):Calls Tryz.prog 295 #[.int .i64 h,.int .i64 st,.int .i64 s] w fun e w' => e = .returned (.bool (freeV h st s))∧w'=w:=by
 unfold freeV
 cases hs:sizeOk s
 ·clear h0 h1
  go_enter Tryz.func295,Tryz.ntmps295
  go_wp2_with fail
  refine (isSize_any _ _).mono ?_
  rintro e w' ⟨rfl,rfl⟩
  rw [hs]
  go_wp2
  go_ret
  exact ⟨rfl,rfl⟩
 ·have hb:=sizeOk_iff.mp hs
  cases d1:decide (st≤s)
  ·have hd : ¬ st≤s:=by simpa using d1
   have HW:Hid (wrap64 (st - s)=st - s):=by unfold wrap64; rw [Hid]; omega
   clear h0 h1 hb hd
   go_enter Tryz.func295,Tryz.ntmps295
   go_wp2_with fail
   refine (isSize_any _ _).mono ?_
   rintro e w' ⟨rfl,rfl⟩
   rw [hs]
   go_wp2_with fail
   refine (over_any _ _ _).mono ?_
   rintro e w' ⟨rfl,rfl⟩
   rw [HW.out]
   go_wp2
   go_ret
   exact ⟨rfl,rfl⟩
  ·clear h0 h1 hb
   go_enter Tryz.func295,Tryz.ntmps295
   go_wp2_with fail
   refine (isSize_any _ _).mono ?_
   rintro e w' ⟨rfl,rfl⟩
   rw [hs]
   go_wp2
   go_ret
   exact ⟨rfl,rfl⟩
