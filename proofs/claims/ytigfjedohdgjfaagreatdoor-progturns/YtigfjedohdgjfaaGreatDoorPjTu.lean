/- ProgTurns: its programs as data, and the walk. -/
import Derived.Test.YtigfjedohdgjfaaGreatDoorPjLf
import Derived.Deep.DeepCutAuto
namespace Go.Proofs.YtigfjedohdgjfaaGreatDoor.Pj
open Go.ChangeShapes Go.WideShapes Go.ChangeAt Go.RowKit
open Tl (Wn wn0 nth numC Nl)
open Tl.Cd (bytesI layN xb okI wdC)
attribute [local go_sem ↓] Go.wp_at_zero Go.wp_at_succ
def turnP (c:Nat) (o v:Int):List (Nat × Int):=[(3,v),(c,o),(29,0)]
def turnB (c:Nat) (o v:Int):ByteArray:=strOfNums (bytesI 3 v)++strOfNums (bytesI c o ++ [29,0])
theorem turn_bs (c:Nat) (o v:Int) (hc:c≤40):Bs (turnB c o v) (bytesP (turnP c o v)++bytesI 0 0):=by
 have e:bytesP (turnP c o v)++bytesI 0 0=bytesI 3 v++(bytesI c o ++ [29,0]):=by
  simp [bytesP,turnP]
  rfl
 rw [e]
 refine bs_app (bs_str _ (Tl.Cd.bytesI_bd (by decide) v)) (bs_str _ (fun x hx => ?_))
 rcases List.mem_append.1 hx with h | h
 ·exact Tl.Cd.bytesI_bd hc o x h
 ·simp at h; omega
theorem turn_seq (c:Nat) (o v:Int) (hc:(c=16∧o=0)∨(c=23∧0≤o∧o≤5)) (hv:Tl.Sx v):Seq (turnB c o v) (turnP c o v):=by
 have h40:c≤40:=by omega
 have hb:=turn_bs c o v h40
 have hw:wdC c≤1:=by rcases hc with ⟨rfl,_⟩ | ⟨rfl,_⟩ <;> decide
 refine ⟨hb, ?_,fun n q hq => ?_⟩
 ·rw [hb.1]
  simp [bytesP,turnP,Tl.Cd.bytesI_len]
  have:wdC 3=8:=rfl
  have:wdC 29=0:=rfl
  have:wdC 0=0:=rfl
  omega
 ·match n,hq with
  | 0,hq =>
   obtain rfl:(3,v)=q:=Option.some.inj hq
   dsimp only
   exact ⟨rfl,⟨by decide,by decide,hv.1,hv.2⟩,by decide,by decide,by decide,fun e=>absurd e (by decide),rfl⟩
  | 1,hq =>
   obtain rfl:(c,o)=q:=Option.some.inj hq
   dsimp only
   rcases hc with ⟨rfl,rfl⟩ | ⟨rfl,h0,h5⟩
   ·exact ⟨rfl,by decide,by decide,by decide,by decide,fun e=>absurd e (by decide),rfl⟩
   ·exact ⟨rfl,⟨by decide,by decide,h0,h5⟩,by decide,by decide,by decide,fun e=>absurd e (by decide),rfl⟩
  | 2,hq =>
   obtain rfl:((29:Nat),(0:Int))=q:=Option.some.inj hq
   dsimp only
   refine ⟨rfl,by decide,by decide,by decide,by decide,fun e=>absurd e (by decide), ?_⟩
   rcases hc with ⟨rfl,rfl⟩ | ⟨rfl,h0,h5⟩ <;> rfl
  | n+3,hq=>cases hq
theorem turn_end16 (B:ByteArray) (v:Int):(stJ B (turnP 16 0 v) 5).tl = [bits .xor .i64 (-1) v] ∧ (stJ B (turnP 16 0 v) 5).err=0∧(stJ B (turnP 16 0 v) 5).nr=1:=⟨rfl,rfl,rfl⟩
theorem turn_end23 (B:ByteArray) (o v:Int):(stJ B (turnP 23 o v) 5).tl = [narV v o] ∧ (stJ B (turnP 23 o v) 5).err=0∧(stJ B (turnP 23 o v) 5).nr=1:=⟨rfl,rfl,rfl⟩
theorem turn_ends {w:World} (hT:Tl.Cd.Tab w) {c:Nat} {o v z:Int} (hs:Seq (turnB c o v) (turnP c o v)) (he:(stJ (turnB c o v) (turnP c o v) 5).tl = [z] ∧ (stJ (turnB c o v) (turnP c o v) 5).err=0∧(stJ (turnB c o v) (turnP c o v) 5).nr=1) (hz:Tl.Sx z) :
  Calls Tryz.prog 7 #[.agg #[.int .i64 1,.int .i64 2,.int .i64 4,.int .i64 9,.bool false,.int .i64 2,.slice none 0 0],.string (turnB c o v),.slice none 0 0,.int .i64 9] w fun e w' => ∃ g cp,e = .returned (.tuple #[.agg #[.int .i64 1,.int .i64 0,.slice (some ⟨g,0,none⟩) 1 cp],.bool true])∧w'.cell? ⟨g,0,none⟩=some (.int .i64 z)∧1≤cp∧Below w.heap.size w w':=by
 obtain ⟨e1,e2,e3⟩:=he
 have hr:=seq_run hs
 have h:=ends_any hT (turnB c o v) hs.cd hr (by show 1≤5; omega) 9 (by show 5≤9; omega) (by omega) (by
    show (stJ (turnB c o v) (turnP c o v) 5).tl.length≤1000∧_
    rw [show (turnP c o v).length+2=5 from rfl,e1]
    exact ⟨by simp,fun x hx=>by simp at hx; subst hx; exact hz⟩)
 rw [show (turnP c o v).length+2=5 from rfl,e1,e2,e3] at h
 refine h.mono ?_
 rintro e w' ⟨u,rfl,h1,_,hb⟩
 have ho:=h1 rfl
 rcases ho.2 with ⟨_,h2⟩ | ⟨g,cap,_,rfl,_,_,h3,_,_⟩
 ·simp at h2
 ·exact ⟨g,cap,rfl,own_cells ho 0 _ rfl,h3,hb⟩
theorem i64_bd (n:Int):Tl.Sx (IntKind.i64.wrap n):=by
 unfold Tl.Sx
 simp [IntKind.wrap,IntKind.signed,IntKind.bits]
 split <;> omega
theorem bits_sx (op:BinOp) (a b:Int):Tl.Sx (bits op .i64 a b):=by unfold bits; exact i64_bd _
theorem nar_sx (k:Nat) (hk:k≤5) (v:Int):Tl.Sx (narV v (k:Int)):=by
 rw [nar_k v k hk]
 have hw : ∀ n,Tl.Sx (wrap64 n):=fun n=>by unfold Tl.Sx wrap64; omega
 have hc:k=0∨k=1∨k=2∨k=3∨k=4∨k=5:=by omega
 rcases hc with rfl | rfl | rfl | rfl | rfl | rfl
 ·exact hw _
 ·exact hw _
 ·exact hw _
 ·simp only [narK]; unfold Tl.Sx; omega
 ·simp only [narK]; unfold Tl.Sx; omega
 ·simp only [narK]; unfold Tl.Sx; omega
set_option maxRecDepth 10000 in
theorem turns_walk16 (kind:Int) (_wk:(Lit.int .i64 kind).wf=true) (v:Int) (wv:(Lit.int .i64 v).wf=true) {w:World} (hT:Tl.Cd.Tab w) (hk:kind < 0∨5 < kind) :
  Calls Tryz.prog 4 #[.int .i64 kind,.int .i64 v] w fun e w' => e = .returned (.bool true)∧Below w.heap.size w w':=by
 have hv:Tl.Sx v:=Tl.sx_of_wf wv
 have HPU:Hid (∀ w':World,Calls Tryz.prog 6 #[.int .i64 v] w' fun e w'' => e = .returned (.string (strOfNums (bytesI 3 v)))∧Below w'.heap.size w' w''):=fun w' => pushed_any w' v
 have HC3:Hid (∀ (W:World) (B:Nat),W.heap[B]? = some (.cells #[.int .u8 16,.int .u8 29,.int .u8 0] 5 (0,0))→(convert 23 9 (.slice (some ⟨B,0,none⟩) 3 3)).run Tryz.prog W = .ok (.string (strOfNums [16,29,0])) W):=fun W B h=>conv_lit [16,29,0] h (by decide)
 have hsz:(strOfNums (bytesI 3 v)).size=9:=by rw [strOfNums_size,Tl.Cd.bytesI_len]; rfl
 have hA3 : ∀ w:World,(Op.stringOp .add (strOfNums (bytesI 3 v)) (strOfNums [16,29,0])).run Tryz.prog w = .ok (.string (turnB 16 0 v)) w:=fun w=>run_string_add_sum (P:=Tryz.prog) w _ _ (by rw [hsz,strOfNums_size]; decide)
 have HTN:Hid (∀ w':World,Calls Tryz.prog 10 #[.agg #[.int .i64 16,.int .i64 0],.int .i64 v] w' fun e w'' => e = .returned (.int .i64 (bits .xor .i64 (-1) v))∧Below w'.heap.size w' w''):=fun w' => turn_not 0 v w'
 have HSM:Hid (∀ w':World,Calls Tryz.prog 8 #[] w' fun e w'' => e = .returned (.agg #[.int .i64 1,.int .i64 2,.int .i64 4,.int .i64 9,.bool false,.int .i64 2,.slice none 0 0])∧Below w'.heap.size w' w''):=small_any
 have HE16:Hid (∀ w':World,Below w.heap.size w w'→Calls Tryz.prog 7 #[.agg #[.int .i64 1,.int .i64 2,.int .i64 4,.int .i64 9,.bool false,.int .i64 2,.slice none 0 0],.string (turnB 16 0 v),.slice none 0 0,.int .i64 9] w' fun e w'' => ∃ g cp,e = .returned (.tuple #[.agg #[.int .i64 1,.int .i64 0,.slice (some ⟨g,0,none⟩) 1 cp],.bool true])∧w''.cell? ⟨g,0,none⟩=some (.int .i64 (bits .xor .i64 (-1) v))∧1≤cp∧Below w'.heap.size w' w''):=fun w' hb=>turn_ends (hT.later hb) (turn_seq 16 0 v (Or.inl ⟨rfl,rfl⟩) hv) (turn_end16 _ v) (bits_sx _ _ _)
 clear hT wv hv
 generalize turnB 16 0 v=B16 at *
 generalize bits .xor .i64 (-1) v=z16 at *
 generalize strOfNums (bytesI 3 v)=A at *
 go_enter Tryz.func4,Tryz.ntmps4
 go_upto_region 1 with fail
 go_cut [5] (fun s wx=>s = .string B16∧Below w.heap.size w wx)
 case first =>
  have hc0:=HC3.out (w.alloc (.cells #[.int .u8 16,.int .u8 29,.int .u8 0] 5)) w.heap.size (heap_alloc_new _ _)
  have hc1:=HC3.out (w.alloc (.cells #[.int .u8 16,.int .u8 29,.int .u8 0] 5)).drew w.heap.size (heap_alloc_new _ _)
  go_region_with (go_at_call 6; refine (HPU.out _).mono ?_; rintro e w1 ⟨rfl,hb1⟩; have hc2:=HC3.out (w1.alloc (.cells #[.int .u8 16,.int .u8 29,.int .u8 0] 5)) w1.heap.size (heap_alloc_new _ _); (try (have hr:=(show w1.heap[w.heap.size]? = some (.cells #[.int .u8 16,.int .u8 29,.int .u8 0] 5 (0,0)) by first | exact row_on (w:=w.alloc (.cells #[.int .u8 16,.int .u8 29,.int .u8 0] 5)) (heap_alloc_new w _) hb1 | exact row_on (w:=(w.alloc (.cells #[.int .u8 16,.int .u8 29,.int .u8 0] 5)).drew) (heap_alloc_new w _) hb1); have hc3:=HC3.out w1 w.heap.size hr)); have HB1:Hid (Below w.heap.size w w1):=(by first | exact hb1 | exact below_then (below_drawn (Below.refl _ _) 1) hb1 | exact below_then (below_a1 _ _) hb1 | exact below_then (below_a1 _ _).drew hb1))
  all_goals
   go_wp2_with fail
   go_meet
   first
    | exact ⟨rfl,HB1.out⟩
    | exact ⟨rfl,below_then HB1.out (below_a1 _ _)⟩
    | exact ⟨rfl,below_then HB1.out (below_a1 _ _).drew⟩
    | exact ⟨rfl,below_then HB1.out (below_drawn (Below.refl _ _) _)⟩
 case rest =>
  obtain ⟨rfl,hb⟩:=hcut
  have HB:Hid (Below w.heap.size w wc):=hb
  clear hb HPU HC3 hA3
  go_wp2_with fail
  refine (HTN.out _).mono ?_
  rintro e w2 ⟨rfl,hb2⟩
  have HB2:Hid (Below w.heap.size w w2):=below_then HB.out hb2
  clear hb2 HB HTN
  rcases hk with hk | hk
  all_goals
   go_wp2_with fail
   refine (HSM.out _).mono ?_
   rintro e w4 ⟨rfl,hb4⟩
   have HB4:Hid (Below w.heap.size w w4):=below_then HB2.out hb4
   clear hb4
   go_wp2_with fail
   refine (HE16.out _ HB4.out).mono ?_
   rintro e w5 ⟨g,cp,rfl,hg,hcp,hb5⟩
   have HB5:Hid (Below w.heap.size w w5):=below_then HB4.out hb5
   have hgl:=World.block_lt_of_cell? _ _ hg
   clear hb5
   go_wp2_with fail
   go_ret
   exact ⟨rfl,below_then HB5.out (below_a1 _ _)⟩
set_option maxRecDepth 10000 in
theorem turns_walk23 (kind:Int) (_wk:(Lit.int .i64 kind).wf=true) (v:Int) (wv:(Lit.int .i64 v).wf=true) {w:World} (hT:Tl.Cd.Tab w) (k:Nat) (hkk:kind=(k:Int)) (hk5:k≤5) :
  Calls Tryz.prog 4 #[.int .i64 kind,.int .i64 v] w fun e w' => e = .returned (.bool true)∧Below w.heap.size w w':=by
 have hv:Tl.Sx v:=Tl.sx_of_wf wv
 have HPU:Hid (∀ w':World,Calls Tryz.prog 6 #[.int .i64 v] w' fun e w'' => e = .returned (.string (strOfNums (bytesI 3 v)))∧Below w'.heap.size w' w''):=fun w' => pushed_any w' v
 have HC3:Hid (∀ (W:World) (B:Nat),W.heap[B]? = some (.cells #[.int .u8 16,.int .u8 29,.int .u8 0] 5 (0,0))→(convert 23 9 (.slice (some ⟨B,0,none⟩) 3 3)).run Tryz.prog W = .ok (.string (strOfNums [16,29,0])) W):=fun W B h=>conv_lit [16,29,0] h (by decide)
 have hsz:(strOfNums (bytesI 3 v)).size=9:=by rw [strOfNums_size,Tl.Cd.bytesI_len]; rfl
 have hA3 : ∀ w:World,(Op.stringOp .add (strOfNums (bytesI 3 v)) (strOfNums [16,29,0])).run Tryz.prog w = .ok (.string (turnB 16 0 v)) w:=fun w=>run_string_add_sum (P:=Tryz.prog) w _ _ (by rw [hsz,strOfNums_size]; decide)
 have HTN:Hid (∀ w':World,Calls Tryz.prog 10 #[.agg #[.int .i64 16,.int .i64 0],.int .i64 v] w' fun e w'' => e = .returned (.int .i64 (bits .xor .i64 (-1) v))∧Below w'.heap.size w' w''):=fun w' => turn_not 0 v w'
 have HSM:Hid (∀ w':World,Calls Tryz.prog 8 #[] w' fun e w'' => e = .returned (.agg #[.int .i64 1,.int .i64 2,.int .i64 4,.int .i64 9,.bool false,.int .i64 2,.slice none 0 0])∧Below w'.heap.size w' w''):=small_any
 have e4:bytesI 23 kind ++ [29,0] = [23,IntKind.u8.wrap kind,29,0]:=by
  rw [u8_wrap]
  show (23:Int) :: layN kind 1 ++ [29,0] = _
  rw [(Tl.Cd.layn kind).1]
  rfl
 have HC4:Hid (∀ (W:World) (B:Nat),W.heap[B]? = some (.cells #[.int .u8 23,.int .u8 (IntKind.u8.wrap kind),.int .u8 29,.int .u8 0] 5 (0,0))→(convert 23 9 (.slice (some ⟨B,0,none⟩) 4 4)).run Tryz.prog W = .ok (.string (strOfNums [23,IntKind.u8.wrap kind,29,0])) W):=fun W B h=>conv_lit [23,IntKind.u8.wrap kind,29,0] h (by simp)
 have hA4 : ∀ w:World,(Op.stringOp .add (strOfNums (bytesI 3 v)) (strOfNums [23,IntKind.u8.wrap kind,29,0])).run Tryz.prog w = .ok (.string (turnB 23 kind v)) w:=fun w=>by
  have:=run_string_add_sum (P:=Tryz.prog) w (strOfNums (bytesI 3 v)) (strOfNums [23,IntKind.u8.wrap kind,29,0]) (by rw [hsz,strOfNums_size]; simp)
  rw [← e4] at this ⊢
  exact this
 have HTC:Hid (∀ w':World,Calls Tryz.prog 10 #[.agg #[.int .i64 23,.int .i64 kind],.int .i64 v] w' fun e w'' => e = .returned (.int .i64 (narV v kind))∧Below w'.heap.size w' w''):=fun w' => by rw [hkk]; exact turn_conv k hk5 v w'
 have hns:Tl.Sx (narV v kind):=by rw [hkk]; exact nar_sx k hk5 v
 have hk0:0≤kind:=by omega
 have hk6:kind≤5:=by omega
 have HE23:Hid (∀ w':World,Below w.heap.size w w'→Calls Tryz.prog 7 #[.agg #[.int .i64 1,.int .i64 2,.int .i64 4,.int .i64 9,.bool false,.int .i64 2,.slice none 0 0],.string (turnB 23 kind v),.slice none 0 0,.int .i64 9] w' fun e w'' => ∃ g cp,e = .returned (.tuple #[.agg #[.int .i64 1,.int .i64 0,.slice (some ⟨g,0,none⟩) 1 cp],.bool true])∧w''.cell? ⟨g,0,none⟩=some (.int .i64 (narV v kind))∧1≤cp∧Below w'.heap.size w' w''):=fun w' hb=>turn_ends (hT.later hb) (turn_seq 23 kind v (Or.inr ⟨rfl,hk0,hk6⟩) hv) (turn_end23 _ kind v) hns
 clear hT wv hv hkk hk5 e4 hns
 generalize turnB 23 kind v=B23 at *
 generalize narV v kind=z23 at *
 generalize turnB 16 0 v=B16 at *
 generalize bits .xor .i64 (-1) v=z16 at *
 generalize strOfNums (bytesI 3 v)=A at *
 go_enter Tryz.func4,Tryz.ntmps4
 go_upto_region 1 with fail
 go_cut [5] (fun s wx=>s = .string B16∧Below w.heap.size w wx)
 case first =>
  have hc0:=HC3.out (w.alloc (.cells #[.int .u8 16,.int .u8 29,.int .u8 0] 5)) w.heap.size (heap_alloc_new _ _)
  have hc1:=HC3.out (w.alloc (.cells #[.int .u8 16,.int .u8 29,.int .u8 0] 5)).drew w.heap.size (heap_alloc_new _ _)
  go_region_with (go_at_call 6; refine (HPU.out _).mono ?_; rintro e w1 ⟨rfl,hb1⟩; have hc2:=HC3.out (w1.alloc (.cells #[.int .u8 16,.int .u8 29,.int .u8 0] 5)) w1.heap.size (heap_alloc_new _ _); (try (have hr:=(show w1.heap[w.heap.size]? = some (.cells #[.int .u8 16,.int .u8 29,.int .u8 0] 5 (0,0)) by first | exact row_on (w:=w.alloc (.cells #[.int .u8 16,.int .u8 29,.int .u8 0] 5)) (heap_alloc_new w _) hb1 | exact row_on (w:=(w.alloc (.cells #[.int .u8 16,.int .u8 29,.int .u8 0] 5)).drew) (heap_alloc_new w _) hb1); have hc3:=HC3.out w1 w.heap.size hr)); have HB1:Hid (Below w.heap.size w w1):=(by first | exact hb1 | exact below_then (below_drawn (Below.refl _ _) 1) hb1 | exact below_then (below_a1 _ _) hb1 | exact below_then (below_a1 _ _).drew hb1))
  all_goals
   go_wp2_with fail
   go_meet
   first
    | exact ⟨rfl,HB1.out⟩
    | exact ⟨rfl,below_then HB1.out (below_a1 _ _)⟩
    | exact ⟨rfl,below_then HB1.out (below_a1 _ _).drew⟩
    | exact ⟨rfl,below_then HB1.out (below_drawn (Below.refl _ _) _)⟩
 case rest =>
  obtain ⟨rfl,hb⟩:=hcut
  have HB:Hid (Below w.heap.size w wc):=hb
  clear hb HC3 hA3
  go_wp2_with fail
  refine (HTN.out _).mono ?_
  rintro e w2 ⟨rfl,hb2⟩
  have HB2:Hid (Below w.heap.size w w2):=below_then HB.out hb2
  clear hb2 HB HTN
  go_upto_region 4 with fail
  go_cut [5] (fun s wx=>s = .string B23∧Below w.heap.size w wx)
  case first =>
   have hc0:=HC4.out (w2.alloc (.cells #[.int .u8 23,.int .u8 (IntKind.u8.wrap kind),.int .u8 29,.int .u8 0] 5)) w2.heap.size (heap_alloc_new _ _)
   have hc1:=HC4.out (w2.alloc (.cells #[.int .u8 23,.int .u8 (IntKind.u8.wrap kind),.int .u8 29,.int .u8 0] 5)).drew w2.heap.size (heap_alloc_new _ _)
   go_region_with (go_at_call 6; refine (HPU.out _).mono ?_; rintro e w3 ⟨rfl,hb3⟩; have hc2:=HC4.out (w3.alloc (.cells #[.int .u8 23,.int .u8 (IntKind.u8.wrap kind),.int .u8 29,.int .u8 0] 5)) w3.heap.size (heap_alloc_new _ _); (try (have hr:=(show w3.heap[w2.heap.size]? = some (.cells #[.int .u8 23,.int .u8 (IntKind.u8.wrap kind),.int .u8 29,.int .u8 0] 5 (0,0)) by first | exact row_on (w:=w2.alloc (.cells #[.int .u8 23,.int .u8 (IntKind.u8.wrap kind),.int .u8 29,.int .u8 0] 5)) (heap_alloc_new w2 _) hb3 | exact row_on (w:=(w2.alloc (.cells #[.int .u8 23,.int .u8 (IntKind.u8.wrap kind),.int .u8 29,.int .u8 0] 5)).drew) (heap_alloc_new w2 _) hb3); have hc3:=HC4.out w3 w2.heap.size hr)); have HB3:Hid (Below w2.heap.size w2 w3):=(by first | exact hb3 | exact below_then (below_drawn (Below.refl _ _) 1) hb3 | exact below_then (below_a1 _ _) hb3 | exact below_then (below_a1 _ _).drew hb3))
   all_goals
    go_wp2_with fail
    go_meet
    first
     | exact ⟨rfl,below_then HB2.out HB3.out⟩
     | exact ⟨rfl,below_then HB2.out (below_then HB3.out (below_a1 _ _))⟩
     | exact ⟨rfl,below_then HB2.out (below_then HB3.out (below_a1 _ _).drew)⟩
     | exact ⟨rfl,below_then HB2.out (below_then HB3.out (below_drawn (Below.refl _ _) _))⟩
  case rest =>
   obtain ⟨rfl,hb⟩:=hcut
   have HB3:Hid (Below w.heap.size w wc):=hb
   clear hb HPU HC4 hA4
   go_wp2_with fail
   refine (HTC.out _).mono ?_
   rintro e w6 ⟨rfl,hb6⟩
   have HB6:Hid (Below w.heap.size w w6):=below_then HB3.out hb6
   clear hb6 HTC
   go_wp2_with fail
   refine (HSM.out _).mono ?_
   rintro e w4 ⟨rfl,hb4⟩
   have HB4:Hid (Below w.heap.size w w4):=below_then HB6.out hb4
   clear hb4
   go_wp2_with fail
   refine (HE23.out _ HB4.out).mono ?_
   rintro e w5 ⟨g,cp,rfl,hg,hcp,hb5⟩
   have HB5:Hid (Below w.heap.size w w5):=below_then HB4.out hb5
   have hgl:=World.block_lt_of_cell? _ _ hg
   clear hb5
   go_wp2_with fail
   go_ret
   exact ⟨rfl,below_then HB5.out (below_a1 _ _)⟩
theorem turns_walk (kind:Int) (wk:(Lit.int .i64 kind).wf=true) (v:Int) (wv:(Lit.int .i64 v).wf=true) {w:World} (hT:Tl.Cd.Tab w) :
  Calls Tryz.prog 4 #[.int .i64 kind,.int .i64 v] w fun e w' => e = .returned (.bool true)∧Below w.heap.size w w':=by
 by_cases h0:kind < 0
 ·exact turns_walk16 kind wk v wv hT (Or.inl h0)
 ·by_cases h5:5 < kind
  ·exact turns_walk16 kind wk v wv hT (Or.inr h5)
  ·exact turns_walk23 kind wk v wv hT kind.toNat (by omega) (by omega)
end Go.Proofs.YtigfjedohdgjfaaGreatDoor.Pj
