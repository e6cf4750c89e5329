/-
  PROVED: the law CrcBurst answers true at every input, and leaves what it was given as it was.
  CONDITIONS: none.
-/
import Derived.Test.YtlbdgamcofjblaaRows
import Derived.WalkKit
import Derived.ProofKit
import Derived.OpenShut
import Derived.ShutString
import Derived.ChangeOld
import Derived.Below
import Derived.Test.YtlbdgamcofjblaaRead
import Derived.Test.YtlbdgamcofjblaaAwake02
namespace Go.Proofs.Ytlbdgamcofjblaa.crcBurst
open Go.ChangeShapes Go.WideShapes Go.ChangeAt Go.RowKit
open Go.ChangeMaps (open_string shut_string)
set_option linter.unusedVariables false

theorem own : ownKnob Try.prog.godebug = none := by kernel_rfl
theorem laidOut : laidOutB Try.prog = true := by kernel_rfl

set_option maxHeartbeats 8000000 in
theorem walk (p0 : Option Addr) (n0 c0 : Nat) (x0 : List Nat) (a1 : Int) (cs2 : Array Value) (x2 : List (Int)) (w : World) (w0 : rdBytes w (Lt w.heap.size) [.slice p0 n0 c0] x0) (w1 : (Lit.int .u16 a1).wf = true) (w2 : (rdArr (rdInt .u8) 4 1) w (Lt w.heap.size) cs2.toList x2) :
    Calls Try.prog 5 #[.slice p0 n0 c0, .int .u16 a1, .agg cs2] w fun e w' => e = .returned (.bool true) ∧ Below w.heap.size w w' := by
  obtain ⟨A, n, cap, he, hx, hlen, hcap, hmax⟩ := w0
  simp only [List.cons.injEq, Value.slice.injEq, and_true] at he
  obtain ⟨rfl, rfl, rfl⟩ := he
  have hx : Bys w w.heap.size _ _ := ints_in.2 hx
  have HL := Lib.hid hlen
  clear hlen
  unfold maxLen at hmax
  obtain ⟨a, rfl, ha⟩ := nat_of_u16 w1
  obtain ⟨y0, y1, y2, y3, l0, l1, l2, l3, rfl⟩ := arr4_bytes w2
  clear w1 w2
  have hbox : Below w.heap.size w (w.alloc (.cells #[.int .u8 (y0 : Int), .int .u8 (y1 : Int), .int .u8 (y2 : Int), .int .u8 (y3 : Int)] 30)) := (Below.refl _ _).alloc (Nat.le_refl _) _
  by_cases hbig : 2000 < n0
  · go_enter Try.func5, Try.ntmps5
    go_wp2_with ((with_reducible refine (crc.awake_any _).mono ?_); rintro e w' ⟨rfl, hg⟩)
    go_ret
    exact ⟨rfl, hbox.trans (hg.mono hbox.size)⟩
  by_cases hzero : n0 = 0
  · subst hzero
    go_enter Try.func5, Try.ntmps5
    go_wp2_with ((with_reducible refine (crc.awake_any _).mono ?_); rintro e w' ⟨rfl, hg⟩)
    go_ret
    exact ⟨rfl, hbox.trans (hg.mono hbox.size)⟩
  have hnz : ((n0 : Int) == 0) = false := by simp; omega
  obtain ⟨f, hf, hfl⟩ : ∃ f : Nat, (a : Int) % (n0 : Int) = (f : Int) ∧ f < n0 := ⟨a % n0, by simp, Nat.mod_lt _ (by omega)⟩
  have hinfo : Hid ((Try.prog.info? 5).map (fun i => (i.zero, i.size, i.bytes)) = some (some (.int .u8 0), 1, 1)) := Lib.hid (by kernel_rfl)
  obtain ⟨ys, hys⟩ : ∃ ys, Hid ([y0, y1, y2, y3] = ys) := ⟨_, Lib.hid rfl⟩
  have hyl : Hid (ys.length = 4) := Lib.hid (by rw [← hys.out]; rfl)
  have hyb : Hid (∀ y ∈ ys, y < 256) := Lib.hid (by rw [← hys.out]; intro y hy; simp at hy; omega)
  have HB0 : Hid (Bys (w.alloc (.cells #[.int .u8 (y0 : Int), .int .u8 (y1 : Int), .int .u8 (y2 : Int), .int .u8 (y3 : Int)] 30)) (w.heap.size + 1) (some ⟨w.heap.size, 0, none⟩) ys) := Lib.hid (by
    rw [← hys.out]; exact Bys.new _ rfl (by intro y hy; simp at hy; omega))
  have HX0 : Hid (Bys (w.alloc (.cells #[.int .u8 (y0 : Int), .int .u8 (y1 : Int), .int .u8 (y2 : Int), .int .u8 (y3 : Int)] 30)) (w.heap.size + 1) p0 x0) := Lib.hid ((hx.below hbox).more (by omega))
  have hxl : Hid (∀ b ∈ x0, b < 4294967296) := Lib.hid (fun b hb => by have := hx.lt b hb; omega)
  obtain ⟨W0, hW0⟩ : ∃ W0, Hid (w.alloc (.cells #[.int .u8 (y0 : Int), .int .u8 (y1 : Int), .int .u8 (y2 : Int), .int .u8 (y3 : Int)] 30) = W0) := ⟨_, Lib.hid rfl⟩
  have HB : Hid (Bys W0 (w.heap.size + 1) (some ⟨w.heap.size, 0, none⟩) ys) := by rw [← hW0.out]; exact HB0
  have HX : Hid (Bys W0 (w.heap.size + 1) p0 x0) := by rw [← hW0.out]; exact HX0
  have hbox' : Below w.heap.size w W0 := by rw [← hW0.out]; exact hbox
  have hsz : w.heap.size + 1 = W0.heap.size := by rw [← hW0.out]; simp
  have HSZ := Lib.hid hsz
  clear HB0 HX0 hbox hx hsz
  go_enter Try.func5, Try.ntmps5
  go_wp2_with (first
    | ((with_reducible refine (crc.awake_any _).mono ?_); rintro e w' ⟨rfl, hg0⟩; have hg : Below (w.heap.size + 1) W0 w' := (by rw [hW0.out] at hg0; rw [HSZ.out]; exact hg0); clear hg0; have hgs : w.heap.size + 1 ≤ w'.heap.size := (by have := hg.size; rw [← HSZ.out] at this; exact this))
    | (at_builtin; refine wpList_append_bys rfl (.tmp 26) (.tmp 27) _ rfl (w.heap.size + 1) 5 Try.underlying23 hinfo.out rfl (OwnBys.new hgs [] rfl (by simp) rfl (by unfold maxLen; omega)) rfl (HX.out.below (hg.alloc hgs _)) HL.out (by omega) (by simp; omega) ?_; intro A1 c1 w1 hown1 hgr1 hat1; have hb1 : Below (w.heap.size + 1) W0 w1 := (hg.alloc hgs _).grown hgr1 (by simp; omega) (by intro g hgg; simp [Value.ownBlock] at hgg; omega); clear hgr1 hat1; simp only [Nat.zero_add, List.nil_append] at hown1))
  go_loopw [9, 10] (fun ch i wr => ∃ (k : Nat) (b : Bool), k ≤ 4 ∧ f + k ≤ n0 ∧ i = .int .i64 k ∧ ch = .bool b ∧ Hid (b = true ↔ ¬ ∀ y ∈ ys.take k, y = 0) ∧ OwnBys wr (w.heap.size + 1) 5 A1 n0 c1 (crc.turn x0 (crc.amid f k (n0 - f - k) ys)) ∧ Below (w.heap.size + 1) W0 wr) (fun _ i _ => 4 - (intOf i).toNat)
  case atStart => exact ⟨0, false, by omega, by omega, rfl, rfl, Lib.hid (by simp), by rw [crc.amid_zero, show f + (n0 - f - 0) = x0.length by rw [HL.out]; omega, crc.turn_zeros]; exact hown1, hb1⟩
  case round =>
    obtain ⟨k, b, hk, hfk, rfl, rfl, HC, hown, hbr⟩ := hrel
    by_cases hgo : k < 4 ∧ f + k < n0
    · obtain ⟨hk4, hfn⟩ := hgo
      obtain ⟨b1, o1, v1, e1, q1, X1, cell1, lt1⟩ := (HB.out.below hbr).at_ (j := k) (by rw [hyl.out]; exact hk4)
      simp only [Option.some.injEq, Addr.mk.injEq, and_true] at e1
      obtain ⟨rfl, rfl⟩ := e1
      rw [Nat.zero_add] at cell1
      obtain ⟨b2, o2, v2, rfl, q2, X2, cell2, lt2⟩ := (HX.out.below hbr).at_ (j := f + k) (by rw [HL.out]; exact hfn)
      obtain ⟨g, z, rfl, q4, q5, X4, cell4, lt4, fr4⟩ := hown.at_ hfn
      obtain ⟨m, d1, g1, s1⟩ := xor8 v2 v1 lt2 lt1
      have hown2 : OwnBys (wr.setCell ⟨g, f + k, none⟩ (.int .u8 (m : Int))) (w.heap.size + 1) 5 (some ⟨g, 0, none⟩) n0 c1 (crc.turn x0 (crc.amid f (k + 1) (n0 - f - (k + 1)) ys)) := by
        rw [crc.amid_step f k (n0 - f - (k + 1)) v1 ys X1.out, show n0 - f - (k + 1) + 1 = n0 - f - k by omega, crc.turn_set x0 _ _ v2 v1 X2.out, ← g1.out]
        exact hown.stored (f + k) s1
      have hb2 : Below (w.heap.size + 1) W0 (wr.setCell ⟨g, f + k, none⟩ (.int .u8 (m : Int))) := hbr.setCell q4 _
      have HT : Hid (∀ b' : Bool, (b' = true ↔ (b = true ∨ v1 ≠ 0)) → (b' = true ↔ ¬ ∀ y ∈ ys.take (k + 1), y = 0)) := Lib.hid (by
        intro b' hb'
        rw [hb', HC.out, List.take_add_one, X1.out]
        simp only [Option.toList_some, List.mem_append, List.mem_singleton]
        constructor
        · rintro (h | h) hall
          · exact h (fun y hy => hall y (.inl hy))
          · exact h (hall v1 (.inr rfl))
        · intro h
          by_cases hv : v1 = 0
          · left; intro hall; apply h; rintro y (hy | rfl)
            · exact hall y hy
            · exact hv
          · exact .inr hv)
      by_cases hv : v1 = 0
      · have hvb : ((v1 : Int) != 0) = false := by simp; omega
        have HV := Lib.hid hv
        clear hv
        rcases b with _ | _
        all_goals
          go_wp2
          go_region
          go_wp2
          go_roundw
          case rel => exact ⟨k + 1, _, by omega, by omega, by go_num, rfl, Lib.hid (HT.out _ (by have := HV.out; simp [this])), hown2, hb2.drew⟩
          case measure => first | (simp [intOf]; done) | (simp [intOf]; omega)
      · have hvb : ((v1 : Int) != 0) = true := by simp; omega
        have HV := Lib.hid hv
        clear hv
        rcases b with _ | _
        all_goals
          go_wp2
          go_region
          go_wp2
          go_roundw
          case rel => exact ⟨k + 1, _, by omega, by omega, by go_num, rfl, Lib.hid (HT.out _ (by have := HV.out; simp [this])), hown2, hb2.drew⟩
          case measure => first | (simp [intOf]; done) | (simp [intOf]; omega)
    · have hend : k = 4 ∨ (k < 4 ∧ f + k = n0) := by omega
      clear hgo
      obtain ⟨s1, H1⟩ : ∃ v, Hid (crc.more 0 (crc.turn x0 (crc.amid f k (n0 - f - k) ys)) = v) := ⟨_, Lib.hid rfl⟩
      obtain ⟨s2, H2⟩ : ∃ v, Hid (crc.more 0 x0 = v) := ⟨_, Lib.hid rfl⟩
      have heq : ((s1 : Int) == (s2 : Int)) = !b := by
        have h := crc.more_burst x0 (List.replicate f 0) (ys.take k) (List.replicate (n0 - f - k) 0) (by rw [List.length_take]; omega) (fun b hb => List.eq_of_mem_replicate hb) (fun y hy => hyb.out y (List.mem_of_mem_take hy)) (fun b hb => List.eq_of_mem_replicate hb) (by
          have := hyl.out; have := HL.out; simp; omega)
        have h1 : (s1 = s2) ↔ ∀ y ∈ ys.take k, y = 0 := by rw [← H1.out, ← H2.out]; exact h
        have h2 := HC.out
        rcases b with _ | _
        · simp at h2
          simp only [Bool.not_false, beq_iff_eq]
          have := h1.2 h2; omega
        · simp only [Bool.not_true, beq_eq_false_iff_ne, ne_eq]
          intro h3
          exact h2.1 rfl (h1.1 (by omega))
      have hfin : Below w.heap.size w wr := hbox'.trans (hbr.mono (by omega))
      rcases b with _ | _ <;> rcases hend with rfl | ⟨h4, h5⟩
      all_goals
        go_wp2_with (first
          | ((with_reducible refine (crc.sum_is A1 _ _ _ _ s1 _ hown.bys hown.len (by omega) H1.out).mono ?_); rintro e w' ⟨rfl, rfl⟩)
          | ((with_reducible refine (crc.sum_is p0 _ _ _ x0 s2 _ (HX.out.below hbr) HL.out (by omega) H2.out).mono ?_); rintro e w' ⟨rfl, rfl⟩))
        go_ret
        exact ⟨rfl, hfin⟩

set_option maxRecDepth 100000 in
theorem lifted (os : Os) (started : os.Started) (H : Type) (enc : TypeId × Value → H) :
    ReturnsInHanded {} Try.checked os 5 .any (Rows.crcBurstSpec.pre6 enc Try.prog Try.f5 Rows.crcBurstRow.domain false) (Rows.crcBurstSpec.post enc Try.prog Try.f5 false true false false) := by
  refine returnsInHanded_of_change (C := Try.checked) own started (by kernel_rfl) Try.func5
    (ChangeSpec.witness6 (enc := enc) (C := Try.checked) false ⟨#[], #[.slice none 0 0, .int .u16 0, .agg #[.int .u8 0, .int .u8 0, .int .u8 0, .int .u8 0]], []⟩ 8 (by kernel_rfl) (by kernel_rfl) (by kernel_rfl) (by kernel_rfl)) ?_
  intro W base args ds gs before hval0 hW hcnd _
  have hval : ∀ (j : Nat) t v, Try.f5.params[j]? = some t → args[j]? = some v → Value.okWide Try.prog W .any base t v := hval0
  have hW' := hW
  obtain ⟨p, q, hA0, hV, rfl, hfz, hnd⟩ := hW
  have hA : DataW.TrodAll enc Try.prog W 0 (fun _ => true) true Try.f5.params.toList args.toList ds p := hA0
  rw [Try.params5] at hA hval
  obtain ⟨v0, vs0, d0, ds0, p0_, q0, hargs, rfl, rfl, h0, r0⟩ := trodAll_cons hA
  obtain ⟨v1, vs1, d1, ds1, p1_, q1, rfl, rfl, rfl, h1, r1⟩ := trodAll_cons r0
  obtain ⟨v2, vs2, d2, ds2, p2_, q2, rfl, rfl, rfl, h2, r2⟩ := trodAll_cons r1
  obtain ⟨rfl, rfl, rfl⟩ := trodAll_nil r2
  obtain rfl : args = #[v0, v1, v2] := by cases args; simp_all
  obtain ⟨rfl, rfl⟩ := trodVars_none hV
  obtain ⟨p0, n0, c0, rfl⟩ := okWide_slice Try.underlying23 (hval 0 23 v0 rfl rfl)
  have k0 := h0
  have lt0 : ∀ x ∈ p0_, x.block < W.heap.size := by obtain ⟨m, hm⟩ := k0; exact DataW.trod_lt m _ _ _ hm
  obtain ⟨x0, w0⟩ := of_arg (of_bytes Try.underlying23 Try.underlying5 (by kernel_rfl)) k0
  obtain ⟨a1, rfl, rfl, rfl, w1⟩ := open_int Try.underlying29 (hval 1 29 v1 rfl rfl) h1
  obtain ⟨cs2, rfl, hsz2⟩ := okWide_array Try.underlying30 (hval 2 30 v2 rfl rfl)
  have k2 := h2
  have lt2 : ∀ x ∈ p2_, x.block < W.heap.size := by obtain ⟨m, hm⟩ := k2; exact DataW.trod_lt m _ _ _ hm
  obtain ⟨x2, w2⟩ := of_arg (of_arr (n := 4) (size := 1) (of_int Try.underlying5) Try.underlying30 (by kernel_rfl) (by kernel_rfl)) k2
  clear hA0 hval0
  refine (walk p0 n0 c0 x0 a1 cs2 x2 W w0 w1 w2).mono fun e W' ⟨he, bel⟩ => ?_
  subst he
  exact ⟨_, rfl, _, _, _, [], _, [], hW', trodAll_mk1 (shut_bool Try.underlying4 _), (trodAll_cons_mk (Below.trod laidOut (by kernel_rfl) (of_decide_eq_true (by kernel_rfl)) k0 bel lt0) (trodAll_cons_mk (shut_int Try.underlying29 w1) (trodAll_cons_mk (Below.trod laidOut (by kernel_rfl) (of_decide_eq_true (by kernel_rfl)) k2 bel lt2) trodAll_mk0))), rfl, bel.frame _, fun h => by cases h⟩

theorem over : Rows.crcBurstRow.holds Try.pinned (OpenSpec.ofChange Rows.crcBurstSpec) :=
  OpenClaim.holds_of_wide 5 Try.f5 rfl rfl rfl rfl rfl rfl rfl ⟨rfl, rfl, rfl, rfl, rfl⟩ rfl rfl rfl rfl rfl (by kernel_rfl) Try.func5 (by kernel_rfl)
    (of_decide_eq_true (by kernel_rfl)) (by unfold Func.isWrapper; first | (rw [if_pos (by decide +kernel)]; kernel_rfl) | (rw [if_neg (by decide +kernel)]; exact ⟨rfl, rfl⟩))
    (fun os started H enc _ => lifted os started H enc)

theorem proved : Rows.CrcBurstSaid := over
#print axioms proved
end Go.Proofs.Ytlbdgamcofjblaa.crcBurst
