/-
  PROVED: the law NumTotal answers true at every input, and leaves what it was given as it was.
  CONDITIONS: none.
-/
import Derived.Test.YtcbnmdkjlffogaaRows
import Derived.WalkKit
import Derived.ProofKit
import Derived.OpenShut
import Derived.ShutString
import Derived.ChangeOld
import Derived.Below
import Derived.Test.YtcbnmdkjlffogaaAwake01
import Derived.Test.YtcbnmdkjlffogaaOwn
namespace Go.Proofs.Ytcbnmdkjlffogaa.numTotal
open Go.ChangeShapes Go.WideShapes Go.ChangeAt Go.RowKit
open Go.ChangeMaps (open_string shut_string)
set_option linter.unusedVariables false

theorem own : ownKnob Try.prog.godebug = none := by kernel_rfl
theorem laidOut : laidOutB Try.prog = true := by kernel_rfl

def IsRow (k : IntKind) (w : World) (a : Option Addr) (len cap : Nat) (zs : List Int) : Prop :=
  (a = none ∧ len = 0 ∧ cap = 0 ∧ zs = []) ∨
  ∃ x, a = some x ∧ len ≤ cap ∧ cap ≤ maxLen ∧ zs.length = cap ∧ (∀ i, i < zs.length → w.cell? (x.add i) = some (.int k (zs.getD i 0))) ∧ ∀ n ∈ zs, (Lit.int k n).wf = true

set_option maxHeartbeats 8000000 in
theorem walk (a0 : Option Addr) (len0 cap0 : Nat) (z0 : List Int) (a1 : Int) (w : World) (w0 : IsRow .i64 w a0 len0 cap0 z0) (w1 : (Lit.int .u16 a1).wf = true) :
    Calls Try.prog 6 #[.slice a0 len0 cap0, .int .u16 a1] w fun e w' => e = .returned (.bool true) ∧ Below w.heap.size w w' := by
  have hc1 : 0 ≤ a1 ∧ a1 ≤ 65535 := by simpa [Lit.wf, IntKind.min, IntKind.max, IntKind.signed, IntKind.bits] using w1
  clear w1
  obtain ⟨hxs, hlen, hcap, hmax⟩ := ints_of_row w0
  clear w0
  generalize z0.take len0 = xs at *
  have HL : Hid (xs.length = len0) := Lib.hid hlen
  clear hlen
  unfold maxLen at hmax
  by_cases hbig : 300 < len0
  · go_enter Try.func6, Try.ntmps6
    go_wp2_with ((with_reducible refine (num.awake_any _).mono ?_); rintro e w' ⟨rfl, hg⟩)
    go_ret
    exact ⟨rfl, hg⟩
  obtain ⟨o, ho⟩ : ∃ o, Hid (num.tot 0 xs = o) := ⟨_, Lib.hid rfl⟩
  obtain ⟨kk, hkk, hkl⟩ : ∃ kk : Nat, a1 % ((len0 : Int) + 1) = (kk : Int) ∧ kk ≤ len0 := by
    have q1 := Int.emod_nonneg a1 (show ((len0 : Int) + 1) ≠ 0 by omega)
    have q2 := Int.emod_lt_of_pos a1 (show 0 < ((len0 : Int) + 1) by omega)
    exact ⟨(a1 % ((len0 : Int) + 1)).toNat, by omega, by omega⟩
  obtain ⟨oh, hoh⟩ : ∃ o, Hid (num.tot 0 (xs.take kk) = o) := ⟨_, Lib.hid rfl⟩
  have hht := Lib.hid (hxs.take kk)
  have HLt : Hid ((xs.take kk).length = kk) := Lib.hid (by have := HL.out; simp; omega)
  have hsplit : Hid (o = oh.bind fun r => num.tot r (xs.drop kk)) := Lib.hid (by
    rw [← ho.out, ← hoh.out, ← num.tot_append, List.take_append_drop])
  rcases oh with _ | hd
  · have hon : Hid (num.tot 0 xs = none) := Lib.hid (by rw [ho.out, hsplit.out]; rfl)
    go_enter Try.func6, Try.ntmps6
    go_wp2_with (first
      | ((with_reducible refine (num.awake_any _).mono ?_); rintro e w' ⟨rfl, hg⟩)
      | ((with_reducible refine (num.total_none a0 len0 _ _ xs _ (hxs.below hg) HL.out (by omega) hon.out).mono ?_); rintro e w' ⟨rfl, rfl⟩)
      | ((with_reducible refine (num.total_none a0 kk _ _ (xs.take kk) _ (hht.out.below hg) HLt.out (by omega) hoh.out).mono ?_); rintro e w' ⟨rfl, rfl⟩))
    go_ret
    exact ⟨rfl, hg⟩
  · have hdI : Hid (inI hd) := Lib.hid (num.tot_in 0 _ hd (by unfold inI; omega) hoh.out)
    have hdw : Hid ((Lit.int .i64 hd).wf = true) := Lib.hid (by have := hdI.out; unfold inI at this; exact WalkArith.wf_i64 this)
    have hwhole : Hid (num.tot 0 ([hd] ++ xs.drop kk) = o) := Lib.hid (by
      rw [hsplit.out]
      show (if inI (0 + hd) then num.tot (0 + hd) (xs.drop kk) else none) = num.tot hd (xs.drop kk)
      rw [Int.zero_add, if_pos hdI.out])
    have hlast : Hid (∀ a, (∀ x ∈ xs, 0 ≤ x) → o = some a → hd ≤ a) := Lib.hid (fun a hx h => num.tot_begin xs kk hd a hx hoh.out (by rw [ho.out, h]))
    have hrev : Hid ((∀ x ∈ xs, 0 ≤ x) → num.tot 0 xs.reverse = o) := Lib.hid (fun hx => by rw [num.tot_reverse xs hx, ho.out])
    have hdrop := Lib.hid (hxs.drop kk cap0 (by have := HL.out; omega))
    have HLd : Hid ((xs.drop kk).length = len0 - kk) := Lib.hid (by have := HL.out; simp; omega)
    have hinfo : Hid ((Try.prog.info? 2).map (fun i => (i.zero, i.size, i.bytes)) = some (some (.int .i64 0), 1, 8)) := Lib.hid (by kernel_rfl)
    obtain ⟨AD, hsl, HD⟩ : ∃ AD, (∀ W : World, (Instr.slice 22 (.slice a0 len0 cap0) (some (.int .i64 (kk : Int))) none none).run Try.prog W = .ok (.slice AD (len0 - kk) (cap0 - kk)) W) ∧ Hid (Ints .i64 w w.heap.size AD (xs.drop kk)) :=
      ⟨_, run_cut_from 22 2 1 8 _ Try.underlying22 hinfo.out a0 len0 cap0 kk hkl, Lib.hid (hxs.cut kk cap0 (by have := HL.out; omega))⟩
    clear hdrop
    rcases o with _ | r
    all_goals
      go_enter Try.func6, Try.ntmps6
      go_wp2_with (first
        | ((with_reducible refine (num.awake_any _).mono ?_); rintro e w' ⟨rfl, hg⟩)
        | ((with_reducible refine (num.total_none a0 len0 _ _ xs _ (hxs.below hg) HL.out (by omega) ho.out).mono ?_); rintro e w' ⟨rfl, rfl⟩)
        | ((with_reducible refine (num.total_some a0 len0 _ _ xs _ _ (hxs.below hg) HL.out (by omega) ho.out).mono ?_); rintro e w' ⟨rfl, rfl⟩)
        | ((with_reducible refine (num.total_some a0 kk _ _ (xs.take kk) _ _ (hht.out.below hg) HLt.out (by omega) hoh.out).mono ?_); rintro e w' ⟨rfl, rfl⟩)
        | (at_builtin; refine wpList_append_ints rfl (.tmp 46) (.tmp 49) _ rfl w.heap.size 2 .i64 8 Try.underlying22 hinfo.out rfl (OwnInts.new hg.size [hd] rfl (by have := hdw.out; simpa using this) rfl (by unfold maxLen; omega)) rfl (HD.out.below (hg.alloc hg.size _)) HLd.out (by unfold maxLen; omega) (by omega) (by have := hg.size; simp; omega) ?_; intro A1 c1 w1 hown1 hgr1 hat1; have hb1 : Below w.heap.size w w1 := (hg.alloc hg.size _).grown hgr1 (by have := hg.size; simp; omega) (by intro g hgg; simp [Value.ownBlock] at hgg; have := hg.size; omega); clear hgr1 hat1)
        | ((with_reducible refine (num.total_some A1 _ _ _ ([hd] ++ xs.drop kk) _ _ hown1.ints hown1.len (by omega) hwhole.out).mono ?_); rintro e w' ⟨rfl, rfl⟩)
        | ((with_reducible refine (num.total_none A1 _ _ _ ([hd] ++ xs.drop kk) _ hown1.ints hown1.len (by omega) hwhole.out).mono ?_); rintro e w' ⟨rfl, rfl⟩))
      go_loop [12] (fun i => ∃ k : Nat, k ≤ len0 ∧ i = .int .i64 k ∧ Hid (∀ x ∈ xs.take k, 0 ≤ x)) (fun i => len0 - (intOf i).toNat)
      case atStart => exact ⟨0, Nat.zero_le _, rfl, Lib.hid (by simp)⟩
      case round =>
        obtain ⟨k, hk, rfl, HP⟩ := hrel
        by_cases hlt : k < len0
        · obtain ⟨b, off, x, rfl, _, HX, hc, hw⟩ := (hxs.below hb1).at_ (j := k) (by rw [HL.out]; exact hlt)
          by_cases hx0 : x < 0
          · go_wp2
            go_ret
            exact ⟨rfl, hb1⟩
          · go_wp2
            go_round
            case rel => exact ⟨k + 1, by omega, by go_num, Lib.hid (by
              intro y hy
              rw [List.take_add_one, HX.out] at hy
              rcases List.mem_append.1 hy with h | h
              · exact HP.out y h
              · simp at h; omega)⟩
            case measure => simp [intOf]; omega
        · have HA : Hid (∀ x ∈ xs, 0 ≤ x) := Lib.hid (by
            have := HP.out
            rw [List.take_of_length_le (by rw [HL.out]; omega)] at this
            exact this)
          clear HP
          go_wp2
          go_loopw [13, 14] (fun t i wr => ∃ (z : Int) (k n c : Nat) (A : Option Addr), i = .int .i64 z ∧ t = .slice A n c ∧ Hid (z + 1 = k) ∧ Hid (n + k = len0) ∧ n ≤ len0 ∧ OwnInts wr w.heap.size 2 .i64 A n c (xs.drop k).reverse ∧ Below w.heap.size w wr) (fun _ i _ => (intOf i + 1).toNat)
          case atStart => exact ⟨_, len0, 0, 0, none, rfl, rfl, Lib.hid (by omega), Lib.hid (by omega), by omega, by rw [List.drop_of_length_le (by rw [HL.out]; omega)]; exact OwnInts.nil, hb1⟩
          case round =>
            obtain ⟨z, k2, n, c, A, rfl, rfl, HZ, HN, hn, hown, hbr⟩ := hrel
            rcases k2 with _ | k2
            · obtain rfl : z = -1 := by have := HZ.out; omega
              obtain rfl : n = len0 := by have := HN.out; omega
              have hr := Lib.hid (hrev.out HA.out)
              rw [List.drop_zero] at hown
              first
              | (have hle' : hd ≤ r := hlast.out r HA.out rfl
                 go_wp2_with ((with_reducible refine (num.total_some A _ _ _ xs.reverse _ _ hown.ints hown.len (by omega) hr.out).mono ?_); rintro e w' ⟨rfl, rfl⟩)
                 go_ret
                 exact ⟨rfl, hbr⟩)
              | (go_wp2_with ((with_reducible refine (num.total_none A _ _ _ xs.reverse _ hown.ints hown.len (by omega) hr.out).mono ?_); rintro e w' ⟨rfl, rfl⟩)
                 go_ret
                 exact ⟨rfl, hbr⟩)
            · obtain rfl : z = (k2 : Int) := by have := HZ.out; omega
              have hk2 : k2 < len0 := by have := HN.out; omega
              obtain ⟨b, off, x, rfl, _, HX, hc, hw⟩ := (hxs.below hbr).at_ (j := k2) (by rw [HL.out]; exact hk2)
              have HW := Lib.hid hw
              have hsz := hbr.size
              go_wp2_with (at_builtin; refine wpList_append_ints rfl (.tmp 80) (.tmp 85) _ rfl w.heap.size 2 .i64 8 Try.underlying22 hinfo.out rfl (hown.alloc _) rfl (Ints.new [x] rfl (by have := HW.out; simpa using this)) rfl (by unfold maxLen; omega) (by omega) (by simp; omega) ?_; intro A2 c2 w2 hown2 hgr2 hat2; have hb2 : Below w.heap.size w w2 := (hbr.alloc hbr.size _).grown hgr2 (by simp; omega) (by intro g hgg; exact (hown.block g hgg).1); clear hgr2 hat2)
              go_roundw
              case rel => exact ⟨(k2 : Int) - 1, k2, n + 1, c2, A2, rfl, rfl, Lib.hid (by omega), Lib.hid (by have := HN.out; omega), by have := HN.out; omega, by rw [num.drop_at HX.out, List.reverse_cons]; exact hown2, hb2⟩
              case measure => first | (simp [intOf]; done) | (simp [intOf]; omega)

set_option maxRecDepth 100000 in
theorem lifted (os : Os) (started : os.Started) (H : Type) (enc : TypeId × Value → H) :
    ReturnsInHanded {} Try.checked os 6 .any (Rows.numTotalSpec.pre6 enc Try.prog Try.f6 Rows.numTotalRow.domain false) (Rows.numTotalSpec.post enc Try.prog Try.f6 false true false false) := by
  refine returnsInHanded_of_change (C := Try.checked) own started (by kernel_rfl) Try.func6
    (ChangeSpec.witness6 (enc := enc) (C := Try.checked) false ⟨#[], #[.slice none 0 0, .int .u16 0], []⟩ 8 (by kernel_rfl) (by kernel_rfl) (by kernel_rfl) (by kernel_rfl)) ?_
  intro W base args ds gs before hval0 hW hcnd _
  have hval : ∀ (j : Nat) t v, Try.f6.params[j]? = some t → args[j]? = some v → Value.okWide Try.prog W .any base t v := hval0
  have hW' := hW
  obtain ⟨p, q, hA0, hV, rfl, hfz, hnd⟩ := hW
  have hA : DataW.TrodAll enc Try.prog W 0 (fun _ => true) true Try.f6.params.toList args.toList ds p := hA0
  rw [Try.params6] at hA hval
  obtain ⟨v0, vs0, d0, ds0, p0, q0, hargs, rfl, rfl, h0, r0⟩ := trodAll_cons hA
  obtain ⟨v1, vs1, d1, ds1, p1, q1, rfl, rfl, rfl, h1, r1⟩ := trodAll_cons r0
  obtain ⟨rfl, rfl, rfl⟩ := trodAll_nil r1
  obtain rfl : args = #[v0, v1] := by cases args; simp_all
  obtain ⟨rfl, rfl⟩ := trodVars_none hV
  obtain ⟨a0, len0, cap0, rfl⟩ := okWide_slice Try.underlying22 (hval 0 22 v0 rfl rfl)
  have k0 := h0
  have lt0 : ∀ x ∈ p0, x.block < W.heap.size := by obtain ⟨m, hm⟩ := k0; exact DataW.trod_lt m _ _ _ hm
  obtain ⟨z0, w0⟩ : ∃ zs, IsRow .i64 W a0 len0 cap0 zs := by
    obtain ⟨fuel, hf⟩ := h0
    rcases open_ints Try.underlying22 Try.underlying2 (by kernel_rfl) hf with ⟨hcs, _⟩ | ⟨x, l, c, zs, hcs, _, hl, hm, hz, _, hcell, hwz⟩
    · simp [Value.cells] at hcs
      obtain ⟨rfl, rfl, rfl⟩ := hcs
      exact ⟨[], .inl ⟨rfl, rfl, rfl, rfl⟩⟩
    · simp [Value.cells] at hcs
      obtain ⟨rfl, rfl, rfl⟩ := hcs
      exact ⟨zs, .inr ⟨_, rfl, hl, hm, by simpa using hz, hcell, hwz⟩⟩
  obtain ⟨a1, rfl, rfl, rfl, w1⟩ := open_int Try.underlying35 (hval 1 35 v1 rfl rfl) h1
  clear hA0 hval0
  refine (walk a0 len0 cap0 z0 a1 W w0 w1).mono fun e W' ⟨he, bel⟩ => ?_
  subst he
  exact ⟨_, rfl, _, _, _, [], _, [], hW', trodAll_mk1 (shut_bool Try.underlying4 _), (trodAll_cons_mk (Below.trod laidOut (by kernel_rfl) (of_decide_eq_true (by kernel_rfl)) k0 bel lt0) (trodAll_cons_mk (shut_int Try.underlying35 w1) trodAll_mk0)), rfl, bel.frame _, fun h => by cases h⟩

theorem over : Rows.numTotalRow.holds Try.pinned (OpenSpec.ofChange Rows.numTotalSpec) :=
  OpenClaim.holds_of_wide 6 Try.f6 rfl rfl rfl rfl rfl rfl rfl ⟨rfl, rfl, rfl, rfl, rfl⟩ rfl rfl rfl rfl rfl (by kernel_rfl) Try.func6 (by kernel_rfl)
    (of_decide_eq_true (by kernel_rfl)) (by unfold Func.isWrapper; first | (rw [if_pos (by decide +kernel)]; kernel_rfl) | (rw [if_neg (by decide +kernel)]; exact ⟨rfl, rfl⟩))
    (fun os started H enc _ => lifted os started H enc)

theorem proved : Rows.NumTotalSaid := over
#print axioms proved
end Go.Proofs.Ytcbnmdkjlffogaa.numTotal
