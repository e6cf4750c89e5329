/-
  PROVED: the law CrcTurns answers true at every input, and leaves what it was given as it was.
  CONDITIONS: none.
-/
import Derived.Test.YtlbdgamcofjblaaRows
import Derived.WalkKit
import Derived.ProofKit
import Derived.OpenShut
import Derived.ShutString
import Derived.ChangeOld
import Derived.Below
import Derived.Test.YtlbdgamcofjblaaAwake02
namespace Go.Proofs.Ytlbdgamcofjblaa.crcTurns
open Go.ChangeShapes Go.WideShapes Go.ChangeAt Go.RowKit
open Go.ChangeMaps (open_string shut_string)
set_option linter.unusedVariables false

theorem own : ownKnob Try.prog.godebug = none := by kernel_rfl
theorem laidOut : laidOutB Try.prog = true := by kernel_rfl

def IsRow (k : IntKind) (w : World) (a : Option Addr) (len cap : Nat) (zs : List Int) : Prop :=
  (a = none ∧ len = 0 ∧ cap = 0 ∧ zs = []) ∨
  ∃ x, a = some x ∧ len ≤ cap ∧ cap ≤ maxLen ∧ zs.length = cap ∧ (∀ i, i < zs.length → w.cell? (x.add i) = some (.int k (zs.getD i 0))) ∧ ∀ n ∈ zs, (Lit.int k n).wf = true

set_option maxHeartbeats 8000000 in
theorem walk (a0 : Option Addr) (len0 cap0 : Nat) (z0 : List Int) (a1 : Option Addr) (len1 cap1 : Nat) (z1 : List Int) (a2 : Option Addr) (len2 cap2 : Nat) (z2 : List Int) (w : World) (w0 : IsRow .u8 w a0 len0 cap0 z0) (w1 : IsRow .u8 w a1 len1 cap1 z1) (w2 : IsRow .u8 w a2 len2 cap2 z2) :
    Calls Try.prog 6 #[.slice a0 len0 cap0, .slice a1 len1 cap1, .slice a2 len2 cap2] w fun e w' => e = .returned (.bool true) ∧ Below w.heap.size w w' := by
  obtain ⟨xa, ha, HLa, hcap0, hmax0⟩ := bys_of_row w0
  obtain ⟨yb, hyb, HLb, hcap1, hmax1⟩ := bys_of_row w1
  obtain ⟨yc, hyc, HLc, hcap2, hmax2⟩ := bys_of_row w2
  clear w0 w1 w2
  by_cases hbig : 2000 < len0
  · go_enter Try.func6, Try.ntmps6
    go_wp2_with ((with_reducible refine (crc.awake_any _).mono ?_); rintro e w' ⟨rfl, hg⟩)
    go_ret
    exact ⟨rfl, hg⟩
  by_cases hbig1 : len1 < len0
  · go_enter Try.func6, Try.ntmps6
    go_wp2_with ((with_reducible refine (crc.awake_any _).mono ?_); rintro e w' ⟨rfl, hg⟩)
    go_ret
    exact ⟨rfl, hg⟩
  by_cases hbig2 : len2 < len0
  · go_enter Try.func6, Try.ntmps6
    go_wp2_with ((with_reducible refine (crc.awake_any _).mono ?_); rintro e w' ⟨rfl, hg⟩)
    go_ret
    exact ⟨rfl, hg⟩
  have hb := hyb.take len0
  have hc := hyc.take len0
  have LB : Hid ((yb.take len0).length = len0) := Lib.hid (by have := HLb.out; rw [List.length_take]; omega)
  have LC : Hid ((yc.take len0).length = len0) := Lib.hid (by have := HLc.out; rw [List.length_take]; omega)
  clear HLb HLc hyb hyc
  generalize yb.take len0 = xb at *
  generalize yc.take len0 = xc at *
  obtain ⟨T, HT⟩ : ∃ T, Hid (crc.turn (crc.turn xa xb) xc = T) := ⟨_, Lib.hid rfl⟩
  have hll : Hid (xa.length = xb.length ∧ xb.length = xc.length) := Lib.hid ⟨by rw [HLa.out, LB.out], by rw [LB.out, LC.out]⟩
  have LT : Hid (T.length = xa.length) := Lib.hid (by
    have := hll.out
    rw [← HT.out, crc.turn_len _ _ (by rw [crc.turn_len _ _ this.1]; omega), crc.turn_len _ _ this.1])
  have lta : Hid (∀ b ∈ xa, b < 4294967296) := Lib.hid (fun b hb' => by have := ha.lt b hb'; omega)
  have ltb : Hid (∀ b ∈ xb, b < 4294967296) := Lib.hid (fun b hb' => by have := hb.lt b hb'; omega)
  have ltc : Hid (∀ b ∈ xc, b < 4294967296) := Lib.hid (fun b hb' => by have := hc.lt b hb'; omega)
  obtain ⟨va, Ha⟩ : ∃ v, Hid (crc.more 0 xa = v) := ⟨_, Lib.hid rfl⟩
  obtain ⟨vb, Hb⟩ : ∃ v, Hid (crc.more 0 xb = v) := ⟨_, Lib.hid rfl⟩
  obtain ⟨vc, Hc⟩ : ∃ v, Hid (crc.more 0 xc = v) := ⟨_, Lib.hid rfl⟩
  obtain ⟨vd, Hd⟩ : ∃ v, Hid (crc.more 0 T = v) := ⟨_, Lib.hid rfl⟩
  have hzero : Hid (va ^^^ vb ^^^ vc ^^^ vd = 0) := Lib.hid (by rw [← Ha.out, ← Hb.out, ← Hc.out, ← Hd.out, ← HT.out]; exact crc.more_turns xa xb xc hll.out.1 hll.out.2)
  obtain ⟨m1, e1, h1, l1⟩ := xor32 va vb (by rw [← Ha.out]; exact crc.more_lt xa (by omega) lta.out) (by rw [← Hb.out]; exact crc.more_lt xb (by omega) ltb.out)
  obtain ⟨m2, e2, h2, l2⟩ := xor32 m1 vc l1 (by rw [← Hc.out]; exact crc.more_lt xc (by omega) ltc.out)
  have hm2 : m2 = vd := by
    have := hzero.out
    rw [← h1.out, ← h2.out] at this
    exact crc.xor_eq_zero this
  subst hm2
  have e3 : bits .xor .u32 (m2 : Int) (m2 : Int) = 0 := by rw [u32_xor_nat m2 m2 l2 l2, Nat.xor_self]; rfl
  have hinfo : Hid ((Try.prog.info? 5).map (fun i => (i.zero, i.size, i.bytes)) = some (some (.int .u8 0), 1, 1)) := Lib.hid (by kernel_rfl)
  go_enter Try.func6, Try.ntmps6
  go_wp2_with (first
    | ((with_reducible refine (crc.awake_any _).mono ?_); rintro e w' ⟨rfl, hg⟩)
    | (at_builtin; refine wpList_append_bys rfl (.tmp 28) (.tmp 29) _ rfl w.heap.size 5 Try.underlying23 hinfo.out rfl (OwnBys.new hg.size [] rfl (by simp) rfl (by unfold maxLen; omega)) rfl (ha.below (hg.alloc hg.size _)) HLa.out (by omega) (by have := hg.size; simp; omega) ?_; intro A1 c1 w1 hown1 hgr1 hat1; have hb1 : Below w.heap.size w w1 := (hg.alloc hg.size _).grown hgr1 (by have := hg.size; simp; omega) (by intro g hgg; simp [Value.ownBlock] at hgg; have := hg.size; omega); clear hgr1 hat1; simp only [Nat.zero_add, List.nil_append] at hown1))
  go_loopw [8] (fun i wr => ∃ k : Nat, k ≤ len0 ∧ i = .int .i64 k ∧ OwnBys wr w.heap.size 5 A1 len0 c1 (T.take k ++ xa.drop k) ∧ Below w.heap.size w wr) (fun i _ => len0 - (intOf i).toNat)
  case atStart => exact ⟨0, Nat.zero_le _, rfl, by simpa using hown1, hb1⟩
  case round =>
    obtain ⟨k, hk, rfl, hown, hbr⟩ := hrel
    by_cases hlt : k < len0
    · obtain ⟨b1, o1, c1', rfl, q1, X1, cell1, lt1⟩ := (ha.below hbr).at_ (j := k) (by rw [HLa.out]; exact hlt)
      obtain ⟨b2, o2, c2', rfl, q2, X2, cell2, lt2⟩ := (hb.below hbr).at_ (j := k) (by rw [LB.out]; exact hlt)
      obtain ⟨b3, o3, c3', rfl, q3, X3, cell3, lt3⟩ := (hc.below hbr).at_ (j := k) (by rw [LC.out]; exact hlt)
      obtain ⟨g, y, rfl, q4, q5, X4, cell4, lt4, fr4⟩ := hown.at_ hlt
      obtain ⟨n1, d1, g1, s1⟩ := xor8 c1' c2' lt1 lt2
      obtain ⟨n2, d2, g2, s2⟩ := xor8 n1 c3' s1 lt3
      go_wp2
      have XT : Hid (T[k]? = some n2) := Lib.hid (by rw [← HT.out, g2.out, g1.out]; exact crc.turn_at (crc.turn_at X1.out X2.out) X3.out)
      have hown2 : OwnBys (wr.setCell ⟨g, k, none⟩ (.int .u8 (n2 : Int))) w.heap.size 5 (some ⟨g, 0, none⟩) len0 c1 (T.take (k + 1) ++ xa.drop (k + 1)) := by
        rw [← crc.mix_set T xa k n2 LT.out XT.out]; exact hown.stored k s2
      have hb2 : Below w.heap.size w (wr.setCell ⟨g, k, none⟩ (.int .u8 (n2 : Int))) := hbr.setCell q4 _
      go_region
      go_wp2
      go_roundw
      case rel => exact ⟨k + 1, by omega, by go_num, hown2, hb2.drew⟩
      case measure => first | (simp [intOf]; done) | (simp [intOf]; omega)
    · have HX : Hid (T.take k ++ xa.drop k = T) := Lib.hid (by
        rw [List.take_of_length_le (by rw [LT.out, HLa.out]; omega), List.drop_of_length_le (by rw [HLa.out]; omega), List.append_nil])
      have hown' : OwnBys wr w.heap.size 5 A1 len0 c1 T := by rw [← HX.out]; exact hown
      clear hown
      go_wp2
      go_quiet ((first
        | (go_at_call 8; with_reducible exact quietL (crc.sum_is a0 _ _ _ xa va _ ((ha.below hbr).drewN _) HLa.out (by omega) Ha.out))
        | (go_at_call 8; with_reducible exact quietL (crc.sum_is a1 _ _ _ xb vb _ ((hb.below hbr).drewN _) LB.out (by omega) Hb.out))
        | (go_at_call 8; with_reducible exact quietL (crc.sum_is a2 _ _ _ xc vc _ ((hc.below hbr).drewN _) LC.out (by omega) Hc.out))
        | (go_at_call 8; with_reducible exact quietL (crc.sum_is A1 _ _ _ T m2 _ (hown'.bys.drewN _) hown'.len (by omega) Hd.out))))
      go_wp2
      go_ret
      exact ⟨rfl, below_drewN hbr _⟩


set_option maxRecDepth 100000 in
theorem lifted (os : Os) (started : os.Started) (H : Type) (enc : TypeId × Value → H) :
    ReturnsInHanded {} Try.checked os 6 .any (Rows.crcTurnsSpec.pre6 enc Try.prog Try.f6 Rows.crcTurnsRow.domain false) (Rows.crcTurnsSpec.post enc Try.prog Try.f6 false true false false) := by
  refine returnsInHanded_of_change (C := Try.checked) own started (by kernel_rfl) Try.func6
    (ChangeSpec.witness6 (enc := enc) (C := Try.checked) false ⟨#[], #[.slice none 0 0, .slice none 0 0, .slice none 0 0], []⟩ 8 (by kernel_rfl) (by kernel_rfl) (by kernel_rfl) (by kernel_rfl)) ?_
  intro W base args ds gs before hval0 hW hcnd _
  have hval : ∀ (j : Nat) t v, Try.f6.params[j]? = some t → args[j]? = some v → Value.okWide Try.prog W .any base t v := hval0
  have hW' := hW
  obtain ⟨p, q, hA0, hV, rfl, hfz, hnd⟩ := hW
  have hA : DataW.TrodAll enc Try.prog W 0 (fun _ => true) true Try.f6.params.toList args.toList ds p := hA0
  rw [Try.params6] at hA hval
  obtain ⟨v0, vs0, d0, ds0, p0, q0, hargs, rfl, rfl, h0, r0⟩ := trodAll_cons hA
  obtain ⟨v1, vs1, d1, ds1, p1, q1, rfl, rfl, rfl, h1, r1⟩ := trodAll_cons r0
  obtain ⟨v2, vs2, d2, ds2, p2, q2, rfl, rfl, rfl, h2, r2⟩ := trodAll_cons r1
  obtain ⟨rfl, rfl, rfl⟩ := trodAll_nil r2
  obtain rfl : args = #[v0, v1, v2] := by cases args; simp_all
  obtain ⟨rfl, rfl⟩ := trodVars_none hV
  obtain ⟨a0, len0, cap0, rfl⟩ := okWide_slice Try.underlying23 (hval 0 23 v0 rfl rfl)
  have k0 := h0
  have lt0 : ∀ x ∈ p0, x.block < W.heap.size := by obtain ⟨m, hm⟩ := k0; exact DataW.trod_lt m _ _ _ hm
  obtain ⟨z0, w0⟩ : ∃ zs, IsRow .u8 W a0 len0 cap0 zs := by
    obtain ⟨fuel, hf⟩ := h0
    rcases open_ints Try.underlying23 Try.underlying5 (by kernel_rfl) hf with ⟨hcs, _⟩ | ⟨x, l, c, zs, hcs, _, hl, hm, hz, _, hcell, hwz⟩
    · simp [Value.cells] at hcs
      obtain ⟨rfl, rfl, rfl⟩ := hcs
      exact ⟨[], .inl ⟨rfl, rfl, rfl, rfl⟩⟩
    · simp [Value.cells] at hcs
      obtain ⟨rfl, rfl, rfl⟩ := hcs
      exact ⟨zs, .inr ⟨_, rfl, hl, hm, by simpa using hz, hcell, hwz⟩⟩
  obtain ⟨a1, len1, cap1, rfl⟩ := okWide_slice Try.underlying23 (hval 1 23 v1 rfl rfl)
  have k1 := h1
  have lt1 : ∀ x ∈ p1, x.block < W.heap.size := by obtain ⟨m, hm⟩ := k1; exact DataW.trod_lt m _ _ _ hm
  obtain ⟨z1, w1⟩ : ∃ zs, IsRow .u8 W a1 len1 cap1 zs := by
    obtain ⟨fuel, hf⟩ := h1
    rcases open_ints Try.underlying23 Try.underlying5 (by kernel_rfl) hf with ⟨hcs, _⟩ | ⟨x, l, c, zs, hcs, _, hl, hm, hz, _, hcell, hwz⟩
    · simp [Value.cells] at hcs
      obtain ⟨rfl, rfl, rfl⟩ := hcs
      exact ⟨[], .inl ⟨rfl, rfl, rfl, rfl⟩⟩
    · simp [Value.cells] at hcs
      obtain ⟨rfl, rfl, rfl⟩ := hcs
      exact ⟨zs, .inr ⟨_, rfl, hl, hm, by simpa using hz, hcell, hwz⟩⟩
  obtain ⟨a2, len2, cap2, rfl⟩ := okWide_slice Try.underlying23 (hval 2 23 v2 rfl rfl)
  have k2 := h2
  have lt2 : ∀ x ∈ p2, x.block < W.heap.size := by obtain ⟨m, hm⟩ := k2; exact DataW.trod_lt m _ _ _ hm
  obtain ⟨z2, w2⟩ : ∃ zs, IsRow .u8 W a2 len2 cap2 zs := by
    obtain ⟨fuel, hf⟩ := h2
    rcases open_ints Try.underlying23 Try.underlying5 (by kernel_rfl) hf with ⟨hcs, _⟩ | ⟨x, l, c, zs, hcs, _, hl, hm, hz, _, hcell, hwz⟩
    · simp [Value.cells] at hcs
      obtain ⟨rfl, rfl, rfl⟩ := hcs
      exact ⟨[], .inl ⟨rfl, rfl, rfl, rfl⟩⟩
    · simp [Value.cells] at hcs
      obtain ⟨rfl, rfl, rfl⟩ := hcs
      exact ⟨zs, .inr ⟨_, rfl, hl, hm, by simpa using hz, hcell, hwz⟩⟩
  clear hA0 hval0
  refine (walk a0 len0 cap0 z0 a1 len1 cap1 z1 a2 len2 cap2 z2 W w0 w1 w2).mono fun e W' ⟨he, bel⟩ => ?_
  subst he
  exact ⟨_, rfl, _, _, _, [], _, [], hW', trodAll_mk1 (shut_bool Try.underlying4 _), (trodAll_cons_mk (Below.trod laidOut (by kernel_rfl) (of_decide_eq_true (by kernel_rfl)) k0 bel lt0) (trodAll_cons_mk (Below.trod laidOut (by kernel_rfl) (of_decide_eq_true (by kernel_rfl)) k1 bel lt1) (trodAll_cons_mk (Below.trod laidOut (by kernel_rfl) (of_decide_eq_true (by kernel_rfl)) k2 bel lt2) trodAll_mk0))), rfl, bel.frame _, fun h => by cases h⟩

theorem over : Rows.crcTurnsRow.holds Try.pinned (OpenSpec.ofChange Rows.crcTurnsSpec) :=
  OpenClaim.holds_of_wide 6 Try.f6 rfl rfl rfl rfl rfl rfl rfl ⟨rfl, rfl, rfl, rfl, rfl⟩ rfl rfl rfl rfl rfl (by kernel_rfl) Try.func6 (by kernel_rfl)
    (of_decide_eq_true (by kernel_rfl)) (by unfold Func.isWrapper; first | (rw [if_pos (by decide +kernel)]; kernel_rfl) | (rw [if_neg (by decide +kernel)]; exact ⟨rfl, rfl⟩))
    (fun os started H enc _ => lifted os started H enc)

theorem proved : Rows.CrcTurnsSaid := over
#print axioms proved
end Go.Proofs.Ytlbdgamcofjblaa.crcTurns
