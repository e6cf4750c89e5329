/-
  PROVED: the law CrcParts answers true at every input, and leaves what it was given as it was.
  CONDITIONS: none.
-/
import Derived.Test.YtlbdgamcofjblaaRows
import Derived.WalkKit
import Derived.ProofKit
import Derived.OpenShut
import Derived.ShutString
import Derived.ChangeOld
import Derived.Below
import Derived.Test.YtlbdgamcofjblaaAwake02
namespace Go.Proofs.Ytlbdgamcofjblaa.crcParts
open Go.ChangeShapes Go.WideShapes Go.ChangeAt Go.RowKit
open Go.ChangeMaps (open_string shut_string)
set_option linter.unusedVariables false

theorem own : ownKnob Try.prog.godebug = none := by kernel_rfl
theorem laidOut : laidOutB Try.prog = true := by kernel_rfl

def IsRow (k : IntKind) (w : World) (a : Option Addr) (len cap : Nat) (zs : List Int) : Prop :=
  (a = none ∧ len = 0 ∧ cap = 0 ∧ zs = []) ∨
  ∃ x, a = some x ∧ len ≤ cap ∧ cap ≤ maxLen ∧ zs.length = cap ∧ (∀ i, i < zs.length → w.cell? (x.add i) = some (.int k (zs.getD i 0))) ∧ ∀ n ∈ zs, (Lit.int k n).wf = true

set_option maxHeartbeats 8000000 in
theorem walk (a0 : Int) (a1 : Int) (a2 : Option Addr) (len2 cap2 : Nat) (z2 : List Int) (a3 : Option Addr) (len3 cap3 : Nat) (z3 : List Int) (w : World) (w0 : (Lit.int .u32 a0).wf = true) (w1 : (Lit.int .u32 a1).wf = true) (w2 : IsRow .u8 w a2 len2 cap2 z2) (w3 : IsRow .u8 w a3 len3 cap3 z3) :
    Calls Try.prog 4 #[.int .u32 a0, .int .u32 a1, .slice a2 len2 cap2, .slice a3 len3 cap3] w fun e w' => e = .returned (.bool true) ∧ Below w.heap.size w w' := by
  obtain ⟨s, rfl, hs⟩ := nat_of_u32 w0
  obtain ⟨t, rfl, ht⟩ := nat_of_u32 w1
  clear w0 w1
  obtain ⟨xa, ha, HLa, hcap2, hmax2⟩ := bys_of_row w2
  obtain ⟨xb, hb, HLb, hcap3, hmax3⟩ := bys_of_row w3
  clear w2 w3
  by_cases hbig : 2000 < len2
  · go_enter Try.func4, Try.ntmps4
    go_wp2_with ((with_reducible refine (crc.awake_any _).mono ?_); rintro e w' ⟨rfl, hg⟩)
    go_ret
    exact ⟨rfl, hg⟩
  by_cases hbig3 : 2000 < len3
  · go_enter Try.func4, Try.ntmps4
    go_wp2_with ((with_reducible refine (crc.awake_any _).mono ?_); rintro e w' ⟨rfl, hg⟩)
    go_ret
    exact ⟨rfl, hg⟩
  have la : Hid (∀ b ∈ xa, b < 4294967296) := Lib.hid (fun b hb => by have := ha.lt b hb; omega)
  have lb : Hid (∀ b ∈ xb, b < 4294967296) := Lib.hid (fun c hc => by have := hb.lt c hc; omega)
  obtain ⟨va, Ha⟩ : ∃ v, Hid (crc.more 0 xa = v) := ⟨_, Lib.hid rfl⟩
  obtain ⟨v1, H1⟩ : ∃ v, Hid (crc.more va xb = v) := ⟨_, Lib.hid rfl⟩
  obtain ⟨vs, Hs⟩ : ∃ v, Hid (crc.more s xa = v) := ⟨_, Lib.hid rfl⟩
  obtain ⟨vt, Ht⟩ : ∃ v, Hid (crc.more t xa = v) := ⟨_, Lib.hid rfl⟩
  obtain ⟨v2, H2⟩ : ∃ v, Hid (crc.more vs xb = v) := ⟨_, Lib.hid rfl⟩
  have H1' : Hid (crc.more 0 (xa ++ xb) = v1) := Lib.hid (by rw [crc.more_append, Ha.out, H1.out])
  have H2' : Hid (crc.more s (xa ++ xb) = v2) := Lib.hid (by rw [crc.more_append, Hs.out, H2.out])
  have lva : va < 4294967296 := by rw [← Ha.out]; exact crc.more_lt xa (by omega) la.out
  have lvs : vs < 4294967296 := by rw [← Hs.out]; exact crc.more_lt xa hs la.out
  have hinj : ((vs : Int) == (vt : Int)) = ((s : Int) == (t : Int)) := by
    rw [Bool.eq_iff_iff, beq_iff_eq, beq_iff_eq]
    constructor
    · intro h
      have : vs = vt := by omega
      rw [crc.more_inj xa la.out hs ht (by rw [Hs.out, Ht.out, this])]
    · intro h
      have : s = t := by omega
      rw [← Hs.out, ← Ht.out, this]
  have hinfo : Hid ((Try.prog.info? 5).map (fun i => (i.zero, i.size, i.bytes)) = some (some (.int .u8 0), 1, 1)) := Lib.hid (by kernel_rfl)
  go_enter Try.func4, Try.ntmps4
  go_wp2_with (first
    | ((with_reducible refine (crc.awake_any _).mono ?_); rintro e w' ⟨rfl, hg⟩)
    | (at_builtin; refine wpList_append_bys rfl (.tmp 20) (.tmp 21) _ rfl w.heap.size 5 Try.underlying23 hinfo.out rfl (OwnBys.new hg.size [] rfl (by simp) rfl (by unfold maxLen; omega)) rfl (ha.below (hg.alloc hg.size _)) HLa.out (by omega) (by have := hg.size; simp; omega) ?_; intro A1 c1 w1 hown1 hgr1 hat1; have hb1 : Below w.heap.size w w1 := (hg.alloc hg.size _).grown hgr1 (by have := hg.size; simp; omega) (by intro g hgg; simp [Value.ownBlock] at hgg; have := hg.size; omega); clear hgr1 hat1; simp only [Nat.zero_add, List.nil_append] at hown1)
    | (at_builtin; refine wpList_append_bys rfl (.tmp 22) (.tmp 23) _ rfl w.heap.size 5 Try.underlying23 hinfo.out rfl hown1 rfl (hb.below hb1) HLb.out (by omega) hb1.size ?_; intro A2 c2 w2 hown2 hgr2 hat2; have hb2 : Below w.heap.size w w2 := hb1.grown hgr2 hb1.size (fun g hgg => (hown1.block g hgg).1); clear hgr2 hat2)
    | ((with_reducible refine (crc.sum_is A2 _ _ _ (xa ++ xb) v1 _ hown2.bys hown2.len (by omega) H1'.out).mono ?_); rintro e w' ⟨rfl, rfl⟩)
    | ((with_reducible refine (crc.sum_is a2 _ _ _ xa va _ (ha.below hb2) HLa.out (by omega) Ha.out).mono ?_); rintro e w' ⟨rfl, rfl⟩)
    | ((with_reducible refine (crc.more_is va a3 _ _ _ xb v1 _ lva (hb.below hb2) HLb.out (by omega) H1.out).mono ?_); rintro e w' ⟨rfl, rfl⟩)
    | ((with_reducible refine (crc.more_is s A2 _ _ _ (xa ++ xb) v2 _ hs hown2.bys hown2.len (by omega) H2'.out).mono ?_); rintro e w' ⟨rfl, rfl⟩)
    | ((with_reducible refine (crc.more_is s a2 _ _ _ xa vs _ hs (ha.below hb2) HLa.out (by omega) Hs.out).mono ?_); rintro e w' ⟨rfl, rfl⟩)
    | ((with_reducible refine (crc.more_is t a2 _ _ _ xa vt _ ht (ha.below hb2) HLa.out (by omega) Ht.out).mono ?_); rintro e w' ⟨rfl, rfl⟩)
    | ((with_reducible refine (crc.more_is vs a3 _ _ _ xb v2 _ lvs (hb.below hb2) HLb.out (by omega) H2.out).mono ?_); rintro e w' ⟨rfl, rfl⟩)
    | ((with_reducible refine (crc.more_is s none 0 0 0 [] s _ hs (Bys.nil _ _ _) rfl (by omega) (crc.more_nil s)).mono ?_); rintro e w' ⟨rfl, rfl⟩))
  go_ret
  exact ⟨rfl, hb2⟩


set_option maxRecDepth 100000 in
theorem lifted (os : Os) (started : os.Started) (H : Type) (enc : TypeId × Value → H) :
    ReturnsInHanded {} Try.checked os 4 .any (Rows.crcPartsSpec.pre6 enc Try.prog Try.f4 Rows.crcPartsRow.domain false) (Rows.crcPartsSpec.post enc Try.prog Try.f4 false true false false) := by
  refine returnsInHanded_of_change (C := Try.checked) own started (by kernel_rfl) Try.func4
    (ChangeSpec.witness6 (enc := enc) (C := Try.checked) false ⟨#[], #[.int .u32 0, .int .u32 0, .slice none 0 0, .slice none 0 0], []⟩ 8 (by kernel_rfl) (by kernel_rfl) (by kernel_rfl) (by kernel_rfl)) ?_
  intro W base args ds gs before hval0 hW hcnd _
  have hval : ∀ (j : Nat) t v, Try.f4.params[j]? = some t → args[j]? = some v → Value.okWide Try.prog W .any base t v := hval0
  have hW' := hW
  obtain ⟨p, q, hA0, hV, rfl, hfz, hnd⟩ := hW
  have hA : DataW.TrodAll enc Try.prog W 0 (fun _ => true) true Try.f4.params.toList args.toList ds p := hA0
  rw [Try.params4] at hA hval
  obtain ⟨v0, vs0, d0, ds0, p0, q0, hargs, rfl, rfl, h0, r0⟩ := trodAll_cons hA
  obtain ⟨v1, vs1, d1, ds1, p1, q1, rfl, rfl, rfl, h1, r1⟩ := trodAll_cons r0
  obtain ⟨v2, vs2, d2, ds2, p2, q2, rfl, rfl, rfl, h2, r2⟩ := trodAll_cons r1
  obtain ⟨v3, vs3, d3, ds3, p3, q3, rfl, rfl, rfl, h3, r3⟩ := trodAll_cons r2
  obtain ⟨rfl, rfl, rfl⟩ := trodAll_nil r3
  obtain rfl : args = #[v0, v1, v2, v3] := by cases args; simp_all
  obtain ⟨rfl, rfl⟩ := trodVars_none hV
  obtain ⟨a0, rfl, rfl, rfl, w0⟩ := open_int Try.underlying22 (hval 0 22 v0 rfl rfl) h0
  obtain ⟨a1, rfl, rfl, rfl, w1⟩ := open_int Try.underlying22 (hval 1 22 v1 rfl rfl) h1
  obtain ⟨a2, len2, cap2, rfl⟩ := okWide_slice Try.underlying23 (hval 2 23 v2 rfl rfl)
  have k2 := h2
  have lt2 : ∀ x ∈ p2, x.block < W.heap.size := by obtain ⟨m, hm⟩ := k2; exact DataW.trod_lt m _ _ _ hm
  obtain ⟨z2, w2⟩ : ∃ zs, IsRow .u8 W a2 len2 cap2 zs := by
    obtain ⟨fuel, hf⟩ := h2
    rcases open_ints Try.underlying23 Try.underlying5 (by kernel_rfl) hf with ⟨hcs, _⟩ | ⟨x, l, c, zs, hcs, _, hl, hm, hz, _, hcell, hwz⟩
    · simp [Value.cells] at hcs
      obtain ⟨rfl, rfl, rfl⟩ := hcs
      exact ⟨[], .inl ⟨rfl, rfl, rfl, rfl⟩⟩
    · simp [Value.cells] at hcs
      obtain ⟨rfl, rfl, rfl⟩ := hcs
      exact ⟨zs, .inr ⟨_, rfl, hl, hm, by simpa using hz, hcell, hwz⟩⟩
  obtain ⟨a3, len3, cap3, rfl⟩ := okWide_slice Try.underlying23 (hval 3 23 v3 rfl rfl)
  have k3 := h3
  have lt3 : ∀ x ∈ p3, x.block < W.heap.size := by obtain ⟨m, hm⟩ := k3; exact DataW.trod_lt m _ _ _ hm
  obtain ⟨z3, w3⟩ : ∃ zs, IsRow .u8 W a3 len3 cap3 zs := by
    obtain ⟨fuel, hf⟩ := h3
    rcases open_ints Try.underlying23 Try.underlying5 (by kernel_rfl) hf with ⟨hcs, _⟩ | ⟨x, l, c, zs, hcs, _, hl, hm, hz, _, hcell, hwz⟩
    · simp [Value.cells] at hcs
      obtain ⟨rfl, rfl, rfl⟩ := hcs
      exact ⟨[], .inl ⟨rfl, rfl, rfl, rfl⟩⟩
    · simp [Value.cells] at hcs
      obtain ⟨rfl, rfl, rfl⟩ := hcs
      exact ⟨zs, .inr ⟨_, rfl, hl, hm, by simpa using hz, hcell, hwz⟩⟩
  clear hA0 hval0
  refine (walk a0 a1 a2 len2 cap2 z2 a3 len3 cap3 z3 W w0 w1 w2 w3).mono fun e W' ⟨he, bel⟩ => ?_
  subst he
  exact ⟨_, rfl, _, _, _, [], _, [], hW', trodAll_mk1 (shut_bool Try.underlying4 _), (trodAll_cons_mk (shut_int Try.underlying22 w0) (trodAll_cons_mk (shut_int Try.underlying22 w1) (trodAll_cons_mk (Below.trod laidOut (by kernel_rfl) (of_decide_eq_true (by kernel_rfl)) k2 bel lt2) (trodAll_cons_mk (Below.trod laidOut (by kernel_rfl) (of_decide_eq_true (by kernel_rfl)) k3 bel lt3) trodAll_mk0)))), rfl, bel.frame _, fun h => by cases h⟩

theorem over : Rows.crcPartsRow.holds Try.pinned (OpenSpec.ofChange Rows.crcPartsSpec) :=
  OpenClaim.holds_of_wide 4 Try.f4 rfl rfl rfl rfl rfl rfl rfl ⟨rfl, rfl, rfl, rfl, rfl⟩ rfl rfl rfl rfl rfl (by kernel_rfl) Try.func4 (by kernel_rfl)
    (of_decide_eq_true (by kernel_rfl)) (by unfold Func.isWrapper; first | (rw [if_pos (by decide +kernel)]; kernel_rfl) | (rw [if_neg (by decide +kernel)]; exact ⟨rfl, rfl⟩))
    (fun os started H enc _ => lifted os started H enc)

theorem proved : Rows.CrcPartsSaid := over
#print axioms proved
end Go.Proofs.Ytlbdgamcofjblaa.crcParts
