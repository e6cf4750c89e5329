/-
  Plain words for layer 3: what is appended in parts, renamed there and back, cut; a fuse.
-/
import Derived.Test.YtaognhkjojkbbaaDiskDo
namespace Go.Proofs.Ytaognhkjojkbbaa.disk
open Go.RowKit
set_option linter.unusedVariables false

theorem with_with {fs : List FileD} {f g : FileD} (h : Row fs) (e : f.name = g.name) : withF g (withF f fs) = withF g fs := by
  refine Row.ext (row_with g (row_with f h)) (row_with g h) fun x => ?_
  rw [mem_with (row_with f h), mem_with h, mem_with h]
  constructor
  · rintro (rfl | ⟨rfl | ⟨h1, h2⟩, h3⟩)
    · exact .inl rfl
    · exact absurd e h3
    · exact .inr ⟨h1, h3⟩
  · rintro (rfl | ⟨h1, h2⟩)
    · exact .inl rfl
    · exact .inr ⟨.inr ⟨h1, by rw [e]; exact h2⟩, h2⟩
theorem look_with {fs : List FileD} (f : FileD) (h : Row fs) : look f.name (withF f fs) = some f := look_of (row_with f h) ((mem_with h).2 (.inl rfl))
theorem appF_name (fs : List FileD) (nm : ByteArray) (b : List Nat) : ({ oldOf nm fs with data := (oldOf nm fs).data ++ b } : FileD).name = nm := old_name nm fs
theorem look_appF {fs : List FileD} {nm : ByteArray} {b : List Nat} (h : Row fs) : look nm (appF fs nm b) = some { oldOf nm fs with data := (oldOf nm fs).data ++ b } := by
  have := look_with { oldOf nm fs with data := (oldOf nm fs).data ++ b } h
  rw [appF_name] at this
  exact this
theorem used_appF {fs : List FileD} {nm : ByteArray} {b : List Nat} (h : Row fs) : used (appF fs nm b) = used fs + b.length := by
  unfold appF
  rcases old_cases nm fs with ⟨e1, e2⟩ | ⟨f, e1, e2, e3, e4⟩
  · rw [e2]
    have := (with_new { (⟨nm, [], 0⟩ : FileD) with data := [] ++ b } h (look_none e1)).1
    simpa using this
  · rw [e2]
    have := (with_old (⟨f.name, f.data ++ b, f.sure⟩ : FileD) f h e3 rfl).1
    simp only [List.length_append] at this
    show used (withF (⟨f.name, f.data ++ b, f.sure⟩ : FileD) fs) = _
    omega
theorem appF_twice {fs : List FileD} {nm : ByteArray} {a b : List Nat} (h : Row fs) : appF (appF fs nm a) nm b = appF fs nm (a ++ b) := by
  have ho : oldOf nm (appF fs nm a) = { oldOf nm fs with data := (oldOf nm fs).data ++ a } := by
    show (look nm (appF fs nm a)).getD _ = _
    rw [look_appF h]; rfl
  have e : appF (appF fs nm a) nm b = withF { oldOf nm (appF fs nm a) with data := (oldOf nm (appF fs nm a)).data ++ b } (appF fs nm a) := rfl
  rw [e, ho]
  show withF _ (withF _ fs) = withF _ fs
  rw [with_with h (by show (oldOf nm fs).name = (oldOf nm fs).name; rfl)]
  show withF { oldOf nm fs with data := (oldOf nm fs).data ++ a ++ b } fs = _
  rw [List.append_assoc]

theorem appE_iff {d : DiskD} {nm : ByteArray} {b : List Nat} : appE d nm b = 0 ↔ ((used d.files + b.length : Nat) : Int) ≤ d.room ∧ (look nm d.files = none → d.files.length < 64) := by
  constructor
  · exact app_zero
  · rintro ⟨h1, h2⟩
    unfold appE
    rw [if_neg]
    rintro (h | ⟨h, h3⟩)
    · omega
    · have := h2 h; omega

/-- a disk that is right, without a fuse, with power. -/
def Plain (d : DiskD) : Prop := rightB d = true ∧ d.down = false ∧ d.fuse = -1
theorem plain_op {d : DiskD} (h : Plain d) (a b : ByteArray) (pre : Int) (fs : List FileD) (app : Bool) :
    opD d a b pre fs app = if named a && named b then (if pre ≠ 0 then (d, pre) else (⟨fs, d.room, -1, false⟩, 0)) else (d, 1) := by
  obtain ⟨h1, h2, h3⟩ := h
  unfold opD
  rw [first_up h1 h2]
  cases named a && named b
  · simp
  · rw [h3, h2]; simp
theorem append_joins {d : DiskD} (h : Plain d) (nm : ByteArray) (a b : List Nat) :
    ((appendD d nm (a ++ b)).2 = 0 → (appendD d nm a).2 = 0 ∧ (appendD (appendD d nm a).1 nm b).2 = 0 ∧ (appendD (appendD d nm a).1 nm b).1 = (appendD d nm (a ++ b)).1) ∧
    ((appendD d nm (a ++ b)).2 ≠ 0 → ¬ ((appendD d nm a).2 = 0 ∧ (appendD (appendD d nm a).1 nm b).2 = 0)) := by
  have hrow := (right_files h.1).2.2.1
  have pa : ∀ (d : DiskD), Plain d → ∀ c, appendD d nm c = if named nm then (if appE d nm c ≠ 0 then (d, appE d nm c) else (⟨appF d.files nm c, d.room, -1, false⟩, 0)) else (d, 1) := fun d h c => by
    unfold appendD; rw [plain_op h]; simp only [Bool.and_self]
  cases hn : named nm
  · have e1 : ∀ c, appendD d nm c = (d, 1) := fun c => by rw [pa d h, hn]; rfl
    rw [e1, e1]
    exact ⟨(fun h => by cases h), (fun _ h => by cases h.1)⟩
  · by_cases ha : appE d nm a = 0
    · obtain ⟨a1, a2⟩ := appE_iff.1 ha
      have e1 : appendD d nm a = (⟨appF d.files nm a, d.room, -1, false⟩, 0) := by rw [pa d h, hn, if_pos rfl, if_neg (by simpa using ha)]
      have hp : Plain ⟨appF d.files nm a, d.room, -1, false⟩ := by
        refine ⟨?_, rfl, rfl⟩
        have := right_append (nm := nm) (b := a) h.1
        rw [e1] at this
        exact this
      have hu : used (appF d.files nm a) = used d.files + a.length := used_appF hrow
      have hw : appE d nm (a ++ b) = 0 ↔ appE ⟨appF d.files nm a, d.room, -1, false⟩ nm b = 0 := by
        rw [appE_iff, appE_iff]
        simp only [hu, List.length_append, look_appF hrow, reduceCtorEq, false_implies, and_true]
        constructor
        · rintro ⟨h1, _⟩; omega
        · intro h1; exact ⟨by omega, a2⟩
      rw [e1]
      by_cases hb : appE d nm (a ++ b) = 0
      · have e2 : appendD d nm (a ++ b) = (⟨appF d.files nm (a ++ b), d.room, -1, false⟩, 0) := by rw [pa d h, hn, if_pos rfl, if_neg (by simpa using hb)]
        have e3 : appendD ⟨appF d.files nm a, d.room, -1, false⟩ nm b = (⟨appF d.files nm (a ++ b), d.room, -1, false⟩, 0) := by
          rw [pa _ hp, hn, if_pos rfl, if_neg (by simpa using hw.1 hb)]
          show (DiskD.mk (appF (appF d.files nm a) nm b) d.room (-1) false, (0 : Int)) = _
          rw [appF_twice hrow]
        rw [e2]
        show (_ → _ ∧ (appendD ⟨appF d.files nm a, d.room, -1, false⟩ nm b).2 = 0 ∧ (appendD ⟨appF d.files nm a, d.room, -1, false⟩ nm b).1 = _) ∧ _
        rw [e3]
        exact ⟨fun _ => ⟨rfl, rfl, rfl⟩, fun h => absurd rfl h⟩
      · have e2 : appendD d nm (a ++ b) = (d, appE d nm (a ++ b)) := by rw [pa d h, hn, if_pos rfl, if_pos hb]
        have e3 : (appendD ⟨appF d.files nm a, d.room, -1, false⟩ nm b).2 ≠ 0 := by
          rw [pa _ hp, hn, if_pos rfl, if_pos (fun h => hb (hw.2 h))]
          exact fun h => hb (hw.2 h)
        rw [e2]
        exact ⟨fun h => absurd h hb, fun _ h2 => e3 h2.2⟩
    · have e1 : appendD d nm a = (d, appE d nm a) := by rw [pa d h, hn, if_pos rfl, if_pos ha]
      rw [e1]
      refine ⟨fun hw => ?_, fun _ h2 => ha h2.1⟩
      exfalso
      by_cases hb : appE d nm (a ++ b) = 0
      · obtain ⟨b1, b2⟩ := appE_iff.1 hb
        rw [List.length_append] at b1
        exact ha (appE_iff.2 ⟨by omega, b2⟩)
      · rw [pa d h, hn, if_pos rfl, if_pos hb] at hw
        exact hb hw
/-- renamed there and back it is as it was. -/
theorem rename_back {d : DiskD} (h : Plain d) {a b : ByteArray} {f : FileD} (ha : look a d.files = some f) (hb : look b d.files = none) (hn : named b = true) :
    (renameD d a b).2 = 0 ∧ renameD (renameD d a b).1 b a = (d, 0) := by
  have hok := right_files h.1
  have hrow := hok.2.2.1
  obtain ⟨f1, f2⟩ := look_some ha
  have hna : named a = true := by rw [← f2]; exact ((file_iff f).1 (hok.2.1 f f1)).1
  have hold : oldOf a d.files = f := by unfold oldOf; rw [ha]; rfl
  have e1 : renameD d a b = (⟨renF d.files a b, d.room, -1, false⟩, 0) := by
    unfold renameD
    rw [plain_op h, hna, hn]
    simp [noE, ha]
  have hr1 := right_rename (a := a) (b := b) h.1
  rw [e1] at hr1 ⊢
  refine ⟨rfl, ?_⟩
  have hp : Plain ⟨renF d.files a b, d.room, -1, false⟩ := ⟨hr1, rfl, rfl⟩
  have hren : renF d.files a b = withF { f with name := b } (sans a d.files) := by unfold renF; rw [hold]
  have hl : look b (renF d.files a b) = some { f with name := b } := by rw [hren]; exact look_with { f with name := b } (row_sans a hrow)
  have hob : oldOf b (renF d.files a b) = { f with name := b } := by unfold oldOf; rw [hl]; rfl
  have hfs : renF (renF d.files a b) b a = d.files := by
    have e2 : renF (renF d.files a b) b a = withF { oldOf b (renF d.files a b) with name := a } (sans b (renF d.files a b)) := rfl
    rw [e2, hob, hren]
    have hff : ({ ({ f with name := b } : FileD) with name := a } : FileD) = f := by rw [← f2]
    rw [hff]
    have hrs := row_with { f with name := b } (row_sans a hrow)
    refine Row.ext (row_with f (row_sans b hrs)) hrow fun x => ?_
    rw [mem_with (row_sans b hrs), mem_sans, mem_with (row_sans a hrow), mem_sans]
    constructor
    · rintro (rfl | ⟨⟨rfl | ⟨⟨h1, h2⟩, h3⟩, h4⟩, h5⟩)
      · exact f1
      · exact absurd rfl h4
      · exact h1
    · intro hx
      by_cases hxa : x.name = f.name
      · exact .inl (hrow.uniq hx f1 hxa)
      · refine .inr ⟨⟨.inr ⟨⟨hx, by rw [← f2]; exact hxa⟩, look_none hb x hx⟩, look_none hb x hx⟩, hxa⟩
  unfold renameD
  rw [plain_op hp, hna, hn, hfs]
  obtain ⟨fs, room, fuse, down⟩ := d
  obtain ⟨g1, g2, g3⟩ := h
  simp only at g2 g3
  subst g2 g3
  have hz : noE (renF fs a b) b = 0 := by unfold noE; rw [hl]; simp
  rw [hz]
  simp
theorem read_cases {d : DiskD} (h : Plain d) (nm : ByteArray) : (named nm = false ∧ readD d nm = ([], 1)) ∨ (named nm = true ∧ look nm d.files = none ∧ readD d nm = ([], 7)) ∨ ∃ f, named nm = true ∧ look nm d.files = some f ∧ readD d nm = (f.data, 0) := by
  obtain ⟨h1, h2, h3⟩ := h
  unfold readD
  rw [first_up h1 h2]
  cases hn : named nm
  · exact .inl ⟨rfl, by simp⟩
  · cases hl : look nm d.files with
    | none => exact .inr (.inl ⟨rfl, rfl, by simp⟩)
    | some f => exact .inr (.inr ⟨f, rfl, rfl, by simp⟩)
/-- a file that is cut has its first bytes. -/
theorem cut_reads {d : DiskD} (h : Plain d) {nm : ByteArray} {f : FileD} (n : Int) (hl : look nm d.files = some f) : ((n < 0 ∨ (f.data.length : Int) < n) ∧ cutD d nm n = (d, 1)) ∨
    ((0 ≤ n ∧ n ≤ (f.data.length : Int)) ∧ (cutD d nm n).2 = 0 ∧ Plain (cutD d nm n).1 ∧ readD (cutD d nm n).1 nm = (f.data.take n.toNat, 0)) := by
  have hok := right_files h.1
  have hrow := hok.2.2.1
  obtain ⟨f1, f2⟩ := look_some hl
  have hn : named nm = true := by rw [← f2]; exact ((file_iff f).1 (hok.2.1 f f1)).1
  have hold : oldOf nm d.files = f := by unfold oldOf; rw [hl]; rfl
  by_cases hb : n < 0 ∨ (f.data.length : Int) < n
  · refine .inl ⟨hb, ?_⟩
    unfold cutD
    rw [plain_op h, hn]
    have : cutE d.files nm n = 1 := by unfold cutE; rw [if_neg (by rw [hl]; simp), hold, if_pos hb]
    rw [this]; simp
  · have hr := right_cut (nm := nm) (n := n) h.1
    have e : cutD d nm n = (⟨cutF d.files nm n, d.room, -1, false⟩, 0) := by
      unfold cutD
      rw [plain_op h, hn]
      have : cutE d.files nm n = 0 := by unfold cutE; rw [if_neg (by rw [hl]; simp), hold, if_neg hb]
      rw [this]; simp
    rw [e] at hr ⊢
    refine .inr ⟨by omega, rfl, ⟨hr, rfl, rfl⟩, ?_⟩
    rcases read_cases (d := ⟨cutF d.files nm n, d.room, -1, false⟩) ⟨hr, rfl, rfl⟩ nm with ⟨h1, _⟩ | ⟨_, h2, _⟩ | ⟨g, _, h2, h3⟩
    · rw [hn] at h1; cases h1
    · exfalso
      have := look_with { oldOf nm d.files with data := (oldOf nm d.files).data.take n.toNat, sure := if n < (oldOf nm d.files).sure then n else (oldOf nm d.files).sure } hrow
      rw [show ({ oldOf nm d.files with data := (oldOf nm d.files).data.take n.toNat, sure := if n < (oldOf nm d.files).sure then n else (oldOf nm d.files).sure } : FileD).name = nm from old_name nm d.files] at this
      have e3 : look nm (cutF d.files nm n) = none := h2
      unfold cutF at e3
      rw [this] at e3
      cases e3
    · have := look_with { oldOf nm d.files with data := (oldOf nm d.files).data.take n.toNat, sure := if n < (oldOf nm d.files).sure then n else (oldOf nm d.files).sure } hrow
      rw [show ({ oldOf nm d.files with data := (oldOf nm d.files).data.take n.toNat, sure := if n < (oldOf nm d.files).sure then n else (oldOf nm d.files).sure } : FileD).name = nm from old_name nm d.files] at this
      have e3 : look nm (cutF d.files nm n) = some g := h2
      unfold cutF at e3
      rw [this, hold] at e3
      injection e3 with e3
      rw [h3, ← e3]

/-! a fuse -/
theorem right_fuse {d : DiskD} {f : Int} (h : rightB d = true) (hf : -1 ≤ f) (dn : Bool) : rightB ⟨d.files, d.room, f, dn⟩ = true := by
  obtain ⟨h1, _, h3⟩ := (right_iff d).1 h
  exact (right_iff _).2 ⟨h1, hf, h3⟩
theorem fuse_op {d : DiskD} (h : Plain d) (left : Nat) (a b : ByteArray) (pre : Int) (fs : List FileD) (app : Bool) :
    (∃ e : Int, e ≠ 0 ∧ opD d a b pre fs app = (d, e) ∧ opD ⟨d.files, d.room, left, false⟩ a b pre fs app = (⟨d.files, d.room, left, false⟩, e)) ∨
    (opD d a b pre fs app = (⟨fs, d.room, -1, false⟩, 0) ∧ ((left = 0 ∧ opD ⟨d.files, d.room, left, false⟩ a b pre fs app = (⟨if app then fs else d.files, d.room, 0, true⟩, 9)) ∨
      (0 < left ∧ opD ⟨d.files, d.room, left, false⟩ a b pre fs app = (⟨fs, d.room, (left : Int) - 1, false⟩, 0)))) := by
  have hr2 := right_fuse (f := (left : Int)) h.1 (by omega) false
  rw [plain_op h]
  have e2 : opD ⟨d.files, d.room, left, false⟩ a b pre fs app = if named a && named b then (if pre ≠ 0 then (⟨d.files, d.room, left, false⟩, pre) else if (left : Int) = 0 then (⟨if app then fs else d.files, d.room, left, true⟩, 9) else (⟨fs, d.room, if 0 < (left : Int) then (left : Int) - 1 else left, false⟩, 0)) else (⟨d.files, d.room, left, false⟩, 1) := by
    unfold opD
    rw [first_up hr2 rfl]
    cases named a && named b <;> simp
  rw [e2]
  cases named a && named b
  · exact .inl ⟨1, by omega, rfl, rfl⟩
  · by_cases hp : pre = 0
    · subst hp
      refine .inr ⟨by simp, ?_⟩
      by_cases hl : left = 0
      · subst hl; exact .inl ⟨rfl, by simp⟩
      · exact .inr ⟨by omega, by
          rw [if_pos rfl, if_neg (by simp), if_neg (by omega), if_pos (by omega)]⟩
    · exact .inl ⟨pre, hp, by simp [hp], by simp [hp]⟩
/-- what a thing of a script does with a fuse, beside what it does without one. -/
def FuseOut (d : DiskD) (left : Nat) (x : DoD) : Prop :=
    (∃ e : Int, e ≠ 0 ∧ doD d x = (d, e) ∧ doD ⟨d.files, d.room, left, false⟩ x = (⟨d.files, d.room, left, false⟩, e)) ∨
    ∃ fs, doD d x = (⟨fs, d.room, -1, false⟩, 0) ∧ ((left = 0 ∧ ∃ app : Bool, (1 < x.kind % 6 → app = false) ∧ doD ⟨d.files, d.room, left, false⟩ x = (⟨if app then fs else d.files, d.room, 0, true⟩, 9)) ∨
      (0 < left ∧ doD ⟨d.files, d.room, left, false⟩ x = (⟨fs, d.room, (left : Int) - 1, false⟩, 0)))
theorem fuse_do {d : DiskD} (h : Plain d) (left : Nat) (x : DoD) : FuseOut d left x := by
  have key : ∀ (a b : ByteArray) (pre : Int) (fs : List FileD) (app : Bool), (1 < x.kind % 6 → app = false) → doD d x = opD d a b pre fs app → doD ⟨d.files, d.room, left, false⟩ x = opD ⟨d.files, d.room, left, false⟩ a b pre fs app → FuseOut d left x := fun a b pre fs app ha e1 e2 => by
    rcases fuse_op h left a b pre fs app with ⟨e, h1, h2, h3⟩ | ⟨h1, h2 | h2⟩
    · exact Or.inl ⟨e, h1, e1.trans h2, e2.trans h3⟩
    · exact Or.inr ⟨fs, e1.trans h1, .inl ⟨h2.1, app, ha, e2.trans h2.2⟩⟩
    · exact Or.inr ⟨fs, e1.trans h1, .inr ⟨h2.1, e2.trans h2.2⟩⟩
  rcases (show x.kind % 6 = 2 ∨ x.kind % 6 = 3 ∨ x.kind % 6 = 4 ∨ x.kind % 6 = 5 ∨ x.kind % 6 = 0 ∨ x.kind % 6 = 1 by omega) with h6 | h6 | h6 | h6 | h6 | h6
  · exact key _ _ _ _ false (fun _ => rfl) (by unfold doD; simp only [h6]; rfl) (by unfold doD; simp only [h6]; rfl)
  · exact key _ _ _ _ false (fun _ => rfl) (by unfold doD; simp only [h6]; rfl) (by unfold doD; simp only [h6]; rfl)
  · exact key _ _ _ _ false (fun _ => rfl) (by unfold doD; simp only [h6]; rfl) (by unfold doD; simp only [h6]; rfl)
  · exact key _ _ _ _ false (fun _ => rfl) (by unfold doD; simp only [h6]; rfl) (by unfold doD; simp only [h6]; rfl)
  · exact key _ _ _ _ true (fun hh => by omega) (by unfold doD; simp only [h6]; rfl) (by unfold doD; simp only [h6]; rfl)
  · exact key _ _ _ _ true (fun hh => by omega) (by unfold doD; simp only [h6]; rfl) (by unfold doD; simp only [h6]; rfl)
theorem down_do {d : DiskD} (h : rightB d = true) (hd : d.down = true) (x : DoD) : doD d x = (d, 9) := by
  have key : ∀ (a b : ByteArray) (pre : Int) (fs : List FileD) (app : Bool), opD d a b pre fs app = (d, 9) := fun a b pre fs app => op_first (first_down h hd) (by omega)
  unfold doD
  split <;> exact key _ _ _ _ _
theorem right_do {d : DiskD} (h : rightB d = true) (x : DoD) : rightB (doD d x).1 = true := by
  unfold doD
  split
  · exact right_sync h
  · exact right_rename h
  · exact right_remove h
  · exact right_cut h
  · exact right_append h
theorem has_do {d : DiskD} {x : DoD} {nm : ByteArray} {was : List Nat} (h : rightB d = true) (hh : Has d.files nm was) (hk : 3 ≤ x.kind % 6 → nameOf x.file ≠ nm ∧ nameOf x.to ≠ nm) : Has (doD d x).1.files nm was := by
  unfold doD
  split
  · exact has_sync h hh
  · exact has_rename h hh (hk (by omega)).1 (hk (by omega)).2
  · exact has_remove hh (hk (by omega)).1
  · exact has_cut h hh (hk (by omega)).1
  · exact has_append h hh

end Go.Proofs.Ytaognhkjojkbbaa.disk
