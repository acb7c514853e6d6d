/-
  Texts put together: EBoth, EOther, ZEncA, ZEnc.
-/
import Derived.Test.YtbmbijadnojfaaaGreatDoorRC
import Derived.Test.YtbmbijadnojfaaaGreatDoorRD
/-
  Each kind: both sides tell one answer (made by mkeask.py).
-/
namespace Go.Proofs.YtbmbijadnojfaaaGreatDoor
open Go Go.RowKit Go.Deep

/-- EBth sides of a call. -/
def EBth (kd X Y I : Int) (pn : Bool) (pc pm px : Int) (neg : Bool) (p q : Option Addr) (n k cap cap' : Nat) (ex : Int) (more : Bool) (w : World) (zN zD : List Int) : Prop :=
  ∃ Q : AV → Prop, (∀ a b, Q a → Q b → a = b) ∧
    (∀ wx, Below w.heap.size w wx → Calls Tryz.prog 5 #[opOf kd X Y I pn pc pm px neg (.slice p n cap) (.slice q k cap') ex more] wx fun r w' => AnsTold Q wx r w') ∧
    (∀ wx p' q' c1 c2, Below w.heap.size w wx → Arg wx p' n c1 zN → Arg wx q' k c2 zD → Calls Tryz.prog 8 #[opOf kd X Y I pn pc pm px neg (.slice p' n c1) (.slice q' k c2) ex more] wx fun r w' => AnsTold Q wx r w')

theorem both1 (X Y I : Int) (pn : Bool) (pc pm px : Int) (neg : Bool) (p q : Option Addr) (n k cap cap' : Nat) (ex : Int) (more : Bool) (w : World) (zN zD : List Int) (Q : Bool → Int → Int → Int → Prop) (one : ∀ (a : Bool) (c m x : Int) (a' : Bool) (c' m' x' : Int), Q a c m x → Q a' c' m' x' → a = a' ∧ c = c' ∧ m = m' ∧ x = x')
    (HW : ∀ wx : World, Below w.heap.size w wx → Calls Tryz.prog 12 #[.int .u64 X] wx fun r w' => ∃ (a : Bool) (c m x : Int), r = .returned (partsOf a c m x) ∧ Q a c m x ∧ Below wx.heap.size wx w')
    (HA : ∀ (wx : World) (p' q' : Option Addr) (c1 c2 : Nat), Below w.heap.size w wx → Arg wx p' n c1 zN → Arg wx q' k c2 zD → Calls Tryz.prog 10 #[.int .u64 X] wx fun r w' => ∃ (a : Bool) (c m x : Int), r = .returned (partsOf a c m x) ∧ Q a c m x ∧ Below wx.heap.size wx w') :
    EBth 1 X Y I pn pc pm px neg p q n k cap cap' ex more w zN zD := by
  refine ⟨fun a9 => ∃ (a : Bool) (c m x : Int), Q a c m x ∧ a9 = (⟨0, 0, 0, false, a, c, m, x, 0, []⟩ : AV), ?_, ?_, ?_⟩
  · rintro a9 b9 ⟨a, c, m, x, h, rfl⟩ ⟨a', c', m', x', h', rfl⟩
    obtain ⟨rfl, rfl, rfl, rfl⟩ := one a c m x a' c' m' x' h h'
    rfl
  · intro wx hB
    refine (ewanted1 X Y I pn pc pm px neg p q n k cap cap' ex more wx Q (fun wy hy => HW wy (hB.trans (hy.mono hB.size)))).mono ?_
    rintro r w' ⟨a, c, m, x, rfl, hQ, hw⟩
    exact ⟨⟨0, 0, 0, false, a, c, m, x, 0, []⟩, none, 0, rfl, ⟨a, c, m, x, hQ, rfl⟩, arg_nil _, (fun a' h => by cases h), hw⟩
  · intro wx p' q' c1 c2 hB aN aD
    refine (easked1 X Y I pn pc pm px neg p' q' n k c1 c2 ex more wx Q (fun wy hy => HA wy p' q' c1 c2 (hB.trans (hy.mono hB.size)) (aN.below hy (Nat.le_refl _)) (aD.below hy (Nat.le_refl _)))).mono ?_
    rintro r w' ⟨a, c, m, x, rfl, hQ, hw⟩
    exact ⟨⟨0, 0, 0, false, a, c, m, x, 0, []⟩, none, 0, rfl, ⟨a, c, m, x, hQ, rfl⟩, arg_nil _, (fun a' h => by cases h), hw⟩

theorem both2 (X Y I : Int) (pn : Bool) (pc pm px : Int) (neg : Bool) (p q : Option Addr) (n k cap cap' : Nat) (ex : Int) (more : Bool) (w : World) (zN zD : List Int) (Q : Int → Int → Prop) (one : ∀ (U E : Int) (U' E' : Int), Q U E → Q U' E' → U = U' ∧ E = E')
    (HW : ∀ wx : World, Below w.heap.size w wx → Calls Tryz.prog 13 #[partsOf pn pc pm px] wx fun r w' => ∃ U E : Int, r = .returned (.tuple #[.int .u64 U, .int .i64 E]) ∧ Q U E ∧ Below wx.heap.size wx w')
    (HA : ∀ (wx : World) (p' q' : Option Addr) (c1 c2 : Nat), Below w.heap.size w wx → Arg wx p' n c1 zN → Arg wx q' k c2 zD → Calls Tryz.prog 31 #[partsOf pn pc pm px] wx fun r w' => ∃ U E : Int, r = .returned (.tuple #[.int .u64 U, .int .i64 E]) ∧ Q U E ∧ Below wx.heap.size wx w') :
    EBth 2 X Y I pn pc pm px neg p q n k cap cap' ex more w zN zD := by
  refine ⟨fun a9 => ∃ U E : Int, Q U E ∧ a9 = (⟨U, 0, 0, false, false, 0, 0, 0, E, []⟩ : AV), ?_, ?_, ?_⟩
  · rintro a9 b9 ⟨U, E, h, rfl⟩ ⟨U', E', h', rfl⟩
    obtain ⟨rfl, rfl⟩ := one U E U' E' h h'
    rfl
  · intro wx hB
    refine (ewanted2 X Y I pn pc pm px neg p q n k cap cap' ex more wx Q (fun wy hy => HW wy (hB.trans (hy.mono hB.size)))).mono ?_
    rintro r w' ⟨U, E, rfl, hQ, hw⟩
    exact ⟨⟨U, 0, 0, false, false, 0, 0, 0, E, []⟩, none, 0, rfl, ⟨U, E, hQ, rfl⟩, arg_nil _, (fun a' h => by cases h), hw⟩
  · intro wx p' q' c1 c2 hB aN aD
    refine (easked2 X Y I pn pc pm px neg p' q' n k c1 c2 ex more wx Q (fun wy hy => HA wy p' q' c1 c2 (hB.trans (hy.mono hB.size)) (aN.below hy (Nat.le_refl _)) (aD.below hy (Nat.le_refl _)))).mono ?_
    rintro r w' ⟨U, E, rfl, hQ, hw⟩
    exact ⟨⟨U, 0, 0, false, false, 0, 0, 0, E, []⟩, none, 0, rfl, ⟨U, E, hQ, rfl⟩, arg_nil _, (fun a' h => by cases h), hw⟩

theorem both3 (X Y I : Int) (pn : Bool) (pc pm px : Int) (neg : Bool) (p q : Option Addr) (n k cap cap' : Nat) (ex : Int) (more : Bool) (w : World) (zN zD : List Int) (Q : Int → Prop) (one : ∀ (V : Int) (V' : Int), Q V → Q V' → V = V')
    (HW : ∀ wx : World, Below w.heap.size w wx → Calls Tryz.prog 14 #[.int .u64 X] wx fun r w' => ∃ V : Int, r = .returned (.int .i64 V) ∧ Q V ∧ Below wx.heap.size wx w')
    (HA : ∀ (wx : World) (p' q' : Option Addr) (c1 c2 : Nat), Below w.heap.size w wx → Arg wx p' n c1 zN → Arg wx q' k c2 zD → Calls Tryz.prog 32 #[.int .u64 X] wx fun r w' => ∃ V : Int, r = .returned (.int .i64 V) ∧ Q V ∧ Below wx.heap.size wx w') :
    EBth 3 X Y I pn pc pm px neg p q n k cap cap' ex more w zN zD := by
  refine ⟨fun a9 => ∃ V : Int, Q V ∧ a9 = (⟨0, V, 0, false, false, 0, 0, 0, 0, []⟩ : AV), ?_, ?_, ?_⟩
  · rintro a9 b9 ⟨V, h, rfl⟩ ⟨V', h', rfl⟩
    obtain rfl := one V V' h h'
    rfl
  · intro wx hB
    refine (ewanted3 X Y I pn pc pm px neg p q n k cap cap' ex more wx Q (fun wy hy => HW wy (hB.trans (hy.mono hB.size)))).mono ?_
    rintro r w' ⟨V, rfl, hQ, hw⟩
    exact ⟨⟨0, V, 0, false, false, 0, 0, 0, 0, []⟩, none, 0, rfl, ⟨V, hQ, rfl⟩, arg_nil _, (fun a' h => by cases h), hw⟩
  · intro wx p' q' c1 c2 hB aN aD
    refine (easked3 X Y I pn pc pm px neg p' q' n k c1 c2 ex more wx Q (fun wy hy => HA wy p' q' c1 c2 (hB.trans (hy.mono hB.size)) (aN.below hy (Nat.le_refl _)) (aD.below hy (Nat.le_refl _)))).mono ?_
    rintro r w' ⟨V, rfl, hQ, hw⟩
    exact ⟨⟨0, V, 0, false, false, 0, 0, 0, 0, []⟩, none, 0, rfl, ⟨V, hQ, rfl⟩, arg_nil _, (fun a' h => by cases h), hw⟩

theorem both4 (X Y I : Int) (pn : Bool) (pc pm px : Int) (neg : Bool) (p q : Option Addr) (n k cap cap' : Nat) (ex : Int) (more : Bool) (w : World) (zN zD : List Int) (Q : Int → Prop) (one : ∀ (U : Int) (U' : Int), Q U → Q U' → U = U')
    (HW : ∀ wx : World, Below w.heap.size w wx → Calls Tryz.prog 15 #[.int .u64 X] wx fun r w' => ∃ U : Int, r = .returned (.int .u64 U) ∧ Q U ∧ Below wx.heap.size wx w')
    (HA : ∀ (wx : World) (p' q' : Option Addr) (c1 c2 : Nat), Below w.heap.size w wx → Arg wx p' n c1 zN → Arg wx q' k c2 zD → Calls Tryz.prog 33 #[.int .u64 X] wx fun r w' => ∃ U : Int, r = .returned (.int .u64 U) ∧ Q U ∧ Below wx.heap.size wx w') :
    EBth 4 X Y I pn pc pm px neg p q n k cap cap' ex more w zN zD := by
  refine ⟨fun a9 => ∃ U : Int, Q U ∧ a9 = (⟨U, 0, 0, false, false, 0, 0, 0, 0, []⟩ : AV), ?_, ?_, ?_⟩
  · rintro a9 b9 ⟨U, h, rfl⟩ ⟨U', h', rfl⟩
    obtain rfl := one U U' h h'
    rfl
  · intro wx hB
    refine (ewanted4 X Y I pn pc pm px neg p q n k cap cap' ex more wx Q (fun wy hy => HW wy (hB.trans (hy.mono hB.size)))).mono ?_
    rintro r w' ⟨U, rfl, hQ, hw⟩
    exact ⟨⟨U, 0, 0, false, false, 0, 0, 0, 0, []⟩, none, 0, rfl, ⟨U, hQ, rfl⟩, arg_nil _, (fun a' h => by cases h), hw⟩
  · intro wx p' q' c1 c2 hB aN aD
    refine (easked4 X Y I pn pc pm px neg p' q' n k c1 c2 ex more wx Q (fun wy hy => HA wy p' q' c1 c2 (hB.trans (hy.mono hB.size)) (aN.below hy (Nat.le_refl _)) (aD.below hy (Nat.le_refl _)))).mono ?_
    rintro r w' ⟨U, rfl, hQ, hw⟩
    exact ⟨⟨U, 0, 0, false, false, 0, 0, 0, 0, []⟩, none, 0, rfl, ⟨U, hQ, rfl⟩, arg_nil _, (fun a' h => by cases h), hw⟩

theorem both5 (X Y I : Int) (pn : Bool) (pc pm px : Int) (neg : Bool) (p q : Option Addr) (n k cap cap' : Nat) (ex : Int) (more : Bool) (w : World) (zN zD : List Int) (Q : Int → Prop) (one : ∀ (U : Int) (U' : Int), Q U → Q U' → U = U')
    (HW : ∀ wx : World, Below w.heap.size w wx → Calls Tryz.prog 16 #[.int .u64 X] wx fun r w' => ∃ U : Int, r = .returned (.int .u64 U) ∧ Q U ∧ Below wx.heap.size wx w')
    (HA : ∀ (wx : World) (p' q' : Option Addr) (c1 c2 : Nat), Below w.heap.size w wx → Arg wx p' n c1 zN → Arg wx q' k c2 zD → Calls Tryz.prog 34 #[.int .u64 X] wx fun r w' => ∃ U : Int, r = .returned (.int .u64 U) ∧ Q U ∧ Below wx.heap.size wx w') :
    EBth 5 X Y I pn pc pm px neg p q n k cap cap' ex more w zN zD := by
  refine ⟨fun a9 => ∃ U : Int, Q U ∧ a9 = (⟨U, 0, 0, false, false, 0, 0, 0, 0, []⟩ : AV), ?_, ?_, ?_⟩
  · rintro a9 b9 ⟨U, h, rfl⟩ ⟨U', h', rfl⟩
    obtain rfl := one U U' h h'
    rfl
  · intro wx hB
    refine (ewanted5 X Y I pn pc pm px neg p q n k cap cap' ex more wx Q (fun wy hy => HW wy (hB.trans (hy.mono hB.size)))).mono ?_
    rintro r w' ⟨U, rfl, hQ, hw⟩
    exact ⟨⟨U, 0, 0, false, false, 0, 0, 0, 0, []⟩, none, 0, rfl, ⟨U, hQ, rfl⟩, arg_nil _, (fun a' h => by cases h), hw⟩
  · intro wx p' q' c1 c2 hB aN aD
    refine (easked5 X Y I pn pc pm px neg p' q' n k c1 c2 ex more wx Q (fun wy hy => HA wy p' q' c1 c2 (hB.trans (hy.mono hB.size)) (aN.below hy (Nat.le_refl _)) (aD.below hy (Nat.le_refl _)))).mono ?_
    rintro r w' ⟨U, rfl, hQ, hw⟩
    exact ⟨⟨U, 0, 0, false, false, 0, 0, 0, 0, []⟩, none, 0, rfl, ⟨U, hQ, rfl⟩, arg_nil _, (fun a' h => by cases h), hw⟩

theorem both6 (X Y I : Int) (pn : Bool) (pc pm px : Int) (neg : Bool) (p q : Option Addr) (n k cap cap' : Nat) (ex : Int) (more : Bool) (w : World) (zN zD : List Int) (Q : Int → Bool → Prop) (one : ∀ (V : Int) (B : Bool) (V' : Int) (B' : Bool), Q V B → Q V' B' → V = V' ∧ B = B')
    (HW : ∀ wx : World, Below w.heap.size w wx → Calls Tryz.prog 17 #[.int .u64 X, .int .u64 Y] wx fun r w' => ∃ (V : Int) (B : Bool), r = .returned (.tuple #[.int .i64 V, .bool B]) ∧ Q V B ∧ Below wx.heap.size wx w')
    (HA : ∀ (wx : World) (p' q' : Option Addr) (c1 c2 : Nat), Below w.heap.size w wx → Arg wx p' n c1 zN → Arg wx q' k c2 zD → Calls Tryz.prog 35 #[.int .u64 X, .int .u64 Y] wx fun r w' => ∃ (V : Int) (B : Bool), r = .returned (.tuple #[.int .i64 V, .bool B]) ∧ Q V B ∧ Below wx.heap.size wx w') :
    EBth 6 X Y I pn pc pm px neg p q n k cap cap' ex more w zN zD := by
  refine ⟨fun a9 => ∃ (V : Int) (B : Bool), Q V B ∧ a9 = (⟨0, V, 0, B, false, 0, 0, 0, 0, []⟩ : AV), ?_, ?_, ?_⟩
  · rintro a9 b9 ⟨V, B, h, rfl⟩ ⟨V', B', h', rfl⟩
    obtain ⟨rfl, rfl⟩ := one V B V' B' h h'
    rfl
  · intro wx hB
    refine (ewanted6 X Y I pn pc pm px neg p q n k cap cap' ex more wx Q (fun wy hy => HW wy (hB.trans (hy.mono hB.size)))).mono ?_
    rintro r w' ⟨V, B, rfl, hQ, hw⟩
    exact ⟨⟨0, V, 0, B, false, 0, 0, 0, 0, []⟩, none, 0, rfl, ⟨V, B, hQ, rfl⟩, arg_nil _, (fun a' h => by cases h), hw⟩
  · intro wx p' q' c1 c2 hB aN aD
    refine (easked6 X Y I pn pc pm px neg p' q' n k c1 c2 ex more wx Q (fun wy hy => HA wy p' q' c1 c2 (hB.trans (hy.mono hB.size)) (aN.below hy (Nat.le_refl _)) (aD.below hy (Nat.le_refl _)))).mono ?_
    rintro r w' ⟨V, B, rfl, hQ, hw⟩
    exact ⟨⟨0, V, 0, B, false, 0, 0, 0, 0, []⟩, none, 0, rfl, ⟨V, B, hQ, rfl⟩, arg_nil _, (fun a' h => by cases h), hw⟩

theorem both7 (X Y I : Int) (pn : Bool) (pc pm px : Int) (neg : Bool) (p q : Option Addr) (n k cap cap' : Nat) (ex : Int) (more : Bool) (w : World) (zN zD : List Int) (Q : Int → Prop) (one : ∀ (V : Int) (V' : Int), Q V → Q V' → V = V')
    (HW : ∀ wx : World, Below w.heap.size w wx → Calls Tryz.prog 18 #[.int .u64 X, .int .u64 Y] wx fun r w' => ∃ V : Int, r = .returned (.int .i64 V) ∧ Q V ∧ Below wx.heap.size wx w')
    (HA : ∀ (wx : World) (p' q' : Option Addr) (c1 c2 : Nat), Below w.heap.size w wx → Arg wx p' n c1 zN → Arg wx q' k c2 zD → Calls Tryz.prog 36 #[.int .u64 X, .int .u64 Y] wx fun r w' => ∃ V : Int, r = .returned (.int .i64 V) ∧ Q V ∧ Below wx.heap.size wx w') :
    EBth 7 X Y I pn pc pm px neg p q n k cap cap' ex more w zN zD := by
  refine ⟨fun a9 => ∃ V : Int, Q V ∧ a9 = (⟨0, V, 0, false, false, 0, 0, 0, 0, []⟩ : AV), ?_, ?_, ?_⟩
  · rintro a9 b9 ⟨V, h, rfl⟩ ⟨V', h', rfl⟩
    obtain rfl := one V V' h h'
    rfl
  · intro wx hB
    refine (ewanted7 X Y I pn pc pm px neg p q n k cap cap' ex more wx Q (fun wy hy => HW wy (hB.trans (hy.mono hB.size)))).mono ?_
    rintro r w' ⟨V, rfl, hQ, hw⟩
    exact ⟨⟨0, V, 0, false, false, 0, 0, 0, 0, []⟩, none, 0, rfl, ⟨V, hQ, rfl⟩, arg_nil _, (fun a' h => by cases h), hw⟩
  · intro wx p' q' c1 c2 hB aN aD
    refine (easked7 X Y I pn pc pm px neg p' q' n k c1 c2 ex more wx Q (fun wy hy => HA wy p' q' c1 c2 (hB.trans (hy.mono hB.size)) (aN.below hy (Nat.le_refl _)) (aD.below hy (Nat.le_refl _)))).mono ?_
    rintro r w' ⟨V, rfl, hQ, hw⟩
    exact ⟨⟨0, V, 0, false, false, 0, 0, 0, 0, []⟩, none, 0, rfl, ⟨V, hQ, rfl⟩, arg_nil _, (fun a' h => by cases h), hw⟩

theorem both8 (X Y I : Int) (pn : Bool) (pc pm px : Int) (neg : Bool) (p q : Option Addr) (n k cap cap' : Nat) (ex : Int) (more : Bool) (w : World) (zN zD : List Int) (Q : Int → Bool → Prop) (one : ∀ (V : Int) (B : Bool) (V' : Int) (B' : Bool), Q V B → Q V' B' → V = V' ∧ B = B')
    (HW : ∀ wx : World, Below w.heap.size w wx → Calls Tryz.prog 19 #[.int .u64 X] wx fun r w' => ∃ (V : Int) (B : Bool), r = .returned (.tuple #[.int .i64 V, .bool B]) ∧ Q V B ∧ Below wx.heap.size wx w')
    (HA : ∀ (wx : World) (p' q' : Option Addr) (c1 c2 : Nat), Below w.heap.size w wx → Arg wx p' n c1 zN → Arg wx q' k c2 zD → Calls Tryz.prog 37 #[.int .u64 X] wx fun r w' => ∃ (V : Int) (B : Bool), r = .returned (.tuple #[.int .i64 V, .bool B]) ∧ Q V B ∧ Below wx.heap.size wx w') :
    EBth 8 X Y I pn pc pm px neg p q n k cap cap' ex more w zN zD := by
  refine ⟨fun a9 => ∃ (V : Int) (B : Bool), Q V B ∧ a9 = (⟨0, 0, V, B, false, 0, 0, 0, 0, []⟩ : AV), ?_, ?_, ?_⟩
  · rintro a9 b9 ⟨V, B, h, rfl⟩ ⟨V', B', h', rfl⟩
    obtain ⟨rfl, rfl⟩ := one V B V' B' h h'
    rfl
  · intro wx hB
    refine (ewanted8 X Y I pn pc pm px neg p q n k cap cap' ex more wx Q (fun wy hy => HW wy (hB.trans (hy.mono hB.size)))).mono ?_
    rintro r w' ⟨V, B, rfl, hQ, hw⟩
    exact ⟨⟨0, 0, V, B, false, 0, 0, 0, 0, []⟩, none, 0, rfl, ⟨V, B, hQ, rfl⟩, arg_nil _, (fun a' h => by cases h), hw⟩
  · intro wx p' q' c1 c2 hB aN aD
    refine (easked8 X Y I pn pc pm px neg p' q' n k c1 c2 ex more wx Q (fun wy hy => HA wy p' q' c1 c2 (hB.trans (hy.mono hB.size)) (aN.below hy (Nat.le_refl _)) (aD.below hy (Nat.le_refl _)))).mono ?_
    rintro r w' ⟨V, B, rfl, hQ, hw⟩
    exact ⟨⟨0, 0, V, B, false, 0, 0, 0, 0, []⟩, none, 0, rfl, ⟨V, B, hQ, rfl⟩, arg_nil _, (fun a' h => by cases h), hw⟩

theorem both9 (X Y I : Int) (pn : Bool) (pc pm px : Int) (neg : Bool) (p q : Option Addr) (n k cap cap' : Nat) (ex : Int) (more : Bool) (w : World) (zN zD : List Int) (Q : Int → Bool → Prop) (one : ∀ (U : Int) (B : Bool) (U' : Int) (B' : Bool), Q U B → Q U' B' → U = U' ∧ B = B')
    (HW : ∀ wx : World, Below w.heap.size w wx → Calls Tryz.prog 20 #[.int .i64 I] wx fun r w' => ∃ (U : Int) (B : Bool), r = .returned (.tuple #[.int .u64 U, .bool B]) ∧ Q U B ∧ Below wx.heap.size wx w')
    (HA : ∀ (wx : World) (p' q' : Option Addr) (c1 c2 : Nat), Below w.heap.size w wx → Arg wx p' n c1 zN → Arg wx q' k c2 zD → Calls Tryz.prog 38 #[.int .i64 I] wx fun r w' => ∃ (U : Int) (B : Bool), r = .returned (.tuple #[.int .u64 U, .bool B]) ∧ Q U B ∧ Below wx.heap.size wx w') :
    EBth 9 X Y I pn pc pm px neg p q n k cap cap' ex more w zN zD := by
  refine ⟨fun a9 => ∃ (U : Int) (B : Bool), Q U B ∧ a9 = (⟨U, 0, 0, B, false, 0, 0, 0, 0, []⟩ : AV), ?_, ?_, ?_⟩
  · rintro a9 b9 ⟨U, B, h, rfl⟩ ⟨U', B', h', rfl⟩
    obtain ⟨rfl, rfl⟩ := one U B U' B' h h'
    rfl
  · intro wx hB
    refine (ewanted9 X Y I pn pc pm px neg p q n k cap cap' ex more wx Q (fun wy hy => HW wy (hB.trans (hy.mono hB.size)))).mono ?_
    rintro r w' ⟨U, B, rfl, hQ, hw⟩
    exact ⟨⟨U, 0, 0, B, false, 0, 0, 0, 0, []⟩, none, 0, rfl, ⟨U, B, hQ, rfl⟩, arg_nil _, (fun a' h => by cases h), hw⟩
  · intro wx p' q' c1 c2 hB aN aD
    refine (easked9 X Y I pn pc pm px neg p' q' n k c1 c2 ex more wx Q (fun wy hy => HA wy p' q' c1 c2 (hB.trans (hy.mono hB.size)) (aN.below hy (Nat.le_refl _)) (aD.below hy (Nat.le_refl _)))).mono ?_
    rintro r w' ⟨U, B, rfl, hQ, hw⟩
    exact ⟨⟨U, 0, 0, B, false, 0, 0, 0, 0, []⟩, none, 0, rfl, ⟨U, B, hQ, rfl⟩, arg_nil _, (fun a' h => by cases h), hw⟩

theorem both10 (X Y I : Int) (pn : Bool) (pc pm px : Int) (neg : Bool) (p q : Option Addr) (n k cap cap' : Nat) (ex : Int) (more : Bool) (w : World) (zN zD : List Int) (Q : Int → Prop) (one : ∀ (U : Int) (U' : Int), Q U → Q U' → U = U')
    (HW : ∀ wx : World, Below w.heap.size w wx → Calls Tryz.prog 21 #[.int .u64 X] wx fun r w' => ∃ U : Int, r = .returned (.int .u64 U) ∧ Q U ∧ Below wx.heap.size wx w')
    (HA : ∀ (wx : World) (p' q' : Option Addr) (c1 c2 : Nat), Below w.heap.size w wx → Arg wx p' n c1 zN → Arg wx q' k c2 zD → Calls Tryz.prog 11 #[.int .u64 X] wx fun r w' => ∃ U : Int, r = .returned (.int .u64 U) ∧ Q U ∧ Below wx.heap.size wx w') :
    EBth 10 X Y I pn pc pm px neg p q n k cap cap' ex more w zN zD := by
  refine ⟨fun a9 => ∃ U : Int, Q U ∧ a9 = (⟨U, 0, 0, false, false, 0, 0, 0, 0, []⟩ : AV), ?_, ?_, ?_⟩
  · rintro a9 b9 ⟨U, h, rfl⟩ ⟨U', h', rfl⟩
    obtain rfl := one U U' h h'
    rfl
  · intro wx hB
    refine (ewanted10 X Y I pn pc pm px neg p q n k cap cap' ex more wx Q (fun wy hy => HW wy (hB.trans (hy.mono hB.size)))).mono ?_
    rintro r w' ⟨U, rfl, hQ, hw⟩
    exact ⟨⟨U, 0, 0, false, false, 0, 0, 0, 0, []⟩, none, 0, rfl, ⟨U, hQ, rfl⟩, arg_nil _, (fun a' h => by cases h), hw⟩
  · intro wx p' q' c1 c2 hB aN aD
    refine (easked10 X Y I pn pc pm px neg p' q' n k c1 c2 ex more wx Q (fun wy hy => HA wy p' q' c1 c2 (hB.trans (hy.mono hB.size)) (aN.below hy (Nat.le_refl _)) (aD.below hy (Nat.le_refl _)))).mono ?_
    rintro r w' ⟨U, rfl, hQ, hw⟩
    exact ⟨⟨U, 0, 0, false, false, 0, 0, 0, 0, []⟩, none, 0, rfl, ⟨U, hQ, rfl⟩, arg_nil _, (fun a' h => by cases h), hw⟩

theorem both11 (X Y I : Int) (pn : Bool) (pc pm px : Int) (neg : Bool) (p q : Option Addr) (n k cap cap' : Nat) (ex : Int) (more : Bool) (w : World) (zN zD : List Int) (Q : Int → Prop) (one : ∀ (U : Int) (U' : Int), Q U → Q U' → U = U')
    (HW : ∀ wx : World, Below w.heap.size w wx → Calls Tryz.prog 22 #[.int .u64 X] wx fun r w' => ∃ U : Int, r = .returned (.int .u64 U) ∧ Q U ∧ Below wx.heap.size wx w')
    (HA : ∀ (wx : World) (p' q' : Option Addr) (c1 c2 : Nat), Below w.heap.size w wx → Arg wx p' n c1 zN → Arg wx q' k c2 zD → Calls Tryz.prog 39 #[.int .u64 X] wx fun r w' => ∃ U : Int, r = .returned (.int .u64 U) ∧ Q U ∧ Below wx.heap.size wx w') :
    EBth 11 X Y I pn pc pm px neg p q n k cap cap' ex more w zN zD := by
  refine ⟨fun a9 => ∃ U : Int, Q U ∧ a9 = (⟨U, 0, 0, false, false, 0, 0, 0, 0, []⟩ : AV), ?_, ?_, ?_⟩
  · rintro a9 b9 ⟨U, h, rfl⟩ ⟨U', h', rfl⟩
    obtain rfl := one U U' h h'
    rfl
  · intro wx hB
    refine (ewanted11 X Y I pn pc pm px neg p q n k cap cap' ex more wx Q (fun wy hy => HW wy (hB.trans (hy.mono hB.size)))).mono ?_
    rintro r w' ⟨U, rfl, hQ, hw⟩
    exact ⟨⟨U, 0, 0, false, false, 0, 0, 0, 0, []⟩, none, 0, rfl, ⟨U, hQ, rfl⟩, arg_nil _, (fun a' h => by cases h), hw⟩
  · intro wx p' q' c1 c2 hB aN aD
    refine (easked11 X Y I pn pc pm px neg p' q' n k c1 c2 ex more wx Q (fun wy hy => HA wy p' q' c1 c2 (hB.trans (hy.mono hB.size)) (aN.below hy (Nat.le_refl _)) (aD.below hy (Nat.le_refl _)))).mono ?_
    rintro r w' ⟨U, rfl, hQ, hw⟩
    exact ⟨⟨U, 0, 0, false, false, 0, 0, 0, 0, []⟩, none, 0, rfl, ⟨U, hQ, rfl⟩, arg_nil _, (fun a' h => by cases h), hw⟩

theorem both12 (X Y I : Int) (pn : Bool) (pc pm px : Int) (neg : Bool) (p q : Option Addr) (n k cap cap' : Nat) (ex : Int) (more : Bool) (w : World) (zN zD : List Int) (Q : Bool → Prop) (one : ∀ (B : Bool) (B' : Bool), Q B → Q B' → B = B')
    (HW : ∀ wx : World, Below w.heap.size w wx → Calls Tryz.prog 23 #[.int .u64 X] wx fun r w' => ∃ B : Bool, r = .returned (.bool B) ∧ Q B ∧ Below wx.heap.size wx w')
    (HA : ∀ (wx : World) (p' q' : Option Addr) (c1 c2 : Nat), Below w.heap.size w wx → Arg wx p' n c1 zN → Arg wx q' k c2 zD → Calls Tryz.prog 40 #[.int .u64 X] wx fun r w' => ∃ B : Bool, r = .returned (.bool B) ∧ Q B ∧ Below wx.heap.size wx w') :
    EBth 12 X Y I pn pc pm px neg p q n k cap cap' ex more w zN zD := by
  refine ⟨fun a9 => ∃ B : Bool, Q B ∧ a9 = (⟨0, 0, 0, B, false, 0, 0, 0, 0, []⟩ : AV), ?_, ?_, ?_⟩
  · rintro a9 b9 ⟨B, h, rfl⟩ ⟨B', h', rfl⟩
    obtain rfl := one B B' h h'
    rfl
  · intro wx hB
    refine (ewanted12 X Y I pn pc pm px neg p q n k cap cap' ex more wx Q (fun wy hy => HW wy (hB.trans (hy.mono hB.size)))).mono ?_
    rintro r w' ⟨B, rfl, hQ, hw⟩
    exact ⟨⟨0, 0, 0, B, false, 0, 0, 0, 0, []⟩, none, 0, rfl, ⟨B, hQ, rfl⟩, arg_nil _, (fun a' h => by cases h), hw⟩
  · intro wx p' q' c1 c2 hB aN aD
    refine (easked12 X Y I pn pc pm px neg p' q' n k c1 c2 ex more wx Q (fun wy hy => HA wy p' q' c1 c2 (hB.trans (hy.mono hB.size)) (aN.below hy (Nat.le_refl _)) (aD.below hy (Nat.le_refl _)))).mono ?_
    rintro r w' ⟨B, rfl, hQ, hw⟩
    exact ⟨⟨0, 0, 0, B, false, 0, 0, 0, 0, []⟩, none, 0, rfl, ⟨B, hQ, rfl⟩, arg_nil _, (fun a' h => by cases h), hw⟩

theorem both13 (X Y I : Int) (pn : Bool) (pc pm px : Int) (neg : Bool) (p q : Option Addr) (n k cap cap' : Nat) (ex : Int) (more : Bool) (w : World) (zN zD : List Int) (Q : Int → Prop) (one : ∀ (U : Int) (U' : Int), Q U → Q U' → U = U')
    (HW : ∀ wx : World, Below w.heap.size w wx → Calls Tryz.prog 24 #[.int .i64 I] wx fun r w' => ∃ U : Int, r = .returned (.int .u64 U) ∧ Q U ∧ Below wx.heap.size wx w')
    (HA : ∀ (wx : World) (p' q' : Option Addr) (c1 c2 : Nat), Below w.heap.size w wx → Arg wx p' n c1 zN → Arg wx q' k c2 zD → Calls Tryz.prog 41 #[.int .i64 I] wx fun r w' => ∃ U : Int, r = .returned (.int .u64 U) ∧ Q U ∧ Below wx.heap.size wx w') :
    EBth 13 X Y I pn pc pm px neg p q n k cap cap' ex more w zN zD := by
  refine ⟨fun a9 => ∃ U : Int, Q U ∧ a9 = (⟨U, 0, 0, false, false, 0, 0, 0, 0, []⟩ : AV), ?_, ?_, ?_⟩
  · rintro a9 b9 ⟨U, h, rfl⟩ ⟨U', h', rfl⟩
    obtain rfl := one U U' h h'
    rfl
  · intro wx hB
    refine (ewanted13 X Y I pn pc pm px neg p q n k cap cap' ex more wx Q (fun wy hy => HW wy (hB.trans (hy.mono hB.size)))).mono ?_
    rintro r w' ⟨U, rfl, hQ, hw⟩
    exact ⟨⟨U, 0, 0, false, false, 0, 0, 0, 0, []⟩, none, 0, rfl, ⟨U, hQ, rfl⟩, arg_nil _, (fun a' h => by cases h), hw⟩
  · intro wx p' q' c1 c2 hB aN aD
    refine (easked13 X Y I pn pc pm px neg p' q' n k c1 c2 ex more wx Q (fun wy hy => HA wy p' q' c1 c2 (hB.trans (hy.mono hB.size)) (aN.below hy (Nat.le_refl _)) (aD.below hy (Nat.le_refl _)))).mono ?_
    rintro r w' ⟨U, rfl, hQ, hw⟩
    exact ⟨⟨U, 0, 0, false, false, 0, 0, 0, 0, []⟩, none, 0, rfl, ⟨U, hQ, rfl⟩, arg_nil _, (fun a' h => by cases h), hw⟩

theorem both14 (X Y I : Int) (pn : Bool) (pc pm px : Int) (neg : Bool) (p q : Option Addr) (n k cap cap' : Nat) (ex : Int) (more : Bool) (w : World) (zN zD : List Int) (Q : Int → Prop) (one : ∀ (U : Int) (U' : Int), Q U → Q U' → U = U')
    (HW : ∀ wx : World, Below w.heap.size w wx → Calls Tryz.prog 25 #[.int .u64 X] wx fun r w' => ∃ U : Int, r = .returned (.int .u64 U) ∧ Q U ∧ Below wx.heap.size wx w')
    (HA : ∀ (wx : World) (p' q' : Option Addr) (c1 c2 : Nat), Below w.heap.size w wx → Arg wx p' n c1 zN → Arg wx q' k c2 zD → Calls Tryz.prog 42 #[.int .u64 X] wx fun r w' => ∃ U : Int, r = .returned (.int .u64 U) ∧ Q U ∧ Below wx.heap.size wx w') :
    EBth 14 X Y I pn pc pm px neg p q n k cap cap' ex more w zN zD := by
  refine ⟨fun a9 => ∃ U : Int, Q U ∧ a9 = (⟨U, 0, 0, false, false, 0, 0, 0, 0, []⟩ : AV), ?_, ?_, ?_⟩
  · rintro a9 b9 ⟨U, h, rfl⟩ ⟨U', h', rfl⟩
    obtain rfl := one U U' h h'
    rfl
  · intro wx hB
    refine (ewanted14 X Y I pn pc pm px neg p q n k cap cap' ex more wx Q (fun wy hy => HW wy (hB.trans (hy.mono hB.size)))).mono ?_
    rintro r w' ⟨U, rfl, hQ, hw⟩
    exact ⟨⟨U, 0, 0, false, false, 0, 0, 0, 0, []⟩, none, 0, rfl, ⟨U, hQ, rfl⟩, arg_nil _, (fun a' h => by cases h), hw⟩
  · intro wx p' q' c1 c2 hB aN aD
    refine (easked14 X Y I pn pc pm px neg p' q' n k c1 c2 ex more wx Q (fun wy hy => HA wy p' q' c1 c2 (hB.trans (hy.mono hB.size)) (aN.below hy (Nat.le_refl _)) (aD.below hy (Nat.le_refl _)))).mono ?_
    rintro r w' ⟨U, rfl, hQ, hw⟩
    exact ⟨⟨U, 0, 0, false, false, 0, 0, 0, 0, []⟩, none, 0, rfl, ⟨U, hQ, rfl⟩, arg_nil _, (fun a' h => by cases h), hw⟩

theorem both15 (X Y I : Int) (pn : Bool) (pc pm px : Int) (neg : Bool) (p q : Option Addr) (n k cap cap' : Nat) (ex : Int) (more : Bool) (w : World) (zN zD : List Int) (Q : Int → Int → Prop) (one : ∀ (V E : Int) (V' E' : Int), Q V E → Q V' E' → V = V' ∧ E = E')
    (HW : ∀ wx : World, Below w.heap.size w wx → Calls Tryz.prog 26 #[.int .u64 X] wx fun r w' => ∃ V E : Int, r = .returned (.tuple #[.int .i64 V, .int .i64 E]) ∧ Q V E ∧ Below wx.heap.size wx w')
    (HA : ∀ (wx : World) (p' q' : Option Addr) (c1 c2 : Nat), Below w.heap.size w wx → Arg wx p' n c1 zN → Arg wx q' k c2 zD → Calls Tryz.prog 43 #[.int .u64 X] wx fun r w' => ∃ V E : Int, r = .returned (.tuple #[.int .i64 V, .int .i64 E]) ∧ Q V E ∧ Below wx.heap.size wx w') :
    EBth 15 X Y I pn pc pm px neg p q n k cap cap' ex more w zN zD := by
  refine ⟨fun a9 => ∃ V E : Int, Q V E ∧ a9 = (⟨0, 0, V, false, false, 0, 0, 0, E, []⟩ : AV), ?_, ?_, ?_⟩
  · rintro a9 b9 ⟨V, E, h, rfl⟩ ⟨V', E', h', rfl⟩
    obtain ⟨rfl, rfl⟩ := one V E V' E' h h'
    rfl
  · intro wx hB
    refine (ewanted15 X Y I pn pc pm px neg p q n k cap cap' ex more wx Q (fun wy hy => HW wy (hB.trans (hy.mono hB.size)))).mono ?_
    rintro r w' ⟨V, E, rfl, hQ, hw⟩
    exact ⟨⟨0, 0, V, false, false, 0, 0, 0, E, []⟩, none, 0, rfl, ⟨V, E, hQ, rfl⟩, arg_nil _, (fun a' h => by cases h), hw⟩
  · intro wx p' q' c1 c2 hB aN aD
    refine (easked15 X Y I pn pc pm px neg p' q' n k c1 c2 ex more wx Q (fun wy hy => HA wy p' q' c1 c2 (hB.trans (hy.mono hB.size)) (aN.below hy (Nat.le_refl _)) (aD.below hy (Nat.le_refl _)))).mono ?_
    rintro r w' ⟨V, E, rfl, hQ, hw⟩
    exact ⟨⟨0, 0, V, false, false, 0, 0, 0, E, []⟩, none, 0, rfl, ⟨V, E, hQ, rfl⟩, arg_nil _, (fun a' h => by cases h), hw⟩

theorem both17 (X Y I : Int) (pn : Bool) (pc pm px : Int) (neg : Bool) (p q : Option Addr) (n k cap cap' : Nat) (ex : Int) (more : Bool) (w : World) (zN zD : List Int) (Q : Int → Int → Prop) (one : ∀ (U E : Int) (U' E' : Int), Q U E → Q U' E' → U = U' ∧ E = E')
    (HW : ∀ wx : World, Below w.heap.size w wx → Calls Tryz.prog 28 #[.bool neg, .slice p n cap, .int .i64 ex, .bool more] wx fun r w' => ∃ U E : Int, r = .returned (.tuple #[.int .u64 U, .int .i64 E]) ∧ Q U E ∧ Below wx.heap.size wx w')
    (HA : ∀ (wx : World) (p' q' : Option Addr) (c1 c2 : Nat), Below w.heap.size w wx → Arg wx p' n c1 zN → Arg wx q' k c2 zD → Calls Tryz.prog 45 #[.bool neg, .slice p' n c1, .int .i64 ex, .bool more] wx fun r w' => ∃ U E : Int, r = .returned (.tuple #[.int .u64 U, .int .i64 E]) ∧ Q U E ∧ Below wx.heap.size wx w') :
    EBth 17 X Y I pn pc pm px neg p q n k cap cap' ex more w zN zD := by
  refine ⟨fun a9 => ∃ U E : Int, Q U E ∧ a9 = (⟨U, 0, 0, false, false, 0, 0, 0, E, []⟩ : AV), ?_, ?_, ?_⟩
  · rintro a9 b9 ⟨U, E, h, rfl⟩ ⟨U', E', h', rfl⟩
    obtain ⟨rfl, rfl⟩ := one U E U' E' h h'
    rfl
  · intro wx hB
    refine (ewanted17 X Y I pn pc pm px neg p q n k cap cap' ex more wx Q (fun wy hy => HW wy (hB.trans (hy.mono hB.size)))).mono ?_
    rintro r w' ⟨U, E, rfl, hQ, hw⟩
    exact ⟨⟨U, 0, 0, false, false, 0, 0, 0, E, []⟩, none, 0, rfl, ⟨U, E, hQ, rfl⟩, arg_nil _, (fun a' h => by cases h), hw⟩
  · intro wx p' q' c1 c2 hB aN aD
    refine (easked17 X Y I pn pc pm px neg p' q' n k c1 c2 ex more wx Q (fun wy hy => HA wy p' q' c1 c2 (hB.trans (hy.mono hB.size)) (aN.below hy (Nat.le_refl _)) (aD.below hy (Nat.le_refl _)))).mono ?_
    rintro r w' ⟨U, E, rfl, hQ, hw⟩
    exact ⟨⟨U, 0, 0, false, false, 0, 0, 0, E, []⟩, none, 0, rfl, ⟨U, E, hQ, rfl⟩, arg_nil _, (fun a' h => by cases h), hw⟩

theorem both18 (X Y I : Int) (pn : Bool) (pc pm px : Int) (neg : Bool) (p q : Option Addr) (n k cap cap' : Nat) (ex : Int) (more : Bool) (w : World) (zN zD : List Int) (Q : Int → Int → Prop) (one : ∀ (U E : Int) (U' E' : Int), Q U E → Q U' E' → U = U' ∧ E = E')
    (HW : ∀ wx : World, Below w.heap.size w wx → Calls Tryz.prog 29 #[.bool neg, .slice p n cap, .slice q k cap', .int .i64 ex] wx fun r w' => ∃ U E : Int, r = .returned (.tuple #[.int .u64 U, .int .i64 E]) ∧ Q U E ∧ Below wx.heap.size wx w')
    (HA : ∀ (wx : World) (p' q' : Option Addr) (c1 c2 : Nat), Below w.heap.size w wx → Arg wx p' n c1 zN → Arg wx q' k c2 zD → Calls Tryz.prog 9 #[.bool neg, .slice p' n c1, .slice q' k c2, .int .i64 ex] wx fun r w' => ∃ U E : Int, r = .returned (.tuple #[.int .u64 U, .int .i64 E]) ∧ Q U E ∧ Below wx.heap.size wx w') :
    EBth 18 X Y I pn pc pm px neg p q n k cap cap' ex more w zN zD := by
  refine ⟨fun a9 => ∃ U E : Int, Q U E ∧ a9 = (⟨U, 0, 0, false, false, 0, 0, 0, E, []⟩ : AV), ?_, ?_, ?_⟩
  · rintro a9 b9 ⟨U, E, h, rfl⟩ ⟨U', E', h', rfl⟩
    obtain ⟨rfl, rfl⟩ := one U E U' E' h h'
    rfl
  · intro wx hB
    refine (ewanted18 X Y I pn pc pm px neg p q n k cap cap' ex more wx Q (fun wy hy => HW wy (hB.trans (hy.mono hB.size)))).mono ?_
    rintro r w' ⟨U, E, rfl, hQ, hw⟩
    exact ⟨⟨U, 0, 0, false, false, 0, 0, 0, E, []⟩, none, 0, rfl, ⟨U, E, hQ, rfl⟩, arg_nil _, (fun a' h => by cases h), hw⟩
  · intro wx p' q' c1 c2 hB aN aD
    refine (easked18 X Y I pn pc pm px neg p' q' n k c1 c2 ex more wx Q (fun wy hy => HA wy p' q' c1 c2 (hB.trans (hy.mono hB.size)) (aN.below hy (Nat.le_refl _)) (aD.below hy (Nat.le_refl _)))).mono ?_
    rintro r w' ⟨U, E, rfl, hQ, hw⟩
    exact ⟨⟨U, 0, 0, false, false, 0, 0, 0, E, []⟩, none, 0, rfl, ⟨U, E, hQ, rfl⟩, arg_nil _, (fun a' h => by cases h), hw⟩

theorem both16 (X Y I : Int) (pn : Bool) (pc pm px : Int) (neg : Bool) (p q : Option Addr) (n k cap cap' : Nat) (ex : Int) (more : Bool) (w : World) (zN zD : List Int) (Q : Bool → Int → Int → Prop) (one : ∀ (B : Bool) (E v : Int) (B' : Bool) (E' v' : Int), Q B E v → Q B' E' v' → B = B' ∧ E = E' ∧ v = v')
    (HW : ∀ wx : World, Below w.heap.size w wx → Calls Tryz.prog 27 #[.int .u64 X] wx fun r w' => ∃ (B : Bool) (E v : Int) (pl : Option Addr) (os : List Int), r = .returned (.tuple #[.bool B, .slice pl (List.length os) (List.length os), .int .i64 E]) ∧ Q B E v ∧ Ans wx.heap.size w' pl os v ∧ Below wx.heap.size wx w')
    (HA : ∀ wx : World, Below w.heap.size w wx → Calls Tryz.prog 44 #[.int .u64 X] wx fun r w' => ∃ (B : Bool) (E v : Int) (pl : Option Addr) (os : List Int), r = .returned (.tuple #[.bool B, .slice pl (List.length os) (List.length os), .int .i64 E]) ∧ Q B E v ∧ Ans wx.heap.size w' pl os v ∧ Below wx.heap.size wx w')
    (fit : ∀ B E v, Q B E v → v < Nm.pw 4096) :
    EBth 16 X Y I pn pc pm px neg p q n k cap cap' ex more w zN zD := by
  refine ⟨fun a9 => ∃ (B : Bool) (E v : Int) (os : List Int), Q B E v ∧ Nm.Limbs os ∧ Nm.tsize os = os.length ∧ Nm.val os = v ∧ a9 = (⟨0, 0, 0, B, false, 0, 0, 0, E, os⟩ : AV), ?_, ?_, ?_⟩
  · rintro a9 b9 ⟨B, E, v, os, h, l1, t1, v1, rfl⟩ ⟨B', E', v', os', h', l2, t2, v2, rfl⟩
    obtain ⟨rfl, rfl, rfl⟩ := one B E v B' E' v' h h'
    have e : os = os' := Nm.canon l1 l2 t1 t2 (v1.trans v2.symm)
    rw [e]
  · intro wx hB
    refine (ewanted16 X Y I pn pc pm px neg p q n k cap cap' ex more wx Q (fun wy hy => HW wy (hB.trans (hy.mono hB.size)))).mono ?_
    rintro r w' ⟨B, E, v, pl, os, rfl, hQ, A, hw⟩
    exact ⟨⟨0, 0, 0, B, false, 0, 0, 0, E, os⟩, pl, _, rfl, ⟨B, E, v, os, hQ, A.2.1, A.2.2.1, A.2.2.2.1, rfl⟩, A.arg (by have := A.small (fit B E v hQ); omega), A.2.2.2.2, hw⟩
  · intro wx p' q' c1 c2 hB aN aD
    refine (easked16 X Y I pn pc pm px neg p' q' n k c1 c2 ex more wx Q (fun wy hy => HA wy (hB.trans (hy.mono hB.size)))).mono ?_
    rintro r w' ⟨B, E, v, pl, os, rfl, hQ, A, hw⟩
    exact ⟨⟨0, 0, 0, B, false, 0, 0, 0, E, os⟩, pl, _, rfl, ⟨B, E, v, os, hQ, A.2.1, A.2.2.1, A.2.2.2.1, rfl⟩, A.arg (by have := A.small (fit B E v hQ); omega), A.2.2.2.2, hw⟩
end Go.Proofs.YtbmbijadnojfaaaGreatDoor

/-
  asked and wanted: a kind that is none (made by mkeask.py).
-/
namespace Go.Proofs.YtbmbijadnojfaaaGreatDoor
open Go Go.RowKit Go.Deep

set_option maxRecDepth 100000 in
set_option maxHeartbeats 4000000 in
theorem easked_other (kd : Int) (X Y I : Int) (pn : Bool) (pc pm px : Int) (neg : Bool) (p q : Option Addr) (n k cap cap' : Nat) (ex : Int) (more : Bool) (w : World) (hk : kd < 1 ∨ 18 < kd) :
    Calls Tryz.prog 8 #[opOf kd X Y I pn pc pm px neg (.slice p n cap) (.slice q k cap') ex more] w fun r w' => r = .returned (ansOf 0 0 0 false false 0 0 0 (.slice none 0 0) 0) ∧ Below w.heap.size w w' := by
  simp only [opOf, ansOf]
  have k1 : (kd == 1) = false := by rw [beq_eq_false_iff_ne]; omega
  have k2 : (kd == 2) = false := by rw [beq_eq_false_iff_ne]; omega
  have k3 : (kd == 3) = false := by rw [beq_eq_false_iff_ne]; omega
  have k4 : (kd == 4) = false := by rw [beq_eq_false_iff_ne]; omega
  have k5 : (kd == 5) = false := by rw [beq_eq_false_iff_ne]; omega
  have k6 : (kd == 6) = false := by rw [beq_eq_false_iff_ne]; omega
  have k7 : (kd == 7) = false := by rw [beq_eq_false_iff_ne]; omega
  have k8 : (kd == 8) = false := by rw [beq_eq_false_iff_ne]; omega
  have k9 : (kd == 9) = false := by rw [beq_eq_false_iff_ne]; omega
  have k10 : (kd == 10) = false := by rw [beq_eq_false_iff_ne]; omega
  have k11 : (kd == 11) = false := by rw [beq_eq_false_iff_ne]; omega
  have k12 : (kd == 12) = false := by rw [beq_eq_false_iff_ne]; omega
  have k13 : (kd == 13) = false := by rw [beq_eq_false_iff_ne]; omega
  have k14 : (kd == 14) = false := by rw [beq_eq_false_iff_ne]; omega
  have k15 : (kd == 15) = false := by rw [beq_eq_false_iff_ne]; omega
  have k16 : (kd == 16) = false := by rw [beq_eq_false_iff_ne]; omega
  have k17 : (kd == 17) = false := by rw [beq_eq_false_iff_ne]; omega
  have k18 : (kd == 18) = false := by rw [beq_eq_false_iff_ne]; omega
  clear hk
  go_enter Tryz.func8, Tryz.ntmps8
  go_wp2_with fail
  (try simp only [Exit.inBlock, Exit.then])
  refine bodyPost_ret (results_cell_row rfl _ _ (w.heap.size + 1) 31 _ (0, 0) _ rfl (heap_alloc3_mid _ _ _ _ _) Tryz.underlying31 rfl (by kernel_rfl)) rfl ?_
  exact ⟨rfl, alloc3_below _ _ _ _⟩

set_option maxRecDepth 100000 in
set_option maxHeartbeats 4000000 in
theorem ewanted_other (kd : Int) (X Y I : Int) (pn : Bool) (pc pm px : Int) (neg : Bool) (p q : Option Addr) (n k cap cap' : Nat) (ex : Int) (more : Bool) (w : World) (hk : kd < 1 ∨ 18 < kd) :
    Calls Tryz.prog 5 #[opOf kd X Y I pn pc pm px neg (.slice p n cap) (.slice q k cap') ex more] w fun r w' => r = .returned (ansOf 0 0 0 false false 0 0 0 (.slice none 0 0) 0) ∧ Below w.heap.size w w' := by
  simp only [opOf, ansOf]
  have k1 : (kd == 1) = false := by rw [beq_eq_false_iff_ne]; omega
  have k2 : (kd == 2) = false := by rw [beq_eq_false_iff_ne]; omega
  have k3 : (kd == 3) = false := by rw [beq_eq_false_iff_ne]; omega
  have k4 : (kd == 4) = false := by rw [beq_eq_false_iff_ne]; omega
  have k5 : (kd == 5) = false := by rw [beq_eq_false_iff_ne]; omega
  have k6 : (kd == 6) = false := by rw [beq_eq_false_iff_ne]; omega
  have k7 : (kd == 7) = false := by rw [beq_eq_false_iff_ne]; omega
  have k8 : (kd == 8) = false := by rw [beq_eq_false_iff_ne]; omega
  have k9 : (kd == 9) = false := by rw [beq_eq_false_iff_ne]; omega
  have k10 : (kd == 10) = false := by rw [beq_eq_false_iff_ne]; omega
  have k11 : (kd == 11) = false := by rw [beq_eq_false_iff_ne]; omega
  have k12 : (kd == 12) = false := by rw [beq_eq_false_iff_ne]; omega
  have k13 : (kd == 13) = false := by rw [beq_eq_false_iff_ne]; omega
  have k14 : (kd == 14) = false := by rw [beq_eq_false_iff_ne]; omega
  have k15 : (kd == 15) = false := by rw [beq_eq_false_iff_ne]; omega
  have k16 : (kd == 16) = false := by rw [beq_eq_false_iff_ne]; omega
  have k17 : (kd == 17) = false := by rw [beq_eq_false_iff_ne]; omega
  have k18 : (kd == 18) = false := by rw [beq_eq_false_iff_ne]; omega
  clear hk
  go_enter Tryz.func5, Tryz.ntmps5
  go_wp2_with fail
  (try simp only [Exit.inBlock, Exit.then])
  refine bodyPost_ret (results_cell_row rfl _ _ (w.heap.size + 1) 31 _ (0, 0) _ rfl (heap_alloc3_mid _ _ _ _ _) Tryz.underlying31 rfl (by kernel_rfl)) rfl ?_
  exact ⟨rfl, alloc3_below _ _ _ _⟩

end Go.Proofs.YtbmbijadnojfaaaGreatDoor

/-
  The document's Encode (made by mkzenc.py).
-/
namespace Go.Proofs.YtbmbijadnojfaaaGreatDoor
open Go Go.RowKit Go.Deep

theorem Ie.dec_range (d : Int) : (0 ≤ Ie.cls d ∧ Ie.cls d ≤ 4) ∧ Ie.dm d < 9007199254740992 ∧ -1074 ≤ Ie.de d ∧ Ie.de d ≤ 971 := by
  rcases Ie.dec_kinds d _ rfl with ⟨c, m, x, k1⟩ | ⟨c, m, x, k1, k2⟩ | ⟨c, m, x, k1, k2⟩ | ⟨c, m, x, k1⟩ | ⟨c, m, x, k1, k2⟩
  · rw [c, m, x]; omega
  · rw [c, m, x]; omega
  · rw [c, m, x, Ie.man, if_neg (by omega), Ie.ex]; omega
  · rw [c, m, x]; omega
  · rw [c, m, x]; omega

theorem enc_out {neg : Bool} {c m e : Int} (h : c < 0 ∨ 4 < c ∨ 9007199254740992 ≤ m ∨ e < -1074 ∨ 971 < e) : EncIs neg c m e 0 40 := by
  refine .inr ⟨fun d _ _ k => ?_, rfl, rfl⟩
  have := Ie.dec_range d
  rw [k.2.1, k.2.2.1, k.2.2.2] at this
  omega

set_option maxRecDepth 100000 in
set_option maxHeartbeats 8000000 in
theorem zencode_out (neg : Bool) (c m x : Int) (w : World) (h : c < 0 ∨ 4 < c ∨ 9007199254740992 ≤ m ∨ x < -1074 ∨ 971 < x) :
    Calls Tryz.prog 13 #[partsOf neg c m x] w fun e w' => e = .returned (.tuple #[.int .u64 0, .int .i64 40]) ∧ Below w.heap.size w w' := by
  simp only [partsOf]
  by_cases g1 : c < 0
  · clear h
    go_enter Tryz.func13, Tryz.ntmps13
    go_wp2_with fail
    go_ret2
    exact ⟨rfl, alloc_below _ _⟩
  by_cases g2 : 4 < c
  · clear h
    go_enter Tryz.func13, Tryz.ntmps13
    go_wp2_with fail
    go_ret2
    exact ⟨rfl, alloc_below _ _⟩
  by_cases g3 : 9007199254740992 ≤ m
  · clear h
    go_enter Tryz.func13, Tryz.ntmps13
    go_wp2_with fail
    go_ret2
    exact ⟨rfl, alloc_below _ _⟩
  by_cases g4 : x < -1074
  · clear h
    go_enter Tryz.func13, Tryz.ntmps13
    go_wp2_with fail
    go_ret2
    exact ⟨rfl, alloc_below _ _⟩
  have g5 : 971 < x := by omega
  clear h
  go_enter Tryz.func13, Tryz.ntmps13
  go_wp2_with fail
  go_ret2
  exact ⟨rfl, alloc_below _ _⟩

set_option maxRecDepth 100000 in
set_option maxHeartbeats 8000000 in
theorem zencode_in0 (neg : Bool) (m x : Int) (w : World) (m0 : 0 ≤ m) (m1 : m < 9007199254740992) (x0 : -1074 ≤ x) (x1 : x ≤ 971) :
    Calls Tryz.prog 13 #[partsOf neg 0 m x] w fun e w' => ∃ d err, e = .returned (.tuple #[.int .u64 d, .int .i64 err]) ∧ EncIs neg 0 m x d err ∧ Below w.heap.size w w' := by
  obtain ⟨j0, j1, js⟩ := Ie.jn_bd neg 0 m x
  have hf : Ie.jf 0 x = 0 := by rw [Ie.jf]; rw [if_neg (by decide), if_neg (by decide)]
  have y0 : 0 ≤ m % 4503599627370496 ∧ m % 4503599627370496 < 4503599627370496 := by omega
  have PU : Hid (∀ (wx : World), Calls Tryz.prog 52 #[.bool neg, .int .i64 (0), .int .u64 (m % 4503599627370496)] wx fun r w' => r = .returned (.int .u64 (Ie.jn neg 0 m x)) ∧ w' = wx) := by
    intro wx
    have := zput_any neg (0) (m % 4503599627370496) wx (by omega) (by omega) (by omega) (by omega) (by omega)
    rw [Ie.jn, hf, Int.add_comm (m % 4503599627370496)]
    exact this
  have DE := hid (fun (wx : World) => zdecode_any (Ie.jn neg 0 m x) wx j0 j1)
  rw [js] at DE
  have YES : Hid ((Ie.cls (Ie.jn neg 0 m x) = 0 ∧ Ie.dm (Ie.jn neg 0 m x) = m ∧ Ie.de (Ie.jn neg 0 m x) = x) → EncIs neg 0 m x (Ie.jn neg 0 m x) 0) := fun k => .inl ⟨⟨j0, j1⟩, ⟨js, k⟩, rfl⟩
  have NO := hid (fun h => enc_no (neg := neg) (c := 0) (m := m) (e := x) h)
  generalize Ie.jn neg 0 m x = d at *
  generalize Ie.cls d = c' at *
  generalize Ie.dm d = m' at *
  generalize Ie.de d = x' at *
  simp only [partsOf] at *
  have AL : Hid (∀ (g g' : Obj) (w1 : World), g = .cells #[.bool neg, .int .i64 0, .int .u64 m, .int .i64 x] 26 → Below (w.alloc g).heap.size (w.alloc g) w1 → Below w.heap.size w (w1.alloc g') ∧ (w1.alloc g').cell? ⟨w.heap.size, 0, none⟩ = some (.bool neg) ∧ (w1.alloc g').cell? ⟨w.heap.size, 1, none⟩ = some (.int .i64 0) ∧ (w1.alloc g').cell? ⟨w.heap.size, 2, none⟩ = some (.int .u64 m) ∧ (w1.alloc g').cell? ⟨w.heap.size, 3, none⟩ = some (.int .i64 x)) := by
    intro g g' w1 hg hB
    subst hg
    have hb := alloc_below w (.cells #[.bool neg, .int .i64 0, .int .u64 m, .int .i64 x] 26)
    have hb2 := hb.trans (hB.mono hb.size)
    have hg := heap_alloc_new w (.cells #[.bool neg, .int .i64 0, .int .u64 m, .int .i64 x] 26)
    have hg1 : w1.heap[w.heap.size]? = some (.cells #[.bool neg, .int .i64 0, .int .u64 m, .int .i64 x] 26 (0, 0)) := by rw [hB.block _ (by simp)]; exact hg
    have lt : w.heap.size < w1.heap.size := by have := hB.size; simp at this; omega
    have hg2 : (w1.alloc g').heap[w.heap.size]? = some (.cells #[.bool neg, .int .i64 0, .int .u64 m, .int .i64 x] 26 (0, 0)) := by rw [heap_alloc_old w1 g' lt]; exact hg1
    refine ⟨Below.alloc hb2 hb2.size g', ?_, ?_, ?_, ?_⟩ <;> simp only [World.cell?, hg2] <;> rfl
  have four : (c' = 0 ∧ m' = m ∧ x' = x) ∨ (c' == 0) = false ∨ (c' = 0 ∧ (m' == m) = false) ∨ (c' = 0 ∧ m' = m ∧ (x' == x) = false) := by
    by_cases a : c' = 0
    · by_cases b : m' = m
      · by_cases d : x' = x
        · exact .inl ⟨a, b, d⟩
        · exact .inr (.inr (.inr ⟨a, b, by rw [beq_eq_false_iff_ne]; exact d⟩))
      · exact .inr (.inr (.inl ⟨a, by rw [beq_eq_false_iff_ne]; exact b⟩))
    · exact .inr (.inl (by rw [beq_eq_false_iff_ne]; exact a))
  clear j0 j1 js hf
  rcases four with ⟨k1, k2, k3⟩ | k1 | ⟨k1, k2⟩ | ⟨k1, k2, k3⟩
  · have EE := hid (YES.out ⟨k1, k2, k3⟩)
    clear YES NO
    subst k1
    subst k2
    subst k3
    go_enter Tryz.func13, Tryz.ntmps13
    go_wp2_with fail
    refine (PU.out _).mono ?_
    rintro e w0 ⟨rfl, hw0⟩
    subst hw0
    go_wp2_with fail
    refine (DE.out _).mono ?_
    rintro e w1 ⟨rfl, hB⟩
    obtain ⟨hB1, c0, c1, c2, c3⟩ := AL.out _ (.cells #[.bool neg, .int .i64 0, .int .u64 m', .int .i64 x'] 26) _ rfl hB
    have HB1 := hid hB1
    clear hB hB1 AL DE PU
    go_wp2_with fail
    go_ret2
    exact ⟨_, _, rfl, EE.out, HB1.out⟩
  · have EE := hid (NO.out (fun h => by rw [h.1] at k1; simp at k1))
    clear YES NO
    have k1n : ¬ c' = 0 := by rw [beq_eq_false_iff_ne] at k1; exact k1
    go_enter Tryz.func13, Tryz.ntmps13
    go_wp2_with fail
    refine (PU.out _).mono ?_
    rintro e w0 ⟨rfl, hw0⟩
    subst hw0
    go_wp2_with fail
    refine (DE.out _).mono ?_
    rintro e w1 ⟨rfl, hB⟩
    obtain ⟨hB1, c0, c1, c2, c3⟩ := AL.out _ (.cells #[.bool neg, .int .i64 c', .int .u64 m', .int .i64 x'] 26) _ rfl hB
    have HB1 := hid hB1
    clear hB hB1 AL DE PU
    go_wp2_with fail
    go_ret2
    exact ⟨_, _, rfl, EE.out, HB1.out⟩
  · have EE := hid (NO.out (fun h => by rw [h.2.1] at k2; simp at k2))
    clear YES NO
    subst k1
    have k2n : ¬ m' = m := by rw [beq_eq_false_iff_ne] at k2; exact k2
    go_enter Tryz.func13, Tryz.ntmps13
    go_wp2_with fail
    refine (PU.out _).mono ?_
    rintro e w0 ⟨rfl, hw0⟩
    subst hw0
    go_wp2_with fail
    refine (DE.out _).mono ?_
    rintro e w1 ⟨rfl, hB⟩
    obtain ⟨hB1, c0, c1, c2, c3⟩ := AL.out _ (.cells #[.bool neg, .int .i64 0, .int .u64 m', .int .i64 x'] 26) _ rfl hB
    have HB1 := hid hB1
    clear hB hB1 AL DE PU
    go_wp2_with fail
    go_ret2
    exact ⟨_, _, rfl, EE.out, HB1.out⟩
  · have EE := hid (NO.out (fun h => by rw [h.2.2] at k3; simp at k3))
    clear YES NO
    subst k1
    subst k2
    have k3n : ¬ x' = x := by rw [beq_eq_false_iff_ne] at k3; exact k3
    go_enter Tryz.func13, Tryz.ntmps13
    go_wp2_with fail
    refine (PU.out _).mono ?_
    rintro e w0 ⟨rfl, hw0⟩
    subst hw0
    go_wp2_with fail
    refine (DE.out _).mono ?_
    rintro e w1 ⟨rfl, hB⟩
    obtain ⟨hB1, c0, c1, c2, c3⟩ := AL.out _ (.cells #[.bool neg, .int .i64 0, .int .u64 m', .int .i64 x'] 26) _ rfl hB
    have HB1 := hid hB1
    clear hB hB1 AL DE PU
    go_wp2_with fail
    go_ret2
    exact ⟨_, _, rfl, EE.out, HB1.out⟩

set_option maxRecDepth 100000 in
set_option maxHeartbeats 8000000 in
theorem zencode_in1 (neg : Bool) (m x : Int) (w : World) (m0 : 0 ≤ m) (m1 : m < 9007199254740992) (x0 : -1074 ≤ x) (x1 : x ≤ 971) :
    Calls Tryz.prog 13 #[partsOf neg 1 m x] w fun e w' => ∃ d err, e = .returned (.tuple #[.int .u64 d, .int .i64 err]) ∧ EncIs neg 1 m x d err ∧ Below w.heap.size w w' := by
  obtain ⟨j0, j1, js⟩ := Ie.jn_bd neg 1 m x
  have hf : Ie.jf 1 x = 0 := by rw [Ie.jf]; rw [if_neg (by decide), if_neg (by decide)]
  have y0 : 0 ≤ m % 4503599627370496 ∧ m % 4503599627370496 < 4503599627370496 := by omega
  have PU : Hid (∀ (wx : World), Calls Tryz.prog 52 #[.bool neg, .int .i64 (0), .int .u64 (m % 4503599627370496)] wx fun r w' => r = .returned (.int .u64 (Ie.jn neg 1 m x)) ∧ w' = wx) := by
    intro wx
    have := zput_any neg (0) (m % 4503599627370496) wx (by omega) (by omega) (by omega) (by omega) (by omega)
    rw [Ie.jn, hf, Int.add_comm (m % 4503599627370496)]
    exact this
  have DE := hid (fun (wx : World) => zdecode_any (Ie.jn neg 1 m x) wx j0 j1)
  rw [js] at DE
  have YES : Hid ((Ie.cls (Ie.jn neg 1 m x) = 1 ∧ Ie.dm (Ie.jn neg 1 m x) = m ∧ Ie.de (Ie.jn neg 1 m x) = x) → EncIs neg 1 m x (Ie.jn neg 1 m x) 0) := fun k => .inl ⟨⟨j0, j1⟩, ⟨js, k⟩, rfl⟩
  have NO := hid (fun h => enc_no (neg := neg) (c := 1) (m := m) (e := x) h)
  generalize Ie.jn neg 1 m x = d at *
  generalize Ie.cls d = c' at *
  generalize Ie.dm d = m' at *
  generalize Ie.de d = x' at *
  simp only [partsOf] at *
  have AL : Hid (∀ (g g' : Obj) (w1 : World), g = .cells #[.bool neg, .int .i64 1, .int .u64 m, .int .i64 x] 26 → Below (w.alloc g).heap.size (w.alloc g) w1 → Below w.heap.size w (w1.alloc g') ∧ (w1.alloc g').cell? ⟨w.heap.size, 0, none⟩ = some (.bool neg) ∧ (w1.alloc g').cell? ⟨w.heap.size, 1, none⟩ = some (.int .i64 1) ∧ (w1.alloc g').cell? ⟨w.heap.size, 2, none⟩ = some (.int .u64 m) ∧ (w1.alloc g').cell? ⟨w.heap.size, 3, none⟩ = some (.int .i64 x)) := by
    intro g g' w1 hg hB
    subst hg
    have hb := alloc_below w (.cells #[.bool neg, .int .i64 1, .int .u64 m, .int .i64 x] 26)
    have hb2 := hb.trans (hB.mono hb.size)
    have hg := heap_alloc_new w (.cells #[.bool neg, .int .i64 1, .int .u64 m, .int .i64 x] 26)
    have hg1 : w1.heap[w.heap.size]? = some (.cells #[.bool neg, .int .i64 1, .int .u64 m, .int .i64 x] 26 (0, 0)) := by rw [hB.block _ (by simp)]; exact hg
    have lt : w.heap.size < w1.heap.size := by have := hB.size; simp at this; omega
    have hg2 : (w1.alloc g').heap[w.heap.size]? = some (.cells #[.bool neg, .int .i64 1, .int .u64 m, .int .i64 x] 26 (0, 0)) := by rw [heap_alloc_old w1 g' lt]; exact hg1
    refine ⟨Below.alloc hb2 hb2.size g', ?_, ?_, ?_, ?_⟩ <;> simp only [World.cell?, hg2] <;> rfl
  have four : (c' = 1 ∧ m' = m ∧ x' = x) ∨ (c' == 1) = false ∨ (c' = 1 ∧ (m' == m) = false) ∨ (c' = 1 ∧ m' = m ∧ (x' == x) = false) := by
    by_cases a : c' = 1
    · by_cases b : m' = m
      · by_cases d : x' = x
        · exact .inl ⟨a, b, d⟩
        · exact .inr (.inr (.inr ⟨a, b, by rw [beq_eq_false_iff_ne]; exact d⟩))
      · exact .inr (.inr (.inl ⟨a, by rw [beq_eq_false_iff_ne]; exact b⟩))
    · exact .inr (.inl (by rw [beq_eq_false_iff_ne]; exact a))
  clear j0 j1 js hf
  rcases four with ⟨k1, k2, k3⟩ | k1 | ⟨k1, k2⟩ | ⟨k1, k2, k3⟩
  · have EE := hid (YES.out ⟨k1, k2, k3⟩)
    clear YES NO
    subst k1
    subst k2
    subst k3
    go_enter Tryz.func13, Tryz.ntmps13
    go_wp2_with fail
    refine (PU.out _).mono ?_
    rintro e w0 ⟨rfl, hw0⟩
    subst hw0
    go_wp2_with fail
    refine (DE.out _).mono ?_
    rintro e w1 ⟨rfl, hB⟩
    obtain ⟨hB1, c0, c1, c2, c3⟩ := AL.out _ (.cells #[.bool neg, .int .i64 1, .int .u64 m', .int .i64 x'] 26) _ rfl hB
    have HB1 := hid hB1
    clear hB hB1 AL DE PU
    go_wp2_with fail
    go_ret2
    exact ⟨_, _, rfl, EE.out, HB1.out⟩
  · have EE := hid (NO.out (fun h => by rw [h.1] at k1; simp at k1))
    clear YES NO
    have k1n : ¬ c' = 1 := by rw [beq_eq_false_iff_ne] at k1; exact k1
    go_enter Tryz.func13, Tryz.ntmps13
    go_wp2_with fail
    refine (PU.out _).mono ?_
    rintro e w0 ⟨rfl, hw0⟩
    subst hw0
    go_wp2_with fail
    refine (DE.out _).mono ?_
    rintro e w1 ⟨rfl, hB⟩
    obtain ⟨hB1, c0, c1, c2, c3⟩ := AL.out _ (.cells #[.bool neg, .int .i64 c', .int .u64 m', .int .i64 x'] 26) _ rfl hB
    have HB1 := hid hB1
    clear hB hB1 AL DE PU
    go_wp2_with fail
    go_ret2
    exact ⟨_, _, rfl, EE.out, HB1.out⟩
  · have EE := hid (NO.out (fun h => by rw [h.2.1] at k2; simp at k2))
    clear YES NO
    subst k1
    have k2n : ¬ m' = m := by rw [beq_eq_false_iff_ne] at k2; exact k2
    go_enter Tryz.func13, Tryz.ntmps13
    go_wp2_with fail
    refine (PU.out _).mono ?_
    rintro e w0 ⟨rfl, hw0⟩
    subst hw0
    go_wp2_with fail
    refine (DE.out _).mono ?_
    rintro e w1 ⟨rfl, hB⟩
    obtain ⟨hB1, c0, c1, c2, c3⟩ := AL.out _ (.cells #[.bool neg, .int .i64 1, .int .u64 m', .int .i64 x'] 26) _ rfl hB
    have HB1 := hid hB1
    clear hB hB1 AL DE PU
    go_wp2_with fail
    go_ret2
    exact ⟨_, _, rfl, EE.out, HB1.out⟩
  · have EE := hid (NO.out (fun h => by rw [h.2.2] at k3; simp at k3))
    clear YES NO
    subst k1
    subst k2
    have k3n : ¬ x' = x := by rw [beq_eq_false_iff_ne] at k3; exact k3
    go_enter Tryz.func13, Tryz.ntmps13
    go_wp2_with fail
    refine (PU.out _).mono ?_
    rintro e w0 ⟨rfl, hw0⟩
    subst hw0
    go_wp2_with fail
    refine (DE.out _).mono ?_
    rintro e w1 ⟨rfl, hB⟩
    obtain ⟨hB1, c0, c1, c2, c3⟩ := AL.out _ (.cells #[.bool neg, .int .i64 1, .int .u64 m', .int .i64 x'] 26) _ rfl hB
    have HB1 := hid hB1
    clear hB hB1 AL DE PU
    go_wp2_with fail
    go_ret2
    exact ⟨_, _, rfl, EE.out, HB1.out⟩

set_option maxRecDepth 100000 in
set_option maxHeartbeats 8000000 in
theorem zencode_in2 (neg : Bool) (m x : Int) (w : World) (m0 : 0 ≤ m) (m1 : m < 9007199254740992) (x0 : -1074 ≤ x) (x1 : x ≤ 971) :
    Calls Tryz.prog 13 #[partsOf neg 2 m x] w fun e w' => ∃ d err, e = .returned (.tuple #[.int .u64 d, .int .i64 err]) ∧ EncIs neg 2 m x d err ∧ Below w.heap.size w w' := by
  obtain ⟨j0, j1, js⟩ := Ie.jn_bd neg 2 m x
  have hf : Ie.jf 2 x = x + 1075 := by rw [Ie.jf]; rw [if_pos rfl]; omega
  have y0 : 0 ≤ m % 4503599627370496 ∧ m % 4503599627370496 < 4503599627370496 := by omega
  have PU : Hid (∀ (wx : World), Calls Tryz.prog 52 #[.bool neg, .int .i64 (x + 1075), .int .u64 (m % 4503599627370496)] wx fun r w' => r = .returned (.int .u64 (Ie.jn neg 2 m x)) ∧ w' = wx) := by
    intro wx
    have := zput_any neg (x + 1075) (m % 4503599627370496) wx (by omega) (by omega) (by omega) (by omega) (by omega)
    rw [Ie.jn, hf, Int.add_comm (m % 4503599627370496)]
    exact this
  have DE := hid (fun (wx : World) => zdecode_any (Ie.jn neg 2 m x) wx j0 j1)
  rw [js] at DE
  have YES : Hid ((Ie.cls (Ie.jn neg 2 m x) = 2 ∧ Ie.dm (Ie.jn neg 2 m x) = m ∧ Ie.de (Ie.jn neg 2 m x) = x) → EncIs neg 2 m x (Ie.jn neg 2 m x) 0) := fun k => .inl ⟨⟨j0, j1⟩, ⟨js, k⟩, rfl⟩
  have NO := hid (fun h => enc_no (neg := neg) (c := 2) (m := m) (e := x) h)
  generalize Ie.jn neg 2 m x = d at *
  generalize Ie.cls d = c' at *
  generalize Ie.dm d = m' at *
  generalize Ie.de d = x' at *
  simp only [partsOf] at *
  have AL : Hid (∀ (g g' : Obj) (w1 : World), g = .cells #[.bool neg, .int .i64 2, .int .u64 m, .int .i64 x] 26 → Below (w.alloc g).heap.size (w.alloc g) w1 → Below w.heap.size w (w1.alloc g') ∧ (w1.alloc g').cell? ⟨w.heap.size, 0, none⟩ = some (.bool neg) ∧ (w1.alloc g').cell? ⟨w.heap.size, 1, none⟩ = some (.int .i64 2) ∧ (w1.alloc g').cell? ⟨w.heap.size, 2, none⟩ = some (.int .u64 m) ∧ (w1.alloc g').cell? ⟨w.heap.size, 3, none⟩ = some (.int .i64 x)) := by
    intro g g' w1 hg hB
    subst hg
    have hb := alloc_below w (.cells #[.bool neg, .int .i64 2, .int .u64 m, .int .i64 x] 26)
    have hb2 := hb.trans (hB.mono hb.size)
    have hg := heap_alloc_new w (.cells #[.bool neg, .int .i64 2, .int .u64 m, .int .i64 x] 26)
    have hg1 : w1.heap[w.heap.size]? = some (.cells #[.bool neg, .int .i64 2, .int .u64 m, .int .i64 x] 26 (0, 0)) := by rw [hB.block _ (by simp)]; exact hg
    have lt : w.heap.size < w1.heap.size := by have := hB.size; simp at this; omega
    have hg2 : (w1.alloc g').heap[w.heap.size]? = some (.cells #[.bool neg, .int .i64 2, .int .u64 m, .int .i64 x] 26 (0, 0)) := by rw [heap_alloc_old w1 g' lt]; exact hg1
    refine ⟨Below.alloc hb2 hb2.size g', ?_, ?_, ?_, ?_⟩ <;> simp only [World.cell?, hg2] <;> rfl
  have four : (c' = 2 ∧ m' = m ∧ x' = x) ∨ (c' == 2) = false ∨ (c' = 2 ∧ (m' == m) = false) ∨ (c' = 2 ∧ m' = m ∧ (x' == x) = false) := by
    by_cases a : c' = 2
    · by_cases b : m' = m
      · by_cases d : x' = x
        · exact .inl ⟨a, b, d⟩
        · exact .inr (.inr (.inr ⟨a, b, by rw [beq_eq_false_iff_ne]; exact d⟩))
      · exact .inr (.inr (.inl ⟨a, by rw [beq_eq_false_iff_ne]; exact b⟩))
    · exact .inr (.inl (by rw [beq_eq_false_iff_ne]; exact a))
  clear j0 j1 js hf
  rcases four with ⟨k1, k2, k3⟩ | k1 | ⟨k1, k2⟩ | ⟨k1, k2, k3⟩
  · have EE := hid (YES.out ⟨k1, k2, k3⟩)
    clear YES NO
    subst k1
    subst k2
    subst k3
    go_enter Tryz.func13, Tryz.ntmps13
    go_wp2_with fail
    refine (PU.out _).mono ?_
    rintro e w0 ⟨rfl, hw0⟩
    subst hw0
    go_wp2_with fail
    refine (DE.out _).mono ?_
    rintro e w1 ⟨rfl, hB⟩
    obtain ⟨hB1, c0, c1, c2, c3⟩ := AL.out _ (.cells #[.bool neg, .int .i64 2, .int .u64 m', .int .i64 x'] 26) _ rfl hB
    have HB1 := hid hB1
    clear hB hB1 AL DE PU
    go_wp2_with fail
    go_ret2
    exact ⟨_, _, rfl, EE.out, HB1.out⟩
  · have EE := hid (NO.out (fun h => by rw [h.1] at k1; simp at k1))
    clear YES NO
    have k1n : ¬ c' = 2 := by rw [beq_eq_false_iff_ne] at k1; exact k1
    go_enter Tryz.func13, Tryz.ntmps13
    go_wp2_with fail
    refine (PU.out _).mono ?_
    rintro e w0 ⟨rfl, hw0⟩
    subst hw0
    go_wp2_with fail
    refine (DE.out _).mono ?_
    rintro e w1 ⟨rfl, hB⟩
    obtain ⟨hB1, c0, c1, c2, c3⟩ := AL.out _ (.cells #[.bool neg, .int .i64 c', .int .u64 m', .int .i64 x'] 26) _ rfl hB
    have HB1 := hid hB1
    clear hB hB1 AL DE PU
    go_wp2_with fail
    go_ret2
    exact ⟨_, _, rfl, EE.out, HB1.out⟩
  · have EE := hid (NO.out (fun h => by rw [h.2.1] at k2; simp at k2))
    clear YES NO
    subst k1
    have k2n : ¬ m' = m := by rw [beq_eq_false_iff_ne] at k2; exact k2
    go_enter Tryz.func13, Tryz.ntmps13
    go_wp2_with fail
    refine (PU.out _).mono ?_
    rintro e w0 ⟨rfl, hw0⟩
    subst hw0
    go_wp2_with fail
    refine (DE.out _).mono ?_
    rintro e w1 ⟨rfl, hB⟩
    obtain ⟨hB1, c0, c1, c2, c3⟩ := AL.out _ (.cells #[.bool neg, .int .i64 2, .int .u64 m', .int .i64 x'] 26) _ rfl hB
    have HB1 := hid hB1
    clear hB hB1 AL DE PU
    go_wp2_with fail
    go_ret2
    exact ⟨_, _, rfl, EE.out, HB1.out⟩
  · have EE := hid (NO.out (fun h => by rw [h.2.2] at k3; simp at k3))
    clear YES NO
    subst k1
    subst k2
    have k3n : ¬ x' = x := by rw [beq_eq_false_iff_ne] at k3; exact k3
    go_enter Tryz.func13, Tryz.ntmps13
    go_wp2_with fail
    refine (PU.out _).mono ?_
    rintro e w0 ⟨rfl, hw0⟩
    subst hw0
    go_wp2_with fail
    refine (DE.out _).mono ?_
    rintro e w1 ⟨rfl, hB⟩
    obtain ⟨hB1, c0, c1, c2, c3⟩ := AL.out _ (.cells #[.bool neg, .int .i64 2, .int .u64 m', .int .i64 x'] 26) _ rfl hB
    have HB1 := hid hB1
    clear hB hB1 AL DE PU
    go_wp2_with fail
    go_ret2
    exact ⟨_, _, rfl, EE.out, HB1.out⟩
end Go.Proofs.YtbmbijadnojfaaaGreatDoor

/-
  The document's Encode, the rest (made by mkzenc.py).
-/
namespace Go.Proofs.YtbmbijadnojfaaaGreatDoor
open Go Go.RowKit Go.Deep

set_option maxRecDepth 100000 in
set_option maxHeartbeats 8000000 in
theorem zencode_in3 (neg : Bool) (m x : Int) (w : World) (m0 : 0 ≤ m) (m1 : m < 9007199254740992) (x0 : -1074 ≤ x) (x1 : x ≤ 971) :
    Calls Tryz.prog 13 #[partsOf neg 3 m x] w fun e w' => ∃ d err, e = .returned (.tuple #[.int .u64 d, .int .i64 err]) ∧ EncIs neg 3 m x d err ∧ Below w.heap.size w w' := by
  obtain ⟨j0, j1, js⟩ := Ie.jn_bd neg 3 m x
  have hf : Ie.jf 3 x = 2047 := by rw [Ie.jf]; rw [if_neg (by decide), if_pos (by decide)]
  have y0 : 0 ≤ m % 4503599627370496 ∧ m % 4503599627370496 < 4503599627370496 := by omega
  have PU : Hid (∀ (wx : World), Calls Tryz.prog 52 #[.bool neg, .int .i64 (2047), .int .u64 (m % 4503599627370496)] wx fun r w' => r = .returned (.int .u64 (Ie.jn neg 3 m x)) ∧ w' = wx) := by
    intro wx
    have := zput_any neg (2047) (m % 4503599627370496) wx (by omega) (by omega) (by omega) (by omega) (by omega)
    rw [Ie.jn, hf, Int.add_comm (m % 4503599627370496)]
    exact this
  have DE := hid (fun (wx : World) => zdecode_any (Ie.jn neg 3 m x) wx j0 j1)
  rw [js] at DE
  have YES : Hid ((Ie.cls (Ie.jn neg 3 m x) = 3 ∧ Ie.dm (Ie.jn neg 3 m x) = m ∧ Ie.de (Ie.jn neg 3 m x) = x) → EncIs neg 3 m x (Ie.jn neg 3 m x) 0) := fun k => .inl ⟨⟨j0, j1⟩, ⟨js, k⟩, rfl⟩
  have NO := hid (fun h => enc_no (neg := neg) (c := 3) (m := m) (e := x) h)
  generalize Ie.jn neg 3 m x = d at *
  generalize Ie.cls d = c' at *
  generalize Ie.dm d = m' at *
  generalize Ie.de d = x' at *
  simp only [partsOf] at *
  have AL : Hid (∀ (g g' : Obj) (w1 : World), g = .cells #[.bool neg, .int .i64 3, .int .u64 m, .int .i64 x] 26 → Below (w.alloc g).heap.size (w.alloc g) w1 → Below w.heap.size w (w1.alloc g') ∧ (w1.alloc g').cell? ⟨w.heap.size, 0, none⟩ = some (.bool neg) ∧ (w1.alloc g').cell? ⟨w.heap.size, 1, none⟩ = some (.int .i64 3) ∧ (w1.alloc g').cell? ⟨w.heap.size, 2, none⟩ = some (.int .u64 m) ∧ (w1.alloc g').cell? ⟨w.heap.size, 3, none⟩ = some (.int .i64 x)) := by
    intro g g' w1 hg hB
    subst hg
    have hb := alloc_below w (.cells #[.bool neg, .int .i64 3, .int .u64 m, .int .i64 x] 26)
    have hb2 := hb.trans (hB.mono hb.size)
    have hg := heap_alloc_new w (.cells #[.bool neg, .int .i64 3, .int .u64 m, .int .i64 x] 26)
    have hg1 : w1.heap[w.heap.size]? = some (.cells #[.bool neg, .int .i64 3, .int .u64 m, .int .i64 x] 26 (0, 0)) := by rw [hB.block _ (by simp)]; exact hg
    have lt : w.heap.size < w1.heap.size := by have := hB.size; simp at this; omega
    have hg2 : (w1.alloc g').heap[w.heap.size]? = some (.cells #[.bool neg, .int .i64 3, .int .u64 m, .int .i64 x] 26 (0, 0)) := by rw [heap_alloc_old w1 g' lt]; exact hg1
    refine ⟨Below.alloc hb2 hb2.size g', ?_, ?_, ?_, ?_⟩ <;> simp only [World.cell?, hg2] <;> rfl
  have four : (c' = 3 ∧ m' = m ∧ x' = x) ∨ (c' == 3) = false ∨ (c' = 3 ∧ (m' == m) = false) ∨ (c' = 3 ∧ m' = m ∧ (x' == x) = false) := by
    by_cases a : c' = 3
    · by_cases b : m' = m
      · by_cases d : x' = x
        · exact .inl ⟨a, b, d⟩
        · exact .inr (.inr (.inr ⟨a, b, by rw [beq_eq_false_iff_ne]; exact d⟩))
      · exact .inr (.inr (.inl ⟨a, by rw [beq_eq_false_iff_ne]; exact b⟩))
    · exact .inr (.inl (by rw [beq_eq_false_iff_ne]; exact a))
  clear j0 j1 js hf
  rcases four with ⟨k1, k2, k3⟩ | k1 | ⟨k1, k2⟩ | ⟨k1, k2, k3⟩
  · have EE := hid (YES.out ⟨k1, k2, k3⟩)
    clear YES NO
    subst k1
    subst k2
    subst k3
    go_enter Tryz.func13, Tryz.ntmps13
    go_wp2_with fail
    refine (PU.out _).mono ?_
    rintro e w0 ⟨rfl, hw0⟩
    subst hw0
    go_wp2_with fail
    refine (DE.out _).mono ?_
    rintro e w1 ⟨rfl, hB⟩
    obtain ⟨hB1, c0, c1, c2, c3⟩ := AL.out _ (.cells #[.bool neg, .int .i64 3, .int .u64 m', .int .i64 x'] 26) _ rfl hB
    have HB1 := hid hB1
    clear hB hB1 AL DE PU
    go_wp2_with fail
    go_ret2
    exact ⟨_, _, rfl, EE.out, HB1.out⟩
  · have EE := hid (NO.out (fun h => by rw [h.1] at k1; simp at k1))
    clear YES NO
    have k1n : ¬ c' = 3 := by rw [beq_eq_false_iff_ne] at k1; exact k1
    go_enter Tryz.func13, Tryz.ntmps13
    go_wp2_with fail
    refine (PU.out _).mono ?_
    rintro e w0 ⟨rfl, hw0⟩
    subst hw0
    go_wp2_with fail
    refine (DE.out _).mono ?_
    rintro e w1 ⟨rfl, hB⟩
    obtain ⟨hB1, c0, c1, c2, c3⟩ := AL.out _ (.cells #[.bool neg, .int .i64 c', .int .u64 m', .int .i64 x'] 26) _ rfl hB
    have HB1 := hid hB1
    clear hB hB1 AL DE PU
    go_wp2_with fail
    go_ret2
    exact ⟨_, _, rfl, EE.out, HB1.out⟩
  · have EE := hid (NO.out (fun h => by rw [h.2.1] at k2; simp at k2))
    clear YES NO
    subst k1
    have k2n : ¬ m' = m := by rw [beq_eq_false_iff_ne] at k2; exact k2
    go_enter Tryz.func13, Tryz.ntmps13
    go_wp2_with fail
    refine (PU.out _).mono ?_
    rintro e w0 ⟨rfl, hw0⟩
    subst hw0
    go_wp2_with fail
    refine (DE.out _).mono ?_
    rintro e w1 ⟨rfl, hB⟩
    obtain ⟨hB1, c0, c1, c2, c3⟩ := AL.out _ (.cells #[.bool neg, .int .i64 3, .int .u64 m', .int .i64 x'] 26) _ rfl hB
    have HB1 := hid hB1
    clear hB hB1 AL DE PU
    go_wp2_with fail
    go_ret2
    exact ⟨_, _, rfl, EE.out, HB1.out⟩
  · have EE := hid (NO.out (fun h => by rw [h.2.2] at k3; simp at k3))
    clear YES NO
    subst k1
    subst k2
    have k3n : ¬ x' = x := by rw [beq_eq_false_iff_ne] at k3; exact k3
    go_enter Tryz.func13, Tryz.ntmps13
    go_wp2_with fail
    refine (PU.out _).mono ?_
    rintro e w0 ⟨rfl, hw0⟩
    subst hw0
    go_wp2_with fail
    refine (DE.out _).mono ?_
    rintro e w1 ⟨rfl, hB⟩
    obtain ⟨hB1, c0, c1, c2, c3⟩ := AL.out _ (.cells #[.bool neg, .int .i64 3, .int .u64 m', .int .i64 x'] 26) _ rfl hB
    have HB1 := hid hB1
    clear hB hB1 AL DE PU
    go_wp2_with fail
    go_ret2
    exact ⟨_, _, rfl, EE.out, HB1.out⟩

set_option maxRecDepth 100000 in
set_option maxHeartbeats 8000000 in
theorem zencode_in4 (neg : Bool) (m x : Int) (w : World) (m0 : 0 ≤ m) (m1 : m < 9007199254740992) (x0 : -1074 ≤ x) (x1 : x ≤ 971) :
    Calls Tryz.prog 13 #[partsOf neg 4 m x] w fun e w' => ∃ d err, e = .returned (.tuple #[.int .u64 d, .int .i64 err]) ∧ EncIs neg 4 m x d err ∧ Below w.heap.size w w' := by
  obtain ⟨j0, j1, js⟩ := Ie.jn_bd neg 4 m x
  have hf : Ie.jf 4 x = 2047 := by rw [Ie.jf]; rw [if_neg (by decide), if_pos (by decide)]
  have y0 : 0 ≤ m % 4503599627370496 ∧ m % 4503599627370496 < 4503599627370496 := by omega
  have PU : Hid (∀ (wx : World), Calls Tryz.prog 52 #[.bool neg, .int .i64 (2047), .int .u64 (m % 4503599627370496)] wx fun r w' => r = .returned (.int .u64 (Ie.jn neg 4 m x)) ∧ w' = wx) := by
    intro wx
    have := zput_any neg (2047) (m % 4503599627370496) wx (by omega) (by omega) (by omega) (by omega) (by omega)
    rw [Ie.jn, hf, Int.add_comm (m % 4503599627370496)]
    exact this
  have DE := hid (fun (wx : World) => zdecode_any (Ie.jn neg 4 m x) wx j0 j1)
  rw [js] at DE
  have YES : Hid ((Ie.cls (Ie.jn neg 4 m x) = 4 ∧ Ie.dm (Ie.jn neg 4 m x) = m ∧ Ie.de (Ie.jn neg 4 m x) = x) → EncIs neg 4 m x (Ie.jn neg 4 m x) 0) := fun k => .inl ⟨⟨j0, j1⟩, ⟨js, k⟩, rfl⟩
  have NO := hid (fun h => enc_no (neg := neg) (c := 4) (m := m) (e := x) h)
  generalize Ie.jn neg 4 m x = d at *
  generalize Ie.cls d = c' at *
  generalize Ie.dm d = m' at *
  generalize Ie.de d = x' at *
  simp only [partsOf] at *
  have AL : Hid (∀ (g g' : Obj) (w1 : World), g = .cells #[.bool neg, .int .i64 4, .int .u64 m, .int .i64 x] 26 → Below (w.alloc g).heap.size (w.alloc g) w1 → Below w.heap.size w (w1.alloc g') ∧ (w1.alloc g').cell? ⟨w.heap.size, 0, none⟩ = some (.bool neg) ∧ (w1.alloc g').cell? ⟨w.heap.size, 1, none⟩ = some (.int .i64 4) ∧ (w1.alloc g').cell? ⟨w.heap.size, 2, none⟩ = some (.int .u64 m) ∧ (w1.alloc g').cell? ⟨w.heap.size, 3, none⟩ = some (.int .i64 x)) := by
    intro g g' w1 hg hB
    subst hg
    have hb := alloc_below w (.cells #[.bool neg, .int .i64 4, .int .u64 m, .int .i64 x] 26)
    have hb2 := hb.trans (hB.mono hb.size)
    have hg := heap_alloc_new w (.cells #[.bool neg, .int .i64 4, .int .u64 m, .int .i64 x] 26)
    have hg1 : w1.heap[w.heap.size]? = some (.cells #[.bool neg, .int .i64 4, .int .u64 m, .int .i64 x] 26 (0, 0)) := by rw [hB.block _ (by simp)]; exact hg
    have lt : w.heap.size < w1.heap.size := by have := hB.size; simp at this; omega
    have hg2 : (w1.alloc g').heap[w.heap.size]? = some (.cells #[.bool neg, .int .i64 4, .int .u64 m, .int .i64 x] 26 (0, 0)) := by rw [heap_alloc_old w1 g' lt]; exact hg1
    refine ⟨Below.alloc hb2 hb2.size g', ?_, ?_, ?_, ?_⟩ <;> simp only [World.cell?, hg2] <;> rfl
  have four : (c' = 4 ∧ m' = m ∧ x' = x) ∨ (c' == 4) = false ∨ (c' = 4 ∧ (m' == m) = false) ∨ (c' = 4 ∧ m' = m ∧ (x' == x) = false) := by
    by_cases a : c' = 4
    · by_cases b : m' = m
      · by_cases d : x' = x
        · exact .inl ⟨a, b, d⟩
        · exact .inr (.inr (.inr ⟨a, b, by rw [beq_eq_false_iff_ne]; exact d⟩))
      · exact .inr (.inr (.inl ⟨a, by rw [beq_eq_false_iff_ne]; exact b⟩))
    · exact .inr (.inl (by rw [beq_eq_false_iff_ne]; exact a))
  clear j0 j1 js hf
  rcases four with ⟨k1, k2, k3⟩ | k1 | ⟨k1, k2⟩ | ⟨k1, k2, k3⟩
  · have EE := hid (YES.out ⟨k1, k2, k3⟩)
    clear YES NO
    subst k1
    subst k2
    subst k3
    go_enter Tryz.func13, Tryz.ntmps13
    go_wp2_with fail
    refine (PU.out _).mono ?_
    rintro e w0 ⟨rfl, hw0⟩
    subst hw0
    go_wp2_with fail
    refine (DE.out _).mono ?_
    rintro e w1 ⟨rfl, hB⟩
    obtain ⟨hB1, c0, c1, c2, c3⟩ := AL.out _ (.cells #[.bool neg, .int .i64 4, .int .u64 m', .int .i64 x'] 26) _ rfl hB
    have HB1 := hid hB1
    clear hB hB1 AL DE PU
    go_wp2_with fail
    go_ret2
    exact ⟨_, _, rfl, EE.out, HB1.out⟩
  · have EE := hid (NO.out (fun h => by rw [h.1] at k1; simp at k1))
    clear YES NO
    have k1n : ¬ c' = 4 := by rw [beq_eq_false_iff_ne] at k1; exact k1
    go_enter Tryz.func13, Tryz.ntmps13
    go_wp2_with fail
    refine (PU.out _).mono ?_
    rintro e w0 ⟨rfl, hw0⟩
    subst hw0
    go_wp2_with fail
    refine (DE.out _).mono ?_
    rintro e w1 ⟨rfl, hB⟩
    obtain ⟨hB1, c0, c1, c2, c3⟩ := AL.out _ (.cells #[.bool neg, .int .i64 c', .int .u64 m', .int .i64 x'] 26) _ rfl hB
    have HB1 := hid hB1
    clear hB hB1 AL DE PU
    go_wp2_with fail
    go_ret2
    exact ⟨_, _, rfl, EE.out, HB1.out⟩
  · have EE := hid (NO.out (fun h => by rw [h.2.1] at k2; simp at k2))
    clear YES NO
    subst k1
    have k2n : ¬ m' = m := by rw [beq_eq_false_iff_ne] at k2; exact k2
    go_enter Tryz.func13, Tryz.ntmps13
    go_wp2_with fail
    refine (PU.out _).mono ?_
    rintro e w0 ⟨rfl, hw0⟩
    subst hw0
    go_wp2_with fail
    refine (DE.out _).mono ?_
    rintro e w1 ⟨rfl, hB⟩
    obtain ⟨hB1, c0, c1, c2, c3⟩ := AL.out _ (.cells #[.bool neg, .int .i64 4, .int .u64 m', .int .i64 x'] 26) _ rfl hB
    have HB1 := hid hB1
    clear hB hB1 AL DE PU
    go_wp2_with fail
    go_ret2
    exact ⟨_, _, rfl, EE.out, HB1.out⟩
  · have EE := hid (NO.out (fun h => by rw [h.2.2] at k3; simp at k3))
    clear YES NO
    subst k1
    subst k2
    have k3n : ¬ x' = x := by rw [beq_eq_false_iff_ne] at k3; exact k3
    go_enter Tryz.func13, Tryz.ntmps13
    go_wp2_with fail
    refine (PU.out _).mono ?_
    rintro e w0 ⟨rfl, hw0⟩
    subst hw0
    go_wp2_with fail
    refine (DE.out _).mono ?_
    rintro e w1 ⟨rfl, hB⟩
    obtain ⟨hB1, c0, c1, c2, c3⟩ := AL.out _ (.cells #[.bool neg, .int .i64 4, .int .u64 m', .int .i64 x'] 26) _ rfl hB
    have HB1 := hid hB1
    clear hB hB1 AL DE PU
    go_wp2_with fail
    go_ret2
    exact ⟨_, _, rfl, EE.out, HB1.out⟩

theorem zencode_any (neg : Bool) (c m x : Int) (w : World) (m0 : 0 ≤ m) :
    Calls Tryz.prog 13 #[partsOf neg c m x] w fun e w' => ∃ d err, e = .returned (.tuple #[.int .u64 d, .int .i64 err]) ∧ EncIs neg c m x d err ∧ Below w.heap.size w w' := by
  by_cases h : c < 0 ∨ 4 < c ∨ 9007199254740992 ≤ m ∨ x < -1074 ∨ 971 < x
  · exact (zencode_out neg c m x w h).mono fun e w' k => ⟨0, 40, k.1, enc_out h, k.2⟩
  · have hc : c = 0 ∨ c = 1 ∨ c = 2 ∨ c = 3 ∨ c = 4 := by omega
    have m1 : m < 9007199254740992 := by omega
    have x0 : -1074 ≤ x := by omega
    have x1 : x ≤ 971 := by omega
    rcases hc with rfl | rfl | rfl | rfl | rfl
    · exact zencode_in0 neg m x w m0 m1 x0 x1
    · exact zencode_in1 neg m x w m0 m1 x0 x1
    · exact zencode_in2 neg m x w m0 m1 x0 x1
    · exact zencode_in3 neg m x w m0 m1 x0 x1
    · exact zencode_in4 neg m x w m0 m1 x0 x1

end Go.Proofs.YtbmbijadnojfaaaGreatDoor
