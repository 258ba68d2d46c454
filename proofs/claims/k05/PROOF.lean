import PyProof.Rows.All
import Wide.All
import OpenK.AllK
import Wide.FinOn
import PySem.Challenge.RW_maypoint_k05_keys_put_longer_stretches_f
import HandS.ForExc
import HandS.ForMost
import HandS.Wide
import HandS.TupAny
import HandS.IsInst
import HandS.Zip
import HandS.Walk
import HandS.Flow
import HandS.TupLe
set_option Elab.async false
set_option linter.all false
set_option maxRecDepth 100000
namespace Y
open PySem PySem.Spec PyProof.Rows L2

/-! ### data: tuples are values here -/
inductive D where
  | non | bl (b : Bool) | int (i : Int) | str (s : Str) | tup (xs : List D) | ref (a : Addr) | ty (n : String) | kl (xs : List D)
/-- what may be written, and the script -/
inductive HQ where
  | lst (xs : List D) | ins (C : Addr) (fs : List (Str × D)) | dic (kvs : List (D × D))
abbrev Hq := Addr → Option HQ
def up (S : Hq) (a : Addr) (o : HQ) : Hq := fun b => if b = a then some o else S b
theorem up_same {S : Hq} {a : Addr} {o : HQ} : up S a o a = some o := if_pos rfl
theorem up_ne {S : Hq} {a b : Addr} {o : HQ} (h : b ≠ a) : up S a o b = S b := if_neg h

/-- a list that nobody can write: the script -/
def SqF (K : PySem.W.Frag) (H : Hp) (a : Addr) (xs : List V) : Prop :=
  (∃ o, H a = some (.frz o (.lst xs))) ∨
    ∃ (o : Obj) (its : Array Value) (n : Nat), K.lookup a = some o ∧ o.cls = .type "list" ∧ o.dict = none ∧ o.data = .seq its n ∧ its.size ≤ sizeLine ∧ Vals xs its.toList
theorem SqF.sql {K : PySem.W.Frag} {H : Hp} {a : Addr} {xs : List V} (h : SqF K H a xs) : SqL K H a xs := h.elim (fun h => .inl (.inr h)) .inr
mutual
inductive DV (K : PySem.W.Frag) (H : Hp) : D → V → Prop
  | non : DV K H .non .non
  | bl (b : Bool) : DV K H (.bl b) (.bl b)
  | int (i : Int) : DV K H (.int i) (.int i)
  | str (s : Str) : DV K H (.str s) (.str s)
  | ref (a : Addr) : DV K H (.ref a) (.ref a)
  | ty (n : String) : DV K H (.ty n) (.ty n)
  | tup {a : Addr} {xs : List V} {ds : List D} : SqT K H a xs → DVs K H ds xs → DV K H (.tup ds) (.ref a)
  | kl {a : Addr} {xs : List V} {ds : List D} : SqF K H a xs → DVs K H ds xs → DV K H (.kl ds) (.ref a)
inductive DVs (K : PySem.W.Frag) (H : Hp) : List D → List V → Prop
  | nil : DVs K H [] []
  | cons {d : D} {v : V} {ds : List D} {vs : List V} : DV K H d v → DVs K H ds vs → DVs K H (d :: ds) (v :: vs)
end
inductive Fls (K : PySem.W.Frag) (H : Hp) : List (Str × D) → List (Str × V) → Prop
  | nil : Fls K H [] []
  | cons {f : Str} {d : D} {v : V} {ds : List (Str × D)} {vs : List (Str × V)} : DV K H d v → Fls K H ds vs → Fls K H ((f, d) :: ds) ((f, v) :: vs)
inductive KD : D → Key → Prop
  | int (i : Int) : KD (.int i) (.inl i)
  | str (s : Str) : KD (.str s) (.inr s)
inductive KDs : List D → List Key → Prop
  | nil : KDs [] []
  | cons {d : D} {k : Key} {ds : List D} {ks : List Key} : KD d k → KDs ds ks → KDs (d :: ds) (k :: ks)
inductive DcK (K : PySem.W.Frag) (H : Hp) : List (D × D) → List (Key × V) → Prop
  | nil : DcK K H [] []
  | cons {k : D} {k' : Key} {d : D} {v : V} {ds : List (D × D)} {vs : List (Key × V)} : KD k k' → DV K H d v → DcK K H ds vs → DcK K H ((k, d) :: ds) ((k', v) :: vs)
inductive DcT (K : PySem.W.Frag) (H : Hp) : List (D × D) → List (List Key × V) → Prop
  | nil : DcT K H [] []
  | cons {k : List D} {k' : List Key} {d : D} {v : V} {ds : List (D × D)} {vs : List (List Key × V)} : KDs k k' → DV K H d v → DcT K H ds vs → DcT K H ((.tup k, d) :: ds) ((k', v) :: vs)

def RO (K : PySem.W.Frag) (H : Hp) (a : Addr) : HQ → Prop
  | .lst ds => ∃ xs, H a = some (.lst xs) ∧ DVs K H ds xs
  | .ins C fs => ∃ dx ys, H a = some (.ins C dx ys) ∧ Fls K H fs ys
  | .dic kvs => (∃ ys, H a = some (.dK ys) ∧ DcK K H kvs ys) ∨ (∃ ys, H a = some (.dT ys) ∧ DcT K H kvs ys)
def RH (K : PySem.W.Frag) (S : Hq) (H : Hp) : Prop := ∀ a o, S a = some o → RO K H a o
abbrev Sg := List (Option D)
structure RS (K : PySem.W.Frag) (H : Hp) (σ' : Sg) (σ : L2.St) : Prop where
  len : σ'.length = σ.length
  get : ∀ (i : Nat) d, σ'[i]? = some (some d) → ∃ v, σ[i]? = some (some v) ∧ DV K H d v
/-- what is tracked below and not here stands as it stood -/
def Fr (S : Hq) (H : Hp) (S' : Hq) (H' : Hp) : Prop := ∀ a o, H a = some o → S a = none → H' a = some o ∧ S' a = none
theorem Fr.refl {S : Hq} {H : Hp} : Fr S H S H := fun _ _ e n => ⟨e, n⟩
theorem Fr.trans {S S1 S2 : Hq} {H H1 H2 : Hp} (x : Fr S H S1 H1) (y : Fr S1 H1 S2 H2) : Fr S H S2 H2 := fun a o e n => y a o (x a o e n).1 (x a o e n).2
structure Tle (K : PySem.W.Frag) (H H' : Hp) : Prop where
  t : ∀ a xs, SqT K H a xs → SqT K H' a xs
  f : ∀ a xs, SqF K H a xs → SqF K H' a xs
section
variable {K : PySem.W.Frag} {S S' : Hq} {H H' : Hp} {a : Addr}
theorem Fr.tle (r : RH K S H) (f : Fr S H S' H') : Tle K H H' := by
  have un : ∀ {a : Addr} {o : HO}, H a = some o → (∀ xs, o ≠ .lst xs) → (∀ C d fs, o ≠ .ins C d fs) → (∀ k, o ≠ .dK k) → (∀ k, o ≠ .dT k) → S a = none := fun {a o} h n1 n2 n3 n4 => by
    cases e : S a with
    | none => rfl
    | some u =>
      have q := r a u e
      cases u with
      | lst ds => obtain ⟨xs, q, _⟩ := q; rw [h] at q; exact absurd (Option.some.inj q) (n1 _)
      | ins C fs => obtain ⟨dx, ys, q, _⟩ := q; rw [h] at q; exact absurd (Option.some.inj q) (n2 _ _ _)
      | dic kvs => rcases q with ⟨ys, q, _⟩ | ⟨ys, q, _⟩ <;> rw [h] at q
                   · exact absurd (Option.some.inj q) (n3 _)
                   · exact absurd (Option.some.inj q) (n4 _)
  refine ⟨fun a xs h => ?_, fun a xs h => ?_⟩
  · rcases h with (h | ⟨o, h⟩) | h
    · exact .inl (.inl (f a _ h (un h (fun _ z => by cases z) (fun _ _ _ z => by cases z) (fun _ z => by cases z) (fun _ z => by cases z))).1)
    · exact .inl (.inr ⟨o, (f a _ h (un h (fun _ z => by cases z) (fun _ _ _ z => by cases z) (fun _ z => by cases z) (fun _ z => by cases z))).1⟩)
    · exact .inr h
  · rcases h with ⟨o, h⟩ | h
    · exact .inl ⟨o, (f a _ h (un h (fun _ z => by cases z) (fun _ _ _ z => by cases z) (fun _ z => by cases z) (fun _ z => by cases z))).1⟩
    · exact .inr h
mutual
theorem DV.mono (t : Tle K H H') : ∀ (d : D) (v : V), DV K H d v → DV K H' d v
  | .non, _, h => by cases h; exact .non
  | .bl _, _, h => by cases h; exact .bl _
  | .int _, _, h => by cases h; exact .int _
  | .str _, _, h => by cases h; exact .str _
  | .ref _, _, h => by cases h; exact .ref _
  | .ty _, _, h => by cases h; exact .ty _
  | .tup ds, _, h => by cases h with | tup s r => exact .tup (t.t _ _ s) (DVs.mono t ds _ r)
  | .kl ds, _, h => by cases h with | kl s r => exact .kl (t.f _ _ s) (DVs.mono t ds _ r)
theorem DVs.mono (t : Tle K H H') : ∀ (ds : List D) (vs : List V), DVs K H ds vs → DVs K H' ds vs
  | [], _, h => by cases h; exact .nil
  | d :: ds, _, h => by cases h with | cons x r => exact .cons (DV.mono t d _ x) (DVs.mono t ds _ r)
end

theorem Fls.mono (t : Tle K H H') : ∀ {ds : List (Str × D)} {vs : List (Str × V)}, Fls K H ds vs → Fls K H' ds vs
  | _, _, .nil => .nil
  | _, _, .cons x r => .cons (DV.mono t _ _ x) (Fls.mono t r)
theorem DcK.mono (t : Tle K H H') : ∀ {ds : List (D × D)} {vs : List (Key × V)}, DcK K H ds vs → DcK K H' ds vs
  | _, _, .nil => .nil
  | _, _, .cons k x r => .cons k (DV.mono t _ _ x) (DcK.mono t r)
theorem DcT.mono (t : Tle K H H') : ∀ {ds : List (D × D)} {vs : List (List Key × V)}, DcT K H ds vs → DcT K H' ds vs
  | _, _, .nil => .nil
  | _, _, .cons k x r => .cons k (DV.mono t _ _ x) (DcT.mono t r)
theorem RO.stay (t : Tle K H H') {o : HQ} (x : RO K H a o) (e : H' a = H a) : RO K H' a o := by
  cases o with
  | lst ds => obtain ⟨xs, q, r⟩ := x; exact ⟨xs, e.trans q, DVs.mono t _ _ r⟩
  | ins C fs => obtain ⟨dx, ys, q, r⟩ := x; exact ⟨dx, ys, e.trans q, r.mono t⟩
  | dic kvs =>
    rcases x with ⟨ys, q, r⟩ | ⟨ys, q, r⟩
    · exact .inl ⟨ys, e.trans q, r.mono t⟩
    · exact .inr ⟨ys, e.trans q, r.mono t⟩
theorem RS.mono (t : Tle K H H') {σ' : Sg} {σ : L2.St} (x : RS K H σ' σ) : RS K H' σ' σ :=
  ⟨x.len, fun i d e => let ⟨v, q, r⟩ := x.get i d e; ⟨v, q, DV.mono t _ _ r⟩⟩
theorem RS.set {σ' : Sg} {σ : L2.St} (x : RS K H σ' σ) {d : D} {v : V} (r : DV K H d v) (i : Nat) : RS K H (σ'.set i (some d)) (σ.set i (some v)) := by
  refine ⟨by simp [x.len], fun j e h => ?_⟩
  by_cases c : i = j
  · subst c
    by_cases hi : i < σ'.length
    · rw [List.getElem?_set_self hi] at h
      cases h
      exact ⟨v, by rw [List.getElem?_set_self (by rw [← x.len]; exact hi)], r⟩
    · rw [List.getElem?_eq_none (by simpa using hi)] at h
      cases h
  · rw [List.getElem?_set_ne c] at h
    obtain ⟨w, q, r'⟩ := x.get j e h
    exact ⟨w, by rw [List.getElem?_set_ne c]; exact q, r'⟩
theorem RH.fresh (r : RH K S H) (h : H a = none) : S a = none := by
  cases e : S a with
  | none => rfl
  | some o =>
    have q := r a o e
    cases o with
    | lst ds => obtain ⟨xs, q, _⟩ := q; rw [h] at q; cases q
    | ins C fs => obtain ⟨dx, ys, q, _⟩ := q; rw [h] at q; cases q
    | dic kvs => rcases q with ⟨ys, q, _⟩ | ⟨ys, q, _⟩ <;> (rw [h] at q; cases q)
/-- a new thing below that is not tracked here -/
theorem Fr.new (r : RH K S H) {o : HO} (h : H a = none) : Fr S H S (upd H a o) := fun b u e n => ⟨by rw [upd_ne (ne_of_none e h)]; exact e, n⟩
theorem RH.new (r : RH K S H) {o : HO} (h : H a = none) : RH K S (upd H a o) := fun b u e => by
  have hb : b ≠ a := fun z => by rw [z, r.fresh h] at e; cases e
  exact (r b u e).stay ((Fr.new r h).tle r) (upd_ne hb)
/-- a new thing, tracked here too -/
theorem Fr.new2 (r : RH K S H) {o : HO} {q : HQ} (h : H a = none) : Fr S H (up S a q) (upd H a o) := fun b u e n =>
  have hb : b ≠ a := ne_of_none e h
  ⟨by rw [upd_ne hb]; exact e, by rw [up_ne hb]; exact n⟩
theorem RH.new2 (r : RH K S H) {o : HO} {q : HQ} (h : H a = none) (ok : RO K (upd H a o) a q) : RH K (up S a q) (upd H a o) := fun b u e => by
  by_cases hb : b = a
  · subst hb; rw [up_same] at e; cases e; exact ok
  · rw [up_ne hb] at e
    exact (r b u e).stay ((Fr.new r h).tle r) (upd_ne hb)
/-- a tracked thing is written -/
theorem Fr.put {o : HO} {q u : HQ} (h : S a = some u) : Fr S H (up S a q) (upd H a o) := fun b v e n =>
  have hb : b ≠ a := fun z => by rw [z, h] at n; cases n
  ⟨by rw [upd_ne hb]; exact e, by rw [up_ne hb]; exact n⟩
theorem RH.put (r : RH K S H) {o : HO} {q u : HQ} (h : S a = some u) (ok : RO K (upd H a o) a q) : RH K (up S a q) (upd H a o) := fun b v e => by
  by_cases hb : b = a
  · subst hb; rw [up_same] at e; cases e; exact ok
  · rw [up_ne hb] at e
    exact (r b v e).stay ((Fr.put (q := q) h).tle r) (upd_ne hb)
theorem RH.putTle (r : RH K S H) {o : HO} {u : HQ} (h : S a = some u) : Tle K H (upd H a o) := (Fr.put (q := u) h).tle r
theorem DVs.length : ∀ {ds : List D} {vs : List V}, DVs K H ds vs → ds.length = vs.length
  | _, _, .nil => rfl
  | _, _, .cons _ r => congrArg (· + 1) (DVs.length r)
theorem DVs.app : ∀ {ds es : List D} {vs ws : List V}, DVs K H ds vs → DVs K H es ws → DVs K H (ds ++ es) (vs ++ ws)
  | _, _, _, _, .nil, s => s
  | _, _, _, _, .cons x r, s => .cons x (DVs.app r s)
theorem DVs.get : ∀ {ds : List D} {vs : List V} {i : Nat} {d : D}, DVs K H ds vs → ds[i]? = some d → ∃ v, vs[i]? = some v ∧ DV K H d v
  | _, _, _, _, .nil, e => by simp at e
  | _, _, 0, _, .cons x r, e => by simp at e; subst e; exact ⟨_, rfl, x⟩
  | _, _, i + 1, _, .cons x r, e => by
    rw [List.getElem?_cons_succ] at e ⊢
    exact DVs.get r e
theorem DVs.set : ∀ {ds : List D} {vs : List V} {d : D} {v : V} (i : Nat), DVs K H ds vs → DV K H d v → DVs K H (ds.set i d) (vs.set i v)
  | _, _, _, _, _, .nil, _ => .nil
  | _, _, _, _, 0, .cons x r, y => .cons y r
  | _, _, _, _, i + 1, .cons x r, y => .cons x (DVs.set i r y)
theorem DVs.drop : ∀ {ds : List D} {vs : List V} (i : Nat), DVs K H ds vs → DVs K H (ds.drop i) (vs.drop i)
  | _, _, 0, r => r
  | _, _, _ + 1, .nil => .nil
  | _, _, i + 1, .cons _ r => DVs.drop i r
theorem DVs.take : ∀ {ds : List D} {vs : List V} (i : Nat), DVs K H ds vs → DVs K H (ds.take i) (vs.take i)
  | _, _, 0, _ => .nil
  | _, _, _ + 1, .nil => .nil
  | _, _, i + 1, .cons x r => .cons x (DVs.take i r)
end

/-! ### the judgements -/
abbrev Qv := D → Hq → Prop
abbrev Xw := Addr → List (Str × D) → Hq → Prop
abbrev RE := Sg → Hq → Qv → Xw → Prop
abbrev RT := Sg → Hq → (Bool → Hq → Prop) → Xw → Prop
abbrev RA := Sg → Hq → (List D → Hq → Prop) → Xw → Prop
structure En where
  nx : Sg → Hq → Prop
  rt : Qv
  bk : Sg → Hq → Prop := fun _ _ => False
  ct : Sg → Hq → Prop := fun _ _ => False
  ex : Addr → List (Str × D) → Sg → Hq → Prop := fun _ _ _ _ => False
abbrev RSt := En → Sg → Hq → Prop
def XOk (K : PySem.W.Frag) (H : Hp) (d : Addr) (fs : List (Str × D)) : Prop := ∃ ys, H d = some (.xd ys) ∧ Fls K H fs ys
/-- what follows here gives what follows below -/
def QI (K : PySem.W.Frag) (S : Hq) (H : Hp) (Q' : Qv) (Q : VK) : Prop := ∀ d S' v H', Fr S H S' H' → RH K S' H' → DV K H' d v → Q' d S' → Q v H'
def QT (K : PySem.W.Frag) (S : Hq) (H : Hp) (Q' : Bool → Hq → Prop) (Q : Bool → Hp → Prop) : Prop := ∀ b S' H', Fr S H S' H' → RH K S' H' → Q' b S' → Q b H'
def QA (K : PySem.W.Frag) (S : Hq) (H : Hp) (Q' : List D → Hq → Prop) (Q : List V → Hp → Prop) : Prop := ∀ d S' v H', Fr S H S' H' → RH K S' H' → DVs K H' d v → Q' d S' → Q v H'
def XI (K : PySem.W.Frag) (S : Hq) (H : Hp) (E' : Xw) (E : XK) : Prop := ∀ C fs S' H' d, Fr S H S' H' → RH K S' H' → XOk K H' d fs → E' C fs S' → E (.ref C) (some d) H'
def SI (K : PySem.W.Frag) (S : Hq) (H : Hp) (N' : Sg → Hq → Prop) (N : L2.St → Hp → Prop) : Prop := ∀ σ' S' σ H', Fr S H S' H' → RH K S' H' → RS K H' σ' σ → N' σ' S' → N σ H'
structure DI (K : PySem.W.Frag) (W : WX) (S : Hq) (H : Hp) (D' : En) (D : Ends) : Prop where
  nx : SI K S H D'.nx D.nx
  rt : QI K S H D'.rt D.rt
  bk : SI K S H D'.bk D.bk
  ct : SI K S H D'.ct D.ct
  ex : ∀ C fs σ' S' σ H' d, Fr S H S' H' → RH K S' H' → RS K H' σ' σ → XOk K H' d fs → D'.ex C fs σ' S' → W (.ref C) (some d) σ H'
section
variable {K : PySem.W.Frag} {S S' : Hq} {H H' : Hp} {W : WX}
theorem QI.go {Q' : Qv} {Q : VK} (x : QI K S H Q' Q) (f : Fr S H S' H') : QI K S' H' Q' Q := fun d S2 v H2 f2 => x d S2 v H2 (f.trans f2)
theorem QT.go {Q' : Bool → Hq → Prop} {Q : Bool → Hp → Prop} (x : QT K S H Q' Q) (f : Fr S H S' H') : QT K S' H' Q' Q := fun d S2 H2 f2 => x d S2 H2 (f.trans f2)
theorem QA.go {Q' : List D → Hq → Prop} {Q : List V → Hp → Prop} (x : QA K S H Q' Q) (f : Fr S H S' H') : QA K S' H' Q' Q := fun d S2 v H2 f2 => x d S2 v H2 (f.trans f2)
theorem XI.go {E' : Xw} {E : XK} (x : XI K S H E' E) (f : Fr S H S' H') : XI K S' H' E' E := fun C fs S2 H2 d f2 => x C fs S2 H2 d (f.trans f2)
theorem SI.go {N' : Sg → Hq → Prop} {N : L2.St → Hp → Prop} (x : SI K S H N' N) (f : Fr S H S' H') : SI K S' H' N' N := fun σ' S2 σ H2 f2 => x σ' S2 σ H2 (f.trans f2)
theorem DI.go {D' : En} {D : Ends} (x : DI K W S H D' D) (f : Fr S H S' H') : DI K W S' H' D' D :=
  ⟨x.nx.go f, x.rt.go f, x.bk.go f, x.ct.go f, fun C fs σ' S2 σ H2 d f2 => x.ex C fs σ' S2 σ H2 d (f.trans f2)⟩
end
abbrev wx (W : WX) (σ : L2.St) : XK := fun c d H => W c d σ H
structure EV (X : Cx) (W : WX) (e : Expr) (t : RE) : Prop where
  ex : ∃ T, PE X e T ∧ ∀ (σ : L2.St) (σ' : Sg) (H : Hp) (S : Hq) (Q : VK) (Q' : Qv) (E' : Xw), RS X.K H σ' σ → RH X.K S H → t σ' S Q' E' → QI X.K S H Q' Q → XI X.K S H E' (wx W σ) → T σ H Q
structure ET (X : Cx) (W : WX) (e : Expr) (t : RT) : Prop where
  ex : ∃ T, PT X e T ∧ ∀ (σ : L2.St) (σ' : Sg) (H : Hp) (S : Hq) (Q : Bool → Hp → Prop) (Q' : Bool → Hq → Prop) (E' : Xw), RS X.K H σ' σ → RH X.K S H → t σ' S Q' E' → QT X.K S H Q' Q → XI X.K S H E' (wx W σ) → T σ H Q
structure EW (X : Cx) (W : WX) (e : Expr) (t : RT) : Prop where
  ex : ∃ T, PW X e T ∧ ∀ (σ : L2.St) (σ' : Sg) (H : Hp) (S : Hq) (Q : Bool → Hp → Prop) (Q' : Bool → Hq → Prop) (E' : Xw), RS X.K H σ' σ → RH X.K S H → t σ' S Q' E' → QT X.K S H Q' Q → XI X.K S H E' (wx W σ) → T σ H Q
structure EA (X : Cx) (W : WX) (es : List Expr) (t : RA) : Prop where
  ex : ∃ T, PA X es T ∧ ∀ (σ : L2.St) (σ' : Sg) (H : Hp) (S : Hq) (Q : List V → Hp → Prop) (Q' : List D → Hq → Prop) (E' : Xw), RS X.K H σ' σ → RH X.K S H → t σ' S Q' E' → QA X.K S H Q' Q → XI X.K S H E' (wx W σ) → T σ H Q
structure ES (X : Cx) (W : WX) (st : Stmt) (t : RSt) : Prop where
  ex : ∃ T, PS X st T ∧ ∀ (σ : L2.St) (σ' : Sg) (H : Hp) (S : Hq) (D : Ends) (D' : En), RS X.K H σ' σ → RH X.K S H → t D' σ' S → DI X.K W S H D' D → T D σ H
structure EB (X : Cx) (W : WX) (st : List Stmt) (t : RSt) : Prop where
  ex : ∃ T, PSs X st T ∧ ∀ (σ : L2.St) (σ' : Sg) (H : Hp) (S : Hq) (D : Ends) (D' : En), RS X.K H σ' σ → RH X.K S H → t D' σ' S → DI X.K W S H D' D → T D σ H
end Y
namespace Y
open PySem PySem.Spec PyProof.Rows L2
abbrev R2q := D → D → Hq → Qv → Prop
theorem big_le {n : Nat} (h : n ≤ 1000000) : n ≤ sizeLine := Nat.le_trans h (by rw [sizeLine_eq]; decide)
theorem big_lt {n : Nat} (h : n < 1000000) : n < sizeLine := Nat.lt_of_lt_of_le h (by rw [sizeLine_eq]; decide)
abbrev LsR (S : Hq) (a : Addr) (xs : List D) : Prop := S a = some (.lst xs)
section
variable {K : PySem.W.Frag} {S : Hq} {H : Hp} {Q' : Qv} {Q : VK} {d : D} {v : V} {p a : Addr} {ds es : List D} {xs : List V}
theorem QI.here (q : QI K S H Q' Q) (r : RH K S H) (x : DV K H d v) (h : Q' d S) : Q v H := q d S v H Fr.refl r x h
theorem QI.newL (q : QI K S H Q' Q) (r : RH K S H) (hp : H p = none) (x : DVs K H ds xs) (h : Q' (.ref p) (up S p (.lst ds))) : Q (.ref p) (upd H p (.lst xs)) :=
  q _ _ _ _ (Fr.new2 r hp) (r.new2 (q := .lst ds) hp ⟨xs, upd_same, DVs.mono ((Fr.new r hp).tle r) _ _ x⟩) (.ref p) h
theorem QI.newT (q : QI K S H Q' Q) (r : RH K S H) (hp : H p = none) (x : DVs K H ds xs) (h : Q' (.tup ds) S) : Q (.ref p) (upd H p (.tup xs)) :=
  q _ _ _ _ (Fr.new r hp) (r.new hp) (.tup (.inl (.inl upd_same)) (DVs.mono ((Fr.new r hp).tle r) _ _ x)) h
theorem QI.putL (q : QI K S H Q' Q) (r : RH K S H) {es : List D} (hp : S p = some (.lst es)) (x : DVs K H ds xs) (y : DV K H d v) (h : Q' d (up S p (.lst ds))) : Q v (upd H p (.lst xs)) :=
  have t : Tle K H (upd H p (.lst xs)) := r.putTle hp
  q _ _ _ _ (Fr.put hp) (r.put (q := .lst ds) hp ⟨xs, upd_same, DVs.mono t _ _ x⟩) (DV.mono t _ _ y) h
theorem RH.sql (r : RH K S H) (h : LsR S a ds) : ∃ xs, SqL K H a xs ∧ DVs K H ds xs := by
  obtain ⟨xs, e, x⟩ := r a _ h; exact ⟨xs, .inl (.inl e), x⟩
theorem RH.lst (r : RH K S H) (h : S a = some (.lst ds)) : ∃ xs, H a = some (.lst xs) ∧ DVs K H ds xs := r a _ h
end
theorem opr_or {X : Cx} {f : Value → Value → Sem Value} {r r' : R2} (h : OpR X f r) (h' : OpR X f r') : OpR X f (fun x y H Q => r x y H Q ∨ r' x y H Q) := by
  intro pins s σ H x y v u Q I rx ry q
  rcases q with q | q
  · exact h pins s σ H x y v u Q I rx ry q
  · exact h' pins s σ H x y v u Q I rx ry q
theorem callr_or {X : Cx} {f : Value} {r r' : List V → Hp → VK → Prop} (h : CallR X f r) (h' : CallR X f r') : CallR X f (fun xs H Q => r xs H Q ∨ r' xs H Q) := by
  intro pins s σ H xs us Q I rx q
  rcases q with q | q
  · exact h pins s σ H xs us Q I rx q
  · exact h' pins s σ H xs us Q I rx q
def Lift2 (K : PySem.W.Frag) (f : R2q) (r : R2) : Prop := ∀ x y S H Q' Q v u, RH K S H → DV K H x v → DV K H y u → f x y S Q' → QI K S H Q' Q → r v u H Q

/-! ### names, constants -/
def asB (x : D) (f : Bool → Prop) : Prop := match x with | .bl k => f k | _ => False
def asI (x : D) (f : Int → Prop) : Prop := match x with | .int k => f k | _ => False
def rVar (i : Nat) : RE := fun σ S Q _ => match σ[i]? with | some (some d) => Q d S | _ => False
def rC (d : D) : RE := fun _ S Q _ => Q d S
def rBin (f : R2q) (ra rb : RE) : RE := fun σ S Q E => ra σ S (fun x S1 => rb σ S1 (fun y S2 => f x y S2 Q) E) E
def rUn (f : D → Hq → Qv → Prop) (ra : RE) : RE := fun σ S Q E => ra σ S (fun x S1 => f x S1 Q) E
section
variable {X : Cx} {W : WX} {a b c : Expr} {ra rb rc : RE} {pos : Pos}
theorem ev_var (i : Nat) {x : Str} (hN : X.N[i]? = some x := by rfl) (hv : Vis X.env.scope x := by first | exact Or.inl rfl | exact Or.inr (Or.inl rfl) | exact Or.inr (Or.inr rfl)) (hd : (x == ("__debug__" : Str)) = false := by decide)
    (hcd : (x == ("__classdict__" : Str)) = false := by decide) : EV X W (.Name x pos) (rVar i) := by
  refine ⟨_, pe_var hN hv hd hcd, fun σ σ' H S Q Q' E' rs rh h q _ => ?_⟩
  unfold rVar at h
  split at h
  · rename_i d e
    obtain ⟨v, e', r⟩ := rs.get i d e
    exact ⟨v, e', q.here rh r h⟩
  · exact h.elim
theorem ev_int {i : Int} {j} : EV X W (.Constant (.int i) j pos) (rC (.int i)) := ⟨_, pe_int, fun σ σ' H S Q Q' E' rs rh h q _ => q.here rh (.int i) h⟩
theorem ev_bl {i : Bool} {j} : EV X W (.Constant (.bool i) j pos) (rC (.bl i)) := ⟨_, pe_bl, fun σ σ' H S Q Q' E' rs rh h q _ => q.here rh (.bl i) h⟩
theorem ev_non {j} : EV X W (.Constant .none j pos) (rC .non) := ⟨_, pe_non, fun σ σ' H S Q Q' E' rs rh h q _ => q.here rh .non h⟩
theorem ev_str {i : Str} {j} : EV X W (.Constant (.str i) j pos) (rC (.str i)) := ⟨_, pe_str, fun σ σ' H S Q Q' E' rs rh h q _ => q.here rh (.str i) h⟩
/-- a module's constant -/
theorem ev_glob {x : Str} {d : D} {v : V} {u : Value} (hg : Gl X x) (hm : X.mg x = some u) (r : RelV v u) (dv : ∀ H, DV X.K H d v) (hd : (x == ("__debug__" : Str)) = false := by decide) : EV X W (.Name x pos) (rC d) :=
  ⟨_, pe_glob hg hm r hd, fun σ σ' H S Q Q' E' rs rh h q _ => q.here rh (dv H) h⟩
theorem ev_bin {op : Operator} {f : R2q} {r : R2} (ho : OpR X (binaryOp op) r) (hl : Lift2 X.K f r) (ha : EV X W a ra) (hb : EV X W b rb) : EV X W (.BinOp a op b pos) (rBin f ra rb) := by
  obtain ⟨Ta, pa, la⟩ := ha.ex
  obtain ⟨Tb, pb, lb⟩ := hb.ex
  refine ⟨_, pe_op ho pa pb, fun σ σ' H S Q Q' E' rs rh h q xi => ?_⟩
  refine la σ σ' H S _ _ E' rs rh h (fun d S1 v H1 f1 rh1 dv h1 => ?_) xi
  refine lb σ σ' H1 S1 _ _ E' (rs.mono (f1.tle rh)) rh1 h1 (fun e S2 u H2 f2 rh2 du h2 => ?_) (xi.go f1)
  exact hl _ _ _ _ _ _ _ _ rh2 (DV.mono (f2.tle rh1) _ _ dv) du h2 (q.go (f1.trans f2))
theorem ev_cmp {op : CmpOp} {f : R2q} {r : R2} (ho : OpR X (compareOp op) r) (hl : Lift2 X.K f r) (ha : EV X W a ra) (hb : EV X W b rb) (hm : behindInMarks op b = false := by first | rfl | exact nomark _) : EV X W (.Compare a [op] [b] pos) (rBin f ra rb) := by
  obtain ⟨Ta, pa, la⟩ := ha.ex
  obtain ⟨Tb, pb, lb⟩ := hb.ex
  refine ⟨_, pe_cmpR ho pa pb hm, fun σ σ' H S Q Q' E' rs rh h q xi => ?_⟩
  refine la σ σ' H S _ _ E' rs rh h (fun d S1 v H1 f1 rh1 dv h1 => ?_) xi
  refine lb σ σ' H1 S1 _ _ E' (rs.mono (f1.tle rh)) rh1 h1 (fun e S2 u H2 f2 rh2 du h2 => ?_) (xi.go f1)
  exact hl _ _ _ _ _ _ _ _ rh2 (DV.mono (f2.tle rh1) _ _ dv) du h2 (q.go (f1.trans f2))
/-- a test: the value must be a bool -/
def rTst (r : RE) : RT := fun σ S Q E => r σ S (fun x S1 => asB x fun k => Q k S1) E
theorem et_cmp {op : CmpOp} {f : R2q} {r : R2} (ho : OpR X (compareOp op) r) (hl : Lift2 X.K f r) (ha : EV X W a ra) (hb : EV X W b rb) (hm : behindInMarks op b = false := by first | rfl | exact nomark _) : ET X W (.Compare a [op] [b] pos) (rTst (rBin f ra rb)) := by
  obtain ⟨Ta, pa, la⟩ := ha.ex
  obtain ⟨Tb, pb, lb⟩ := hb.ex
  refine ⟨_, pt_cmpR ho pa pb hm, fun σ σ' H S Q Q' E' rs rh h q xi => ?_⟩
  refine la σ σ' H S _ _ E' rs rh h (fun d S1 v H1 f1 rh1 dv h1 => ?_) xi
  refine lb σ σ' H1 S1 _ _ E' (rs.mono (f1.tle rh)) rh1 h1 (fun e S2 u H2 f2 rh2 du h2 => ?_) (xi.go f1)
  refine hl _ _ _ _ _ _ _ _ rh2 (DV.mono (f2.tle rh1) _ _ dv) du h2 fun z S3 w H3 f3 rh3 dz h3 => ?_
  cases z <;> try exact h3.elim
  cases dz
  exact ⟨_, rfl, q _ _ _ ((f1.trans f2).trans f3) rh3 h3⟩
def rChn (f f' : R2q) (ra rb rc : RE) : RE := fun σ S Q E => ra σ S (fun x S1 => rb σ S1 (fun y S2 => f x y S2 (fun z S3 => asB z fun k => if k = true then rc σ S3 (fun w S4 => f' y w S4 Q) E else Q (.bl false) S3)) E) E
theorem ev_chn {op op' : CmpOp} {f f' : R2q} {r r' : R2} (ho : OpR X (compareOp op) r) (hl : Lift2 X.K f r) (ho' : OpR X (compareOp op') r') (hl' : Lift2 X.K f' r') (ha : EV X W a ra) (hb : EV X W b rb) (hc : EV X W c rc)
    (hm : lastMarks [op, op'] [b, c] = false := by with_unfolding_all rfl) : EV X W (.Compare a [op, op'] [b, c] pos) (rChn f f' ra rb rc) := by
  obtain ⟨Ta, pa, la⟩ := ha.ex
  obtain ⟨Tb, pb, lb⟩ := hb.ex
  obtain ⟨Tc, pc, lc⟩ := hc.ex
  refine ⟨_, pe_chain ho ho' pa pb pc hm, fun σ σ' H S Q Q' E' rs rh h q xi => ?_⟩
  refine la σ σ' H S _ _ E' rs rh h (fun d S1 v H1 f1 rh1 dv h1 => ?_) xi
  refine lb σ σ' H1 S1 _ _ E' (rs.mono (f1.tle rh)) rh1 h1 (fun e S2 u H2 f2 rh2 du h2 => ?_) (xi.go f1)
  refine hl _ _ _ _ _ _ _ _ rh2 (DV.mono (f2.tle rh1) _ _ dv) du h2 fun z S3 w H3 f3 rh3 dz h3 => ?_
  cases z <;> try exact h3.elim
  rename_i k
  cases dz
  refine ⟨k, rfl, ?_⟩
  have f03 := (f1.trans f2).trans f3
  cases k with
  | false => exact q _ _ _ _ f03 rh3 (.bl false) h3
  | true =>
    refine lc σ σ' H3 S3 _ _ E' (rs.mono (f03.tle rh)) rh3 h3 (fun e4 S4 u4 H4 f4 rh4 du4 h4 => ?_) (xi.go f03)
    exact hl' _ _ _ _ _ _ _ _ rh4 (DV.mono ((f3.trans f4).tle rh2) _ _ du) du4 h4 (q.go (f03.trans f4))
theorem et_chn {op op' : CmpOp} {f f' : R2q} {r r' : R2} (ho : OpR X (compareOp op) r) (hl : Lift2 X.K f r) (ho' : OpR X (compareOp op') r') (hl' : Lift2 X.K f' r') (ha : EV X W a ra) (hb : EV X W b rb) (hc : EV X W c rc)
    (hm : lastMarks [op, op'] [b, c] = false := by with_unfolding_all rfl) : ET X W (.Compare a [op, op'] [b, c] pos) (rTst (rChn f f' ra rb rc)) := by
  obtain ⟨Ta, pa, la⟩ := ha.ex
  obtain ⟨Tb, pb, lb⟩ := hb.ex
  obtain ⟨Tc, pc, lc⟩ := hc.ex
  refine ⟨_, pt_chain ho ho' pa pb pc hm, fun σ σ' H S Q Q' E' rs rh h q xi => ?_⟩
  refine la σ σ' H S _ _ E' rs rh h (fun d S1 v H1 f1 rh1 dv h1 => ?_) xi
  refine lb σ σ' H1 S1 _ _ E' (rs.mono (f1.tle rh)) rh1 h1 (fun e S2 u H2 f2 rh2 du h2 => ?_) (xi.go f1)
  refine hl _ _ _ _ _ _ _ _ rh2 (DV.mono (f2.tle rh1) _ _ dv) du h2 fun z S3 w H3 f3 rh3 dz h3 => ?_
  cases z <;> try exact h3.elim
  rename_i k
  cases dz
  refine ⟨k, rfl, ?_⟩
  have f03 := (f1.trans f2).trans f3
  cases k with
  | false => exact ⟨_, rfl, q _ _ _ f03 rh3 h3⟩
  | true =>
    refine lc σ σ' H3 S3 _ _ E' (rs.mono (f03.tle rh)) rh3 h3 (fun e4 S4 u4 H4 f4 rh4 du4 h4 => ?_) (xi.go f03)
    refine hl' _ _ _ _ _ _ _ _ rh4 (DV.mono ((f3.trans f4).tle rh2) _ _ du) du4 h4 fun z5 S5 w5 H5 f5 rh5 dz5 h5 => ?_
    cases z5 <;> try exact h5.elim
    cases dz5
    exact ⟨_, rfl, q _ _ _ ((f03.trans f4).trans f5) rh5 h5⟩
theorem et_val {r : RE} (h : EV X W a r) (he : ∀ whole, isTrue a X.env whole = (do let v ← whole; standAt a.pos; holding [v] (truthy v)) := by intro _; rfl) : ET X W a (rTst r) := by
  obtain ⟨T, p, l⟩ := h.ex
  refine ⟨_, pt_val p he, fun σ σ' H S Q Q' E' rs rh h q xi => ?_⟩
  refine l σ σ' H S _ _ E' rs rh h (fun d S1 v H1 f1 rh1 dv h1 => ?_) xi
  cases d <;> try exact h1.elim
  cases dv
  exact ⟨_, rfl, q _ _ _ f1 rh1 h1⟩
/-- truth of any value -/
def truD (x : D) (S : Hq) (Q : Bool → Prop) : Prop := match x with
  | .non => Q false | .bl b => Q b | .int i => Q (i != 0)
  | .str y => y.length ≤ 1000000 ∧ Q ((y.length : Int) != 0)
  | .tup xs => Q (!xs.isEmpty)
  | .ref a => ∃ xs, LsR S a xs ∧ Q (!xs.isEmpty)
  | .kl xs => Q (!xs.isEmpty)
  | _ => False
def rTru (r : RE) : RT := fun σ S Q E => r σ S (fun x S1 => truD x S1 (fun k => Q k S1)) E
theorem DVs.emp {K : PySem.W.Frag} {H : Hp} {ds : List D} {vs : List V} (x : DVs K H ds vs) : ds.isEmpty = vs.isEmpty := by cases x <;> rfl
theorem et_tru {r : RE} (h : EV X W a r) (he : ∀ whole, isTrue a X.env whole = (do let v ← whole; standAt a.pos; holding [v] (truthy v)) := by intro _; rfl) : ET X W a (rTru r) := by
  obtain ⟨T, p, l⟩ := h.ex
  refine ⟨_, pt_truth p he, fun σ σ' H S Q Q' E' rs rh h q xi => ?_⟩
  refine l σ σ' H S _ _ E' rs rh h (fun d S1 v H1 f1 rh1 dv h1 => ?_) xi
  cases d with
  | non => cases dv; exact ⟨_, rfl, q _ _ _ f1 rh1 h1⟩
  | bl => cases dv; exact ⟨_, rfl, q _ _ _ f1 rh1 h1⟩
  | int => cases dv; exact ⟨_, rfl, q _ _ _ f1 rh1 h1⟩
  | str => cases dv; exact ⟨_, ⟨big_le h1.1, rfl⟩, q _ _ _ f1 rh1 h1.2⟩
  | tup ds => cases dv with | tup s r => exact ⟨_, .inr (.inl ⟨_, s, rfl⟩), q _ _ _ f1 rh1 (by rw [← r.emp]; exact h1)⟩
  | kl ds => cases dv with | kl s r => exact ⟨_, .inl ⟨_, s.sql, rfl⟩, q _ _ _ f1 rh1 (by rw [← r.emp]; exact h1)⟩
  | ref b =>
    cases dv
    obtain ⟨xs, e, h1⟩ := h1
    obtain ⟨ys, s, r⟩ := rh1.sql e
    exact ⟨_, .inl ⟨ys, s, rfl⟩, q _ _ _ f1 rh1 (by rw [← r.emp]; exact h1)⟩
  | ty => exact h1.elim

/-! ### and, or, not -/
variable {rest : List Expr} {ta tb : RT}
def rAnd (t u : RT) : RT := fun σ S Q E => t σ S (fun c S1 => if c = true then u σ S1 Q E else Q false S1) E
def rOr (t u : RT) : RT := fun σ S Q E => t σ S (fun c S1 => if c = true then Q true S1 else u σ S1 Q E) E
def rNot (t : RT) : RT := fun σ S Q E => t σ S (fun c S1 => Q (!c) S1) E
theorem ew_and1 (h : ET X W a ta) : EW X W (.BoolOp .And [a] pos) ta := let ⟨T, p, l⟩ := h.ex; ⟨T, pw_and1 p, l⟩
theorem ew_or1 (h : ET X W a ta) : EW X W (.BoolOp .Or [a] pos) ta := let ⟨T, p, l⟩ := h.ex; ⟨T, pw_or1 p, l⟩
theorem ew_and (ha : ET X W a ta) (hb : EW X W (.BoolOp .And (b :: rest) pos) tb) : EW X W (.BoolOp .And (a :: b :: rest) pos) (rAnd ta tb) := by
  obtain ⟨Ta, pa, la⟩ := ha.ex
  obtain ⟨Tb, pb, lb⟩ := hb.ex
  refine ⟨_, pw_and pa pb, fun σ σ' H S Q Q' E' rs rh h q xi => ?_⟩
  refine la σ σ' H S _ _ E' rs rh h (fun d S1 H1 f1 rh1 h1 => ?_) xi
  cases d with
  | true => exact lb σ σ' H1 S1 _ _ E' (rs.mono (f1.tle rh)) rh1 h1 (q.go f1) (xi.go f1)
  | false => exact q _ _ _ f1 rh1 h1
theorem ew_or (ha : ET X W a ta) (hb : EW X W (.BoolOp .Or (b :: rest) pos) tb) : EW X W (.BoolOp .Or (a :: b :: rest) pos) (rOr ta tb) := by
  obtain ⟨Ta, pa, la⟩ := ha.ex
  obtain ⟨Tb, pb, lb⟩ := hb.ex
  refine ⟨_, pw_or pa pb, fun σ σ' H S Q Q' E' rs rh h q xi => ?_⟩
  refine la σ σ' H S _ _ E' rs rh h (fun d S1 H1 f1 rh1 h1 => ?_) xi
  cases d with
  | false => exact lb σ σ' H1 S1 _ _ E' (rs.mono (f1.tle rh)) rh1 h1 (q.go f1) (xi.go f1)
  | true => exact q _ _ _ f1 rh1 h1
theorem et_ew (h : EW X W a ta) : ET X W a ta := let ⟨T, p, l⟩ := h.ex; ⟨T, p.pt, l⟩
theorem et_not (ha : ET X W a ta) : ET X W (.UnaryOp .Not a pos) (rNot ta) := by
  obtain ⟨Ta, pa, la⟩ := ha.ex
  exact ⟨_, pt_not pa, fun σ σ' H S Q Q' E' rs rh h q xi => la σ σ' H S _ _ E' rs rh h (fun d S1 H1 f1 rh1 h1 => q _ _ _ f1 rh1 h1) xi⟩
/-- .. as values -/
def rAndV (t u : RE) : RE := fun σ S Q E => t σ S (fun x S1 => asB x fun c => if c = true then u σ S1 Q E else Q (.bl false) S1) E
def rOrV (t u : RE) : RE := fun σ S Q E => t σ S (fun x S1 => asB x fun c => if c = true then Q (.bl true) S1 else u σ S1 Q E) E
def rNotV (t : RE) : RE := fun σ S Q E => t σ S (fun x S1 => asB x fun c => Q (.bl (!c)) S1) E
theorem ev_one {op} (h : EV X W a ra) : EV X W (.BoolOp op [a] pos) ra := let ⟨T, p, l⟩ := h.ex; ⟨T, pe_one p, l⟩
theorem ev_and (ha : EV X W a ra) (hb : EV X W (.BoolOp .And (b :: rest) pos) rb) : EV X W (.BoolOp .And (a :: b :: rest) pos) (rAndV ra rb) := by
  obtain ⟨Ta, pa, la⟩ := ha.ex
  obtain ⟨Tb, pb, lb⟩ := hb.ex
  refine ⟨_, pe_and pa pb, fun σ σ' H S Q Q' E' rs rh h q xi => ?_⟩
  refine la σ σ' H S _ _ E' rs rh h (fun d S1 v H1 f1 rh1 dv h1 => ?_) xi
  cases d <;> try exact h1.elim
  rename_i k
  cases dv
  refine ⟨k, rfl, ?_⟩
  cases k with
  | true => exact lb σ σ' H1 S1 _ _ E' (rs.mono (f1.tle rh)) rh1 h1 (q.go f1) (xi.go f1)
  | false => exact q _ _ _ _ f1 rh1 (.bl false) h1
theorem ev_or (ha : EV X W a ra) (hb : EV X W (.BoolOp .Or (b :: rest) pos) rb) : EV X W (.BoolOp .Or (a :: b :: rest) pos) (rOrV ra rb) := by
  obtain ⟨Ta, pa, la⟩ := ha.ex
  obtain ⟨Tb, pb, lb⟩ := hb.ex
  refine ⟨_, pe_or pa pb, fun σ σ' H S Q Q' E' rs rh h q xi => ?_⟩
  refine la σ σ' H S _ _ E' rs rh h (fun d S1 v H1 f1 rh1 dv h1 => ?_) xi
  cases d <;> try exact h1.elim
  rename_i k
  cases dv
  refine ⟨k, rfl, ?_⟩
  cases k with
  | false => exact lb σ σ' H1 S1 _ _ E' (rs.mono (f1.tle rh)) rh1 h1 (q.go f1) (xi.go f1)
  | true => exact q _ _ _ _ f1 rh1 (.bl true) h1
theorem ev_not (ha : EV X W a ra) : EV X W (.UnaryOp .Not a pos) (rNotV ra) := by
  obtain ⟨Ta, pa, la⟩ := ha.ex
  refine ⟨_, L2.pe_not pa, fun σ σ' H S Q Q' E' rs rh h q xi => ?_⟩
  refine la σ σ' H S _ _ E' rs rh h (fun d S1 v H1 f1 rh1 dv h1 => ?_) xi
  cases d <;> try exact h1.elim
  cases dv
  exact ⟨_, rfl, q _ _ _ _ f1 rh1 (.bl _) h1⟩
def rIf (t : RT) (ra rb : RE) : RE := fun σ S Q E => t σ S (fun c S1 => if c = true then ra σ S1 Q E else rb σ S1 Q E) E
theorem ev_if (hc : ET X W c ta) (ha : EV X W a ra) (hb : EV X W b rb) : EV X W (.IfExp c a b pos) (rIf ta ra rb) := by
  obtain ⟨Tc, pc, lc⟩ := hc.ex
  obtain ⟨Ta, pa, la⟩ := ha.ex
  obtain ⟨Tb, pb, lb⟩ := hb.ex
  refine ⟨_, pe_ifExp pc pa pb, fun σ σ' H S Q Q' E' rs rh h q xi => ?_⟩
  refine lc σ σ' H S _ _ E' rs rh h (fun d S1 H1 f1 rh1 h1 => ?_) xi
  cases d with
  | true => exact la σ σ' H1 S1 _ _ E' (rs.mono (f1.tle rh)) rh1 h1 (q.go f1) (xi.go f1)
  | false => exact lb σ σ' H1 S1 _ _ E' (rs.mono (f1.tle rh)) rh1 h1 (q.go f1) (xi.go f1)

/-! ### rows of arguments, displays -/
variable {es : List Expr} {rs' : RA}
def rNil : RA := fun _ S Q _ => Q [] S
def rCons (ra : RE) (rr : RA) : RA := fun σ S Q E => ra σ S (fun x S1 => rr σ S1 (fun xs S2 => Q (x :: xs) S2) E) E
theorem ea_nil : EA X W [] rNil := ⟨_, pa_nil, fun σ σ' H S Q Q' E' rs rh h q xi => q _ _ _ _ Fr.refl rh .nil h⟩
theorem ea_cons (ha : EV X W a ra) (hr : EA X W es rs') (hs : starEach (a :: es) X.env = (false, eval a X.env) :: starEach es X.env := by rfl) : EA X W (a :: es) (rCons ra rs') := by
  obtain ⟨Ta, pa, la⟩ := ha.ex
  obtain ⟨Tr, pr, lr⟩ := hr.ex
  refine ⟨_, pa_cons pa pr hs, fun σ σ' H S Q Q' E' rs rh h q xi => ?_⟩
  refine la σ σ' H S _ _ E' rs rh h (fun d S1 v H1 f1 rh1 dv h1 => ?_) xi
  refine lr σ σ' H1 S1 _ _ E' (rs.mono (f1.tle rh)) rh1 h1 (fun e S2 u H2 f2 rh2 du h2 => ?_) (xi.go f1)
  exact q _ _ _ _ (f1.trans f2) rh2 (.cons (DV.mono (f2.tle rh1) _ _ dv) du) h2
def rTup (r : RA) : RE := fun σ S Q E => r σ S (fun xs S1 => xs.length ≤ 1000000 ∧ Q (.tup xs) S1) E
def rLst (r : RA) : RE := fun σ S Q E => r σ S (fun xs S1 => xs.length ≤ 1000000 ∧ ∀ p, S1 p = none → Q (.ref p) (up S1 p (.lst xs))) E
theorem ev_tup {k} (h : EA X W es rs') : EV X W (.Tuple es k pos) (rTup rs') := by
  obtain ⟨T, p, l⟩ := h.ex
  refine ⟨_, pe_tup p, fun σ σ' H S Q Q' E' rs rh h q xi => ?_⟩
  refine l σ σ' H S _ _ E' rs rh h (fun d S1 v H1 f1 rh1 dv h1 => ⟨by rw [← dv.length]; exact big_le h1.1, fun p hp => ?_⟩) xi
  exact (q.go f1).newT rh1 hp dv h1.2
theorem ev_lst (h : EA X W es rs') : EV X W (.List es pos) (rLst rs') := by
  obtain ⟨T, p, l⟩ := h.ex
  refine ⟨_, pe_lst p, fun σ σ' H S Q Q' E' rs rh h q xi => ?_⟩
  refine l σ σ' H S _ _ E' rs rh h (fun d S1 v H1 f1 rh1 dv h1 => ⟨by rw [← dv.length]; exact big_le h1.1, fun p hp => ?_⟩) xi
  exact (q.go f1).newL rh1 hp dv (h1.2 p (rh1.fresh hp))
end
end Y
namespace Y
open PySem PySem.Spec PyProof.Rows L2

/-! ### operators, by what their sides are -/
def addD : R2q := fun x y S Q => match x, y with
  | .int i, .int j => Q (.int (i + j)) S
  | .str a, .str b => a.length + b.length ≤ 1000000 ∧ Q (.str (a ++ b)) S
  | .tup xs, .tup ys => xs.length + ys.length ≤ 1000000 ∧ Q (.tup (xs ++ ys)) S
  | .ref a, .ref b => ∃ xs ys, S a = some (.lst xs) ∧ S b = some (.lst ys) ∧ xs.length + ys.length ≤ 1000000 ∧ ∀ p, S p = none → Q (.ref p) (up S p (.lst (xs ++ ys)))
  | _, _ => False
def intD (C : Int → Int → Prop) (g : Int → Int → D) : R2q := fun x y S Q => match x, y with
  | .int i, .int j => C i j ∧ Q (g i j) S
  | _, _ => False
def CDiv' (_ j : Int) : Prop := 0 < j ∧ j < 2 ^ 64
def CMul' (i j : Int) : Prop := (-(2 ^ 64) < i ∧ i < 2 ^ 64) ∨ (-(2 ^ 64) < j ∧ j < 2 ^ 64)
def CPow' (i j : Int) : Prop := 0 ≤ j ∧ j ≤ 1000000 ∧ -(2 ^ 32) < i ∧ i < 2 ^ 32
def subD : R2q := fun x y S Q => match x, y with | .int i, .int j => Q (.int (i - j)) S | _, _ => False
def mulD : R2q := intD CMul' fun i j => .int (i * j)
def fdivD : R2q := intD CDiv' fun i j => .int (i / j)
def modD : R2q := intD (fun _ j => 0 < j) fun i j => .int (i % j)
def powD : R2q := intD CPow' fun i j => .int (i ^ j.toNat)
def andD : R2q := intD (fun _ _ => True) fun i j => .int (Builtin.bitAnd i j)
theorem CDiv'.ok {i j : Int} (h : CDiv' i j) : CDivW i j := wide_div (b := 64) h.1 (by have := h.1; have := h.2; omega) (by decide) (by decide)
theorem CPow'.ok {i j : Int} (h : CPow' i j) : CPow i j := ⟨h.1, h.2.1, by have := h.2.2.1; have := h.2.2.2; omega⟩
section
variable {X : Cx} {K : PySem.W.Frag}
theorem op_addU : OpR X (binaryOp .Add) (fun x y H Q => (rI0 (fun i j => .int (i + j)) x y H Q) ∨ (∃ i j, x = .str i ∧ y = .str j ∧ i.length + j.length ≤ sizeLine ∧ Q (.str (i ++ j)) H) ∨ rCatA X.K x y H Q ∨ rCat x y H Q) :=
  opr_or op_add (opr_or op_add_str (opr_or op_catA op_cat))
theorem lf_add : Lift2 X.K addD (fun x y H Q => (rI0 (fun i j => .int (i + j)) x y H Q) ∨ (∃ i j, x = .str i ∧ y = .str j ∧ i.length + j.length ≤ sizeLine ∧ Q (.str (i ++ j)) H) ∨ rCatA X.K x y H Q ∨ rCat x y H Q) := by
  intro x y S H Q' Q v u rh dx dy h q
  cases x <;> cases y <;> try exact h.elim
  · cases dx; cases dy; exact .inl ⟨_, _, rfl, rfl, q.here rh (.int _) h⟩
  · cases dx; cases dy; exact .inr (.inl ⟨_, _, rfl, rfl, big_le h.1, q.here rh (.str _) h.2⟩)
  · rename_i xs ys
    cases dx with | tup s1 r1 =>
    cases dy with | tup s2 r2 =>
    refine .inr (.inr (.inl ⟨_, _, _, _, rfl, rfl, s1, s2, by rw [← r1.length, ← r2.length]; exact big_le h.1, fun e => ?_, fun n e => ?_, fun n m p hp => ?_⟩))
    · subst e; cases r1; exact q.here rh (.tup s2 r2) h.2
    · subst e; cases r2; exact q.here rh (.tup s1 r1) (by have := h.2; rw [List.append_nil] at this; exact this)
    · exact q.newT rh hp (r1.app r2) h.2
  · cases dx; cases dy
    obtain ⟨xs, ys, e1, e2, hz, h⟩ := h
    obtain ⟨vs, g1, r1⟩ := rh.lst e1
    obtain ⟨us, g2, r2⟩ := rh.lst e2
    exact .inr (.inr (.inr ⟨_, _, _, _, rfl, rfl, g1, g2, by rw [← r1.length, ← r2.length]; exact big_le hz, fun p hp => q.newL rh hp (r1.app r2) (h p (rh.fresh hp))⟩))
theorem lf_int {C C' : Int → Int → Prop} {g : Int → Int → D} {g' : Int → Int → V} (hc : ∀ i j, C i j → C' i j) (hg : ∀ H i j, DV K H (g i j) (g' i j)) : Lift2 K (intD C g) (rI C' g') := by
  intro x y S H Q' Q v u rh dx dy h q
  cases x <;> cases y <;> try exact h.elim
  cases dx; cases dy
  exact ⟨_, _, rfl, rfl, hc _ _ h.1, q.here rh (hg _ _ _) h.2⟩
theorem lf_int0 {f : R2q} {g : Int → Int → D} {g' : Int → Int → V} (hf : ∀ x y S Q, f x y S Q → ∃ i j, x = .int i ∧ y = .int j ∧ Q (g i j) S) (hg : ∀ H i j, DV K H (g i j) (g' i j)) : Lift2 K f (rI0 g') := by
  intro x y S H Q' Q v u rh dx dy h q
  obtain ⟨i, j, rfl, rfl, h'⟩ := hf x y S Q' h
  clear h
  cases dx; cases dy
  exact ⟨_, _, rfl, rfl, q.here rh (hg _ _ _) h'⟩
theorem lf_sub : Lift2 K subD (rI0 fun i j => .int (i - j)) := lf_int0 (g := fun i j => .int (i - j)) (fun x y S Q h => by cases x <;> cases y <;> first | exact h.elim | exact ⟨_, _, rfl, rfl, h⟩) fun _ _ _ => .int _
theorem lf_mul : Lift2 K mulD (rI CMul fun i j => .int (i * j)) := lf_int (fun _ _ h => h) fun _ _ _ => .int _
theorem lf_fdiv : Lift2 K fdivD (rI CDivW fun i j => .int (i / j)) := lf_int (fun _ _ h => h.ok) fun _ _ _ => .int _
theorem lf_mod : Lift2 K modD (rI (fun _ j => 0 < j) fun i j => .int (i % j)) := lf_int (fun _ _ h => h) fun _ _ _ => .int _
theorem lf_pow : Lift2 K powD (rI CPow fun i j => .int (i ^ j.toNat)) := lf_int (fun _ _ h => h.ok) fun _ _ _ => .int _
theorem lf_and : Lift2 K andD (rI0 fun i j => .int (Builtin.bitAnd i j)) := lf_int0 (g := fun i j => .int (Builtin.bitAnd i j)) (fun x y S Q h => by cases x <;> cases y <;> first | exact h.elim | exact ⟨_, _, rfl, rfl, h.2⟩) fun _ _ _ => .int _
end
/-! ### comparisons -/
def leD : R2q := fun x y S Q => match x, y with | .int i, .int j => Q (.bl (decide (i ≤ j))) S | _, _ => False
def geD : R2q := fun x y S Q => match x, y with | .int i, .int j => Q (.bl (decide (j ≤ i))) S | _, _ => False
def gtD : R2q := fun x y S Q => match x, y with | .int i, .int j => Q (.bl (decide (j < i))) S | _, _ => False
def ltD : R2q := fun x y S Q => match x, y with
  | .int i, .int j => Q (.bl (decide (i < j))) S
  | .tup xs, .tup ys => ∃ ns ms, xs = ns.map D.int ∧ ys = ms.map D.int ∧ Q (.bl (HT.lexLt ns ms)) S
  | _, _ => False
def isN : D → Bool | .non => true | _ => false
def isD : R2q := fun x y S Q => match y with
  | .non => Q (.bl (isN x)) S
  | .bl b => match x with
    | .bl a => Q (.bl (decide (a = b))) S
    | .ty _ => False
    | _ => Q (.bl false) S
  | _ => False
def isntD : R2q := fun x y S Q => isD x y S (fun z S1 => asB z fun b => Q (.bl (!b)) S1)
mutual
def pd : D → PyData
  | .non => .none | .bl b => .bool b | .int i => .int i | .str s => .str s | .tup xs => .tuple (pds xs) | .ref _ => .none | .ty _ => .none | .kl _ => .none
def pds : List D → List PyData
  | [] => []
  | d :: ds => pd d :: pds ds
end
mutual
def pur : D → Bool
  | .tup xs => purs xs | .ref _ => false | .ty _ => false | .kl _ => false | _ => true
def purs : List D → Bool
  | [] => true
  | d :: ds => pur d && purs ds
end
def okE (d : D) : Prop := pur d = true ∧ SeqAt.shaped (pd d) = true
/-- == of what is no tuple and no list, at once -/
def eqS : D → D → Option Bool
  | .non, .non => some true | .non, .int _ => some false | .int _, .non => some false | .non, .bl _ => some false | .bl _, .non => some false | .non, .str _ => some false | .str _, .non => some false
  | .int i, .int j => some (decide (i = j)) | .bl i, .bl j => some (decide (i = j)) | .str i, .str j => some (decide (i = j))
  | .int _, .str _ => some false | .str _, .int _ => some false | .bl _, .str _ => some false | .str _, .bl _ => some false
  | _, _ => none
def eqD (g : Bool → Bool) : R2q := fun x y S Q => match eqS x y with
  | some b => Q (.bl (g b)) S
  | none => match x, y with
    | .ref a, .ref b => ∃ xs ys, LsR S a xs ∧ LsR S b ys ∧ okE (.tup xs) ∧ okE (.tup ys) ∧ Q (.bl (g (PyData.eqvAll (pds xs) (pds ys)))) S
    | _, _ => okE x ∧ okE y ∧ Q (.bl (g (PyData.eqv (pd x) (pd y)))) S
section
variable {X : Cx} {K : PySem.W.Frag} {H : Hp}
mutual
theorem DV.dp : ∀ (d : D) (v : V), pur d = true → DV K H d v → Dp K H v (pd d)
  | .non, _, _, h => by cases h; exact .non
  | .bl _, _, _, h => by cases h; exact .bl _
  | .int _, _, _, h => by cases h; exact .int _
  | .str _, _, _, h => by cases h; exact .str _
  | .ref _, _, p, _ => by simp [pur] at p
  | .ty _, _, p, _ => by simp [pur] at p
  | .kl _, _, p, _ => by simp [pur] at p
  | .tup ds, _, p, h => by cases h with | tup s r => exact .tup s (DVs.dp ds _ (by simpa [pur] using p) r)
theorem DVs.dp : ∀ (ds : List D) (vs : List V), purs ds = true → DVs K H ds vs → DpAll K H vs (pds ds)
  | [], _, _, h => by cases h; exact .nil
  | d :: ds, _, p, h => by
    cases h with | cons x r =>
    rw [purs, Bool.and_eq_true] at p
    exact .cons (DV.dp d _ p.1 x) (DVs.dp ds _ p.2 r)
end
def rEqU (K : PySem.W.Frag) : R2 := fun x y H Q => rEq x y H Q ∨ rEqD K x y H Q
def rNeU (K : PySem.W.Frag) : R2 := fun x y H Q => rNe x y H Q ∨ rNeD K x y H Q
theorem op_eqU (hu : X.A.units + 64 < cLine) : OpR X (compareOp .Eq) (rEqU X.K) := opr_or op_eq (op_eqD hu)
theorem op_neU (hu : X.A.units + 64 < cLine) : OpR X (compareOp .NotEq) (rNeU X.K) := opr_or op_ne (op_neD hu)
theorem eqS_of {x y : D} {v u : V} {b : Bool} (e : eqS x y = some b) (dx : DV K H x v) (dy : DV K H y u) : scal v u = true ∧ decide (v = u) = b := by
  cases x <;> cases y <;> simp [eqS] at e <;> cases dx <;> cases dy <;> subst e <;> refine ⟨rfl, ?_⟩ <;> simp
theorem shaped_list {ds : List PyData} : SeqAt.shaped (.list ds) = SeqAt.shaped (.tuple ds) := by
  unfold SeqAt.shaped
  have e1 : PyData.canLay0 (.list ds) = PyData.canLay0 (.tuple ds) := by simp [PyData.canLay0]
  have e2 : PyData.depth (.list ds) = PyData.depth (.tuple ds) := by simp [PyData.depth]
  rw [e1, e2]
theorem lf_eq : Lift2 K (eqD id) (rEqU K) := by
  intro x y S H Q' Q v u rh dx dy h q
  unfold eqD at h
  split at h
  · rename_i b e
    obtain ⟨s, d⟩ := eqS_of e dx dy
    exact .inl ⟨s, by rw [d]; exact q.here rh (.bl _) h⟩
  · split at h
    · cases dx; cases dy
      obtain ⟨xs, ys, e1, e2, ⟨p1, s1⟩, ⟨p2, s2⟩, h⟩ := h
      obtain ⟨vs, g1, r1⟩ := rh.sql e1
      obtain ⟨us, g2, r2⟩ := rh.sql e2
      refine .inr ⟨.list (pds xs), .list (pds ys), .lst g1 (DVs.dp _ _ (by simpa [pur] using p1) r1), .lst g2 (DVs.dp _ _ (by simpa [pur] using p2) r2), ?_, ?_, ?_⟩
      · rw [shaped_list]; simpa [pd] using s1
      · rw [shaped_list]; simpa [pd] using s2
      · exact q.here rh (.bl _) (by simpa [PyData.eqv] using h)
    · obtain ⟨⟨p1, s1⟩, ⟨p2, s2⟩, h⟩ := h
      exact .inr ⟨_, _, DV.dp _ _ p1 dx, DV.dp _ _ p2 dy, s1, s2, q.here rh (.bl _) h⟩
theorem lf_ne : Lift2 K (eqD not) (rNeU K) := by
  intro x y S H Q' Q v u rh dx dy h q
  unfold eqD at h
  split at h
  · rename_i b e
    obtain ⟨s, d⟩ := eqS_of e dx dy
    exact .inl ⟨s, by rw [d]; exact q.here rh (.bl _) h⟩
  · split at h
    · cases dx; cases dy
      obtain ⟨xs, ys, e1, e2, ⟨p1, s1⟩, ⟨p2, s2⟩, h⟩ := h
      obtain ⟨vs, g1, r1⟩ := rh.sql e1
      obtain ⟨us, g2, r2⟩ := rh.sql e2
      refine .inr ⟨.list (pds xs), .list (pds ys), .lst g1 (DVs.dp _ _ (by simpa [pur] using p1) r1), .lst g2 (DVs.dp _ _ (by simpa [pur] using p2) r2), ?_, ?_, ?_⟩
      · rw [shaped_list]; simpa [pd] using s1
      · rw [shaped_list]; simpa [pd] using s2
      · exact q.here rh (.bl _) (by simpa [PyData.eqv] using h)
    · obtain ⟨⟨p1, s1⟩, ⟨p2, s2⟩, h⟩ := h
      exact .inr ⟨_, _, DV.dp _ _ p1 dx, DV.dp _ _ p2 dy, s1, s2, q.here rh (.bl _) h⟩
theorem lf_le : Lift2 K leD (rI0 fun i j => .bl (decide (i ≤ j))) := lf_int0 (g := fun i j => .bl (decide (i ≤ j))) (fun x y S Q h => by cases x <;> cases y <;> first | exact h.elim | exact ⟨_, _, rfl, rfl, h⟩) fun _ _ _ => .bl _
theorem lf_ge : Lift2 K geD (rI0 fun i j => .bl (decide (j ≤ i))) := lf_int0 (g := fun i j => .bl (decide (j ≤ i))) (fun x y S Q h => by cases x <;> cases y <;> first | exact h.elim | exact ⟨_, _, rfl, rfl, h⟩) fun _ _ _ => .bl _
theorem lf_gt : Lift2 K gtD (rI0 fun i j => .bl (decide (j < i))) := lf_int0 (g := fun i j => .bl (decide (j < i))) (fun x y S Q h => by cases x <;> cases y <;> first | exact h.elim | exact ⟨_, _, rfl, rfl, h⟩) fun _ _ _ => .bl _
theorem DVs.ints : ∀ {ns : List Int} {vs : List V}, DVs K H (ns.map D.int) vs → vs = ns.map V.int
  | [], _, .nil => rfl
  | _ :: _, _, .cons x r => by cases x; rw [DVs.ints r]; rfl
theorem DVs.ofInts : ∀ {ns : List Int}, DVs K H (ns.map D.int) (ns.map V.int)
  | [] => .nil
  | _ :: _ => .cons (.int _) DVs.ofInts
def rLtU (K : PySem.W.Frag) : R2 := fun x y H Q => rI0 (fun i j => .bl (decide (i < j))) x y H Q ∨ rLtT K x y H Q
theorem op_ltU (hu : X.A.units < cLine) : OpR X (compareOp .Lt) (rLtU X.K) := opr_or op_lt (op_ltT hu)
theorem lf_lt : Lift2 K ltD (rLtU K) := by
  intro x y S H Q' Q v u rh dx dy h q
  cases x <;> cases y <;> try exact h.elim
  · cases dx; cases dy; exact .inl ⟨_, _, rfl, rfl, q.here rh (.bl _) h⟩
  · obtain ⟨ns, ms, rfl, rfl, h⟩ := h
    cases dx with | tup s1 r1 =>
    cases dy with | tup s2 r2 =>
    rw [r1.ints] at s1
    rw [r2.ints] at s2
    exact .inr ⟨_, _, ns, ms, rfl, rfl, s1, s2, q.here rh (.bl _) h⟩
/-- is None, is True, is False -/
def rIsU : R2 := fun x y H Q => (y = .non ∧ Q (.bl (decide (x = .non))) H) ∨ ∃ b, y = .bl b ∧ (∀ n, x ≠ .ty n) ∧ Q (.bl (decide (x = .bl b))) H
def rIsntU : R2 := fun x y H Q => (y = .non ∧ Q (.bl (!decide (x = .non))) H) ∨ ∃ b, y = .bl b ∧ (∀ n, x ≠ .ty n) ∧ Q (.bl (!decide (x = .bl b))) H
theorem is_bl_any {x : V} {v : Value} {b : Bool} (r : RelV x v) (n : ∀ n, x ≠ .ty n) : plainIs v (.bool b) = true ∧ (v == Value.bool b) = decide (x = .bl b) := by
  cases x with
  | non => cases r; exact ⟨rfl, rfl⟩
  | bl a => cases r; refine ⟨rfl, ?_⟩; cases a <;> cases b <;> rfl
  | int _ => obtain ⟨t, rfl⟩ := r; exact ⟨rfl, rfl⟩
  | str _ => obtain ⟨t, rfl⟩ := r; exact ⟨rfl, rfl⟩
  | byt _ => obtain ⟨t, rfl⟩ := r; exact ⟨rfl, rfl⟩
  | flt _ => obtain ⟨t, rfl⟩ := r; exact ⟨rfl, rfl⟩
  | ref _ => cases r; exact ⟨rfl, rfl⟩
  | ty m => exact absurd rfl (n m)
theorem op_isU : OpR X (compareOp .Is) rIsU := by
  intro pins s σ H x y v u Q I rx ry h
  rcases h with h | ⟨b, rfl, n, h⟩
  · exact op_isN pins s σ H x y v u Q I rx ry h
  · cases ry
    obtain ⟨p, e⟩ := is_bl_any (b := b) rx n
    exact wpAny_is_plain p (fin_bl I h e.symm)
theorem op_isntU : OpR X (compareOp .IsNot) rIsntU := by
  intro pins s σ H x y v u Q I rx ry h
  rcases h with h | ⟨b, rfl, n, h⟩
  · exact op_notN pins s σ H x y v u Q I rx ry h
  · cases ry
    obtain ⟨p, e⟩ := is_bl_any (b := b) rx n
    exact wpAny_isNot_plain p (fin_bl I h (by rw [e]))
theorem isN_of {d : D} {v : V} (h : DV K H d v) : decide (v = .non) = isN d := by cases h <;> rfl
theorem lf_is : Lift2 K isD rIsU := by
  intro x y S H Q' Q v u rh dx dy h q
  cases y with
  | non => cases dy; exact .inl ⟨rfl, by rw [isN_of dx]; exact q.here rh (.bl _) h⟩
  | bl b =>
    cases dy
    refine .inr ⟨b, rfl, fun n e => ?_, ?_⟩
    · subst e; cases dx; exact h.elim
    · have e : ∀ a : Bool, decide (V.bl a = V.bl b) = decide (a = b) := fun a => by simp
      cases dx <;> first | exact h.elim | exact q.here rh (.bl _) h | (rw [e]; exact q.here rh (.bl _) h)
  | _ => exact h.elim
theorem lf_isnt : Lift2 K isntD rIsntU := by
  intro x y S H Q' Q v u rh dx dy h q
  cases y with
  | non => cases dy; exact .inl ⟨rfl, by rw [isN_of dx]; exact q.here rh (.bl _) h⟩
  | bl b =>
    cases dy
    refine .inr ⟨b, rfl, fun n e => ?_, ?_⟩
    · subst e; cases dx; exact h.elim
    · have e : ∀ a : Bool, decide (V.bl a = V.bl b) = decide (a = b) := fun a => by simp
      cases dx <;> first | exact h.elim | exact q.here rh (.bl _) h | (rw [e]; exact q.here rh (.bl _) h)
  | _ => exact h.elim
end
/-! ### items, slices -/
def ixD : R2q := fun x y S Q => match x, y with
  | .tup xs, .int i => ∃ d, atI xs i = some d ∧ Q d S
  | .kl xs, .int i => ∃ d, atI xs i = some d ∧ Q d S
  | .ref a, .int i => ∃ xs d, LsR S a xs ∧ atI xs i = some d ∧ Q d S
  | .str z, .int i => ∃ c, z.length ≤ 1000000 ∧ atI z.cps.toList i = some c ∧ Q (.str ⟨#[c]⟩) S
  | _, _ => False
def cutL {α : Type} (xs : List α) (lo hi : Option Int) : List α := (xs.drop (HT.sIx xs.length 0 lo)).take (HT.sIx xs.length xs.length hi - HT.sIx xs.length 0 lo)
def slD (x : D) (lo hi : Option Int) (S : Hq) (Q : Qv) : Prop := match x with
  | .tup xs => Q (.tup (cutL xs lo hi)) S
  | .ref a => ∃ xs, LsR S a xs ∧ ∀ p, S p = none → Q (.ref p) (up S p (.lst (cutL xs lo hi)))
  | .str z => z.length ≤ 1000000 ∧ Q (.str (cutS z lo hi)) S
  | _ => False
section
variable {X : Cx} {K : PySem.W.Frag} {H : Hp} {W : WX} {a b : Expr} {ra rb : RE} {pos p2 : Pos}
theorem DVs.atI {ds : List D} {vs : List V} {i : Int} {d : D} (r : DVs K H ds vs) (e : atI ds i = some d) : ∃ v, atI vs i = some v ∧ DV K H d v := by
  unfold L2.atI at e ⊢
  rw [← r.length]
  cases h : ixN ds.length i with
  | none => rw [h] at e; cases e
  | some j =>
    rw [h] at e
    exact r.get (i := j) e
theorem lf_ix : Lift2 K ixD (rIx K) := by
  intro x y S H Q' Q v u rh dx dy h q
  cases y <;> cases x <;> try exact h.elim
  · cases dx; cases dy; obtain ⟨c, h1, h2, h⟩ := h; exact .inr (.inr ⟨_, _, c, rfl, rfl, big_le h1, h2, q.here rh (.str _) h⟩)
  · cases dy
    cases dx with | tup s r =>
    obtain ⟨d, e, h⟩ := h
    obtain ⟨w, e', dw⟩ := r.atI e
    exact .inr (.inl ⟨_, _, _, w, rfl, rfl, s, e', q.here rh dw h⟩)
  · cases dx; cases dy
    obtain ⟨xs, d, l, e, h⟩ := h
    obtain ⟨ys, s, r⟩ := rh.sql l
    obtain ⟨w, e', dw⟩ := r.atI e
    exact .inl ⟨_, _, _, w, rfl, rfl, s, e', q.here rh dw h⟩
  · cases dy
    cases dx with | kl s r =>
    obtain ⟨d, e, h⟩ := h
    obtain ⟨w, e', dw⟩ := r.atI e
    exact .inl ⟨_, _, _, w, rfl, rfl, s.sql, e', q.here rh dw h⟩
theorem ev_ix (ha : EV X W a ra) (hb : EV X W b rb) (hs : PlainIx b := by exact fun _ _ => rfl) : EV X W (.Subscript a b pos) (rBin ixD ra rb) := by
  obtain ⟨Ta, pa, la⟩ := ha.ex
  obtain ⟨Tb, pb, lb⟩ := hb.ex
  refine ⟨_, pe_ix ix_seq pa pb hs, fun σ σ' H S Q Q' E' rs rh h q xi => ?_⟩
  refine la σ σ' H S _ _ E' rs rh h (fun d S1 v H1 f1 rh1 dv h1 => ?_) xi
  refine lb σ σ' H1 S1 _ _ E' (rs.mono (f1.tle rh)) rh1 h1 (fun e S2 u H2 f2 rh2 du h2 => ?_) (xi.go f1)
  exact lf_ix _ _ _ _ _ _ _ _ rh2 (DV.mono (f2.tle rh1) _ _ dv) du h2 (q.go (f1.trans f2))
/-- a part of a slice -/
abbrev RO' := Sg → Hq → (Option Int → Hq → Prop) → Xw → Prop
structure EO (X : Cx) (W : WX) (e : Option Expr) (t : RO') : Prop where
  ex : ∃ T, PO X e T ∧ ∀ (σ : L2.St) (σ' : Sg) (H : Hp) (S : Hq) (Q : Option Int → Hp → Prop) (Q' : Option Int → Hq → Prop) (E' : Xw), RS X.K H σ' σ → RH X.K S H → t σ' S Q' E' → (∀ o S' H', Fr S H S' H' → RH X.K S' H' → Q' o S' → Q o H') → XI X.K S H E' (wx W σ) → T σ H Q
def rNoP : RO' := fun _ S Q _ => Q none S
def rPrt (r : RE) : RO' := fun σ S Q E => r σ S (fun x S1 => asI x fun i => Q (some i) S1) E
theorem eo_none : EO X W none rNoP := ⟨_, po_none, fun σ σ' H S Q Q' E' rs rh h q xi => q _ _ _ Fr.refl rh h⟩
theorem eo_some (h : EV X W a ra) : EO X W (some a) (rPrt ra) := by
  obtain ⟨T, p, l⟩ := h.ex
  refine ⟨_, po_some p, fun σ σ' H S Q Q' E' rs rh h q xi => ?_⟩
  refine l σ σ' H S _ _ E' rs rh h (fun d S1 v H1 f1 rh1 dv h1 => ?_) xi
  cases d <;> try exact h1.elim
  cases dv
  exact ⟨_, rfl, q _ _ _ f1 rh1 h1⟩
def rSl (ra : RE) (rl ru : RO') : RE := fun σ S Q E => ra σ S (fun x S1 => rl σ S1 (fun l S2 => ru σ S2 (fun u S3 => slD x l u S3 Q) E) E) E
theorem cut_len {ds : List D} {vs : List V} (r : DVs K H ds vs) (lo hi : Option Int) : DVs K H (cutL ds lo hi) (cutV vs lo hi) := by
  unfold cutL cutV
  rw [← r.length]
  exact (r.drop _).take _
def rSlU (K : PySem.W.Frag) : V → Option Int → Option Int → Hp → VK → Prop := fun x lo hi H Q => rSlA K x lo hi H Q ∨ rSlL K x lo hi H Q ∨ rSlS x lo hi H Q
theorem sl_U : SlR X (rSlU X.K) := SlR.or sl_tupA (SlR.or sl_list sl_str)
theorem cutL_whole {α : Type} {xs : List α} {lo hi : Option Int} (h : HT.sIx xs.length 0 lo = 0 ∧ HT.sIx xs.length xs.length hi = xs.length) : cutL xs lo hi = xs := by
  unfold cutL
  rw [h.1, h.2]
  simp
theorem ev_sl {lo hi : Option Expr} {rl ru : RO'} (ha : EV X W a ra) (hl : EO X W lo rl) (hu : EO X W hi ru) : EV X W (.Subscript a (.Slice lo hi none p2) pos) (rSl ra rl ru) := by
  obtain ⟨Ta, pa, la⟩ := ha.ex
  obtain ⟨Tl, pl, ll⟩ := hl.ex
  obtain ⟨Tu, pu, lu⟩ := hu.ex
  refine ⟨_, pe_slice sl_U pa pl pu, fun σ σ' H S Q Q' E' rs rh h q xi => ?_⟩
  refine la σ σ' H S _ _ E' rs rh h (fun d S1 v H1 f1 rh1 dv h1 => ?_) xi
  refine ll σ σ' H1 S1 _ _ E' (rs.mono (f1.tle rh)) rh1 h1 (fun o S2 H2 f2 rh2 h2 => ?_) (xi.go f1)
  refine lu σ σ' H2 S2 _ _ E' (rs.mono ((f1.trans f2).tle rh)) rh2 h2 (fun o' S3 H3 f3 rh3 h3 => ?_) (xi.go (f1.trans f2))
  have dv3 := DV.mono ((f2.trans f3).tle rh1) _ _ dv
  have q3 := q.go ((f1.trans f2).trans f3)
  cases d <;> try exact h3.elim
  · cases dv3; exact .inr (.inr ⟨_, rfl, big_le h3.1, q3.here rh3 (.str _) h3.2⟩)
  · cases dv3 with | tup s r =>
    refine .inl ⟨_, _, rfl, s, fun w => ?_, fun w p hp => q3.newT rh3 hp (cut_len r o o') h3⟩
    have e := cutL_whole (lo := o) (hi := o') (by rw [r.length]; exact w)
    have h4 : Q' (.tup (cutL _ o o')) S3 := h3
    rw [e] at h4
    exact q3.here rh3 (.tup s r) h4
  · cases dv3
    obtain ⟨xs, l, h3⟩ := h3
    obtain ⟨ys, s, r⟩ := rh3.sql l
    exact .inr (.inl ⟨_, _, rfl, s, fun p hp => q3.newL rh3 hp (cut_len r o o') (h3 p (rh3.fresh hp))⟩)
end
end Y
namespace Y
open PySem PySem.Spec PyProof.Rows L2

/-! ### the reading as one below -/
def dnE (K : PySem.W.Frag) (W : WX) (t : RE) : TE := fun σ H Q => ∃ σ' S Q' E', RS K H σ' σ ∧ RH K S H ∧ t σ' S Q' E' ∧ QI K S H Q' Q ∧ XI K S H E' (wx W σ)
def dnT (K : PySem.W.Frag) (W : WX) (t : RT) : TT := fun σ H Q => ∃ σ' S Q' E', RS K H σ' σ ∧ RH K S H ∧ t σ' S Q' E' ∧ QT K S H Q' Q ∧ XI K S H E' (wx W σ)
def dnB (K : PySem.W.Frag) (W : WX) (t : RSt) : TS := fun D σ H => ∃ σ' S D', RS K H σ' σ ∧ RH K S H ∧ t D' σ' S ∧ DI K W S H D' D
section
variable {X : Cx} {W : WX} {e : Expr}
theorem EV.pe {t : RE} (h : EV X W e t) : PE X e (dnE X.K W t) := by
  obtain ⟨T, p, l⟩ := h.ex
  exact ⟨fun pins s σ H Q I ⟨σ', S, Q', E', a, b, c, d, x⟩ => p.run pins s σ H Q I (l σ σ' H S Q Q' E' a b c d x)⟩
theorem ET.pe {t : RT} (h : ET X W e t) : PT X e (dnT X.K W t) := by
  obtain ⟨T, p, l⟩ := h.ex
  exact ⟨fun pins s σ H Q I ⟨σ', S, Q', E', a, b, c, d, x⟩ => p.run pins s σ H Q I (l σ σ' H S Q Q' E' a b c d x)⟩
theorem EB.pe {st : List Stmt} {t : RSt} (h : EB X W st t) : PSs X st (dnB X.K W t) := by
  obtain ⟨T, p, l⟩ := h.ex
  exact ⟨fun pins s σ H D I ⟨σ', S, D', a, b, c, d⟩ => p.run pins s σ H D I (l σ σ' H S D D' a b c d)⟩
end

/-! ### calls -/
abbrev Sq := List D → Hq → Qv → Xw → Prop
def NoX : Xw := fun _ _ _ => False
def dn (K : PySem.W.Frag) (sp : Sq) : Sp := fun vs H Q E => ∃ ds S Q' E', DVs K H ds vs ∧ RH K S H ∧ sp ds S Q' E' ∧ QI K S H Q' Q ∧ XI K S H E' E
def LiftC (K : PySem.W.Frag) (f : List D → Hq → Qv → Prop) (r : List V → Hp → VK → Prop) : Prop := ∀ ds S H Q' Q vs, RH K S H → DVs K H ds vs → f ds S Q' → QI K S H Q' Q → r vs H Q
def rFn (f : List D → Hq → Qv → Prop) (ra : RA) : RE := fun σ S Q E => ra σ S (fun ds S1 => f ds S1 Q) E
def rCall (sp : Sq) (ra : RA) : RE := fun σ S Q E => ra σ S (fun ds S1 => sp ds S1 Q NoX) E
section
variable {X : Cx} {W : WX} {x : Str} {e : Expr} {es : List Expr} {ra : RA} {p pos : Pos} {f : List D → Hq → Qv → Prop} {r : List V → Hp → VK → Prop}
theorem ev_cB {id : String} (hc : CallR X (.builtin id) r) (hl : LiftC X.K f r) (hm : X.mg x = none) (ha : EA X W (e :: es) ra) (hg : Gl X x := by rfl) (hv : bootBuiltins x = some (.builtin id) := by decide +kernel)
    (hn : x ≠ "__name__" := by decide) (hd : (x == ("__debug__" : Str)) = false := by decide) (he : starEach (e :: es) X.env = (false, eval e X.env) :: starEach es X.env := by rfl)
    (hpl : (backTo pos (starEach es X.env)).any (·.1) = false := by rfl) : EV X W (.Call (.Name x p) (e :: es) [] pos) (rFn f ra) := by
  obtain ⟨Ta, pa, la⟩ := ha.ex
  refine ⟨_, pe_callB hc hg hm hv pa hn hd he hpl, fun σ σ' H S Q Q' E' rs rh h q xi => ?_⟩
  exact la σ σ' H S _ _ E' rs rh h (fun d S1 v H1 f1 rh1 dv h1 => hl _ _ _ _ _ _ rh1 dv h1 (q.go f1)) xi
theorem ev_cT {T : String} (hc : CallR X (.type T) r) (hl : LiftC X.K f r) (hm : X.mg x = none) (ha : EA X W (e :: es) ra) (hg : Gl X x := by rfl) (hv : bootBuiltins x = some (.type T) := by decide +kernel)
    (hn : x ≠ "__name__" := by decide) (hd : (x == ("__debug__" : Str)) = false := by decide) (he : starEach (e :: es) X.env = (false, eval e X.env) :: starEach es X.env := by rfl)
    (hpl : (backTo pos (starEach es X.env)).any (·.1) = false := by rfl) : EV X W (.Call (.Name x p) (e :: es) [] pos) (rFn f ra) := by
  obtain ⟨Ta, pa, la⟩ := ha.ex
  refine ⟨_, pe_callTy hc hg hm hv pa hn hd he hpl, fun σ σ' H S Q Q' E' rs rh h q xi => ?_⟩
  exact la σ σ' H S _ _ E' rs rh h (fun d S1 v H1 f1 rh1 dv h1 => hl _ _ _ _ _ _ rh1 dv h1 (q.go f1)) xi
/-- a built-in type as a value -/
theorem ev_ty {n : String} (hm : X.mg x = none) (hg : Gl X x := by rfl) (hv : bootBuiltins x = some (.type n) := by decide +kernel) (hn : x ≠ "__name__" := by decide) (hd : (x == ("__debug__" : Str)) = false := by decide) : EV X W (.Name x pos) (rC (.ty n)) :=
  ⟨_, pe_bltn (v := .ty n) hg hm hv rfl hn hd, fun σ σ' H S Q Q' E' rs rh h q xi => q.here rh (.ty n) h⟩
variable {k : Nat} {fa : Addr} {fd : FuncData} {ps : List Str} {sp : Sq}
theorem ev_call (F : FnOk X.prog X.w X.K X.mg X.base CX0 k fa fd ps (dn X.K sp)) (hr : Room k X.A) (hm : X.mg x = some (.ref fa)) (hk : PySem.W.keepIn X.K (.ref fa) = true) (hb : Binds X.K fd ps [])
    (ha : EA X W (e :: es) ra) (hg : Gl X x := by rfl) (hdb : (x == ("__debug__" : Str)) = false := by decide) (he : starEach (e :: es) X.env = (false, eval e X.env) :: starEach es X.env := by rfl) (hpl : (backTo pos (starEach es X.env)).any (·.1) = false := by rfl) :
    EV X W (.Call (.Name x p) (e :: es) [] pos) (rCall sp ra) := by
  obtain ⟨Ta, pa, la⟩ := ha.ex
  refine ⟨_, pe_call (E := fun _ _ _ => False) F hr hg hm hk hb .nil pass0 pa hdb he hpl, fun σ σ' H S Q Q' E' rs rh h q xi => ?_⟩
  refine la σ σ' H S _ _ E' rs rh h (fun d S1 v H1 f1 rh1 dv h1 => ?_) xi
  rw [List.append_nil]
  exact ⟨d, S1, Q', NoX, dv, rh1, h1, q.go f1, fun _ _ _ _ _ _ _ _ z => z⟩
theorem ev_call0 (F : FnOk X.prog X.w X.K X.mg X.base CX0 k fa fd ps (dn X.K sp)) (hr : Room k X.A) (hm : X.mg x = some (.ref fa)) (hk : PySem.W.keepIn X.K (.ref fa) = true) (hb : Binds X.K fd ps [])
    (hg : Gl X x := by rfl) (hdb : (x == ("__debug__" : Str)) = false := by decide) : EV X W (.Call (.Name x p) [] [] pos) (rCall sp rNil) := by
  refine ⟨_, pe_call0 (E := fun _ _ _ => False) F hr hg hm hk hb .nil pass0 hdb, fun σ σ' H S Q Q' E' rs rh h q xi => ?_⟩
  exact ⟨[], S, Q', NoX, .nil, rh, h, q, fun _ _ _ _ _ _ _ _ z => z⟩
/-! ### arguments by name: π tells, for each parameter, its place among (positional ++ named) -/
structure EK (X : Cx) (W : WX) (kws : List Keyword) (t : RA) : Prop where
  ex : ∃ T, PK X kws T ∧ ∀ (σ : L2.St) (σ' : Sg) (H : Hp) (S : Hq) (Q : List V → Hp → Prop) (Q' : List D → Hq → Prop) (E' : Xw), RS X.K H σ' σ → RH X.K S H → t σ' S Q' E' → QA X.K S H Q' Q → XI X.K S H E' (wx W σ) → T σ H Q
theorem ek_nil : EK X W [] rNil := ⟨_, pk_nil, fun σ σ' H S Q Q' E' rs rh h q xi => q _ _ _ _ Fr.refl rh .nil h⟩
theorem ek_cons {a : Expr} {kws : List Keyword} {nm : Option Str} {kpos : Pos} {r1 : RE} {rr : RA} (ha : EV X W a r1) (hr : EK X W kws rr) : EK X W (⟨nm, a, kpos⟩ :: kws) (rCons r1 rr) := by
  obtain ⟨Ta, pa, la⟩ := ha.ex
  obtain ⟨Tr, pr, lr⟩ := hr.ex
  refine ⟨_, pk_cons pa pr, fun σ σ' H S Q Q' E' rs rh h q xi => ?_⟩
  refine la σ σ' H S _ _ E' rs rh h (fun d S1 v H1 f1 rh1 dv h1 => ?_) xi
  refine lr σ σ' H1 S1 _ _ E' (rs.mono (f1.tle rh)) rh1 h1 (fun e S2 u H2 f2 rh2 du h2 => ?_) (xi.go f1)
  exact q _ _ _ _ (f1.trans f2) rh2 (.cons (DV.mono (f2.tle rh1) _ _ dv) du) h2
def pick {α : Type} (π : List Nat) (xs : List α) : List α := π.filterMap fun i => xs[i]?
theorem DVs.pick {K : PySem.W.Frag} {H : Hp} (π : List Nat) {ds : List D} {vs : List V} (r : DVs K H ds vs) : DVs K H (Y.pick π ds) (Y.pick π vs) := by
  induction π with
  | nil => exact .nil
  | cons i π ih =>
    unfold Y.pick at ih ⊢
    rw [List.filterMap_cons, List.filterMap_cons]
    cases e : ds[i]? with
    | none =>
      have e' : vs[i]? = none := List.getElem?_eq_none_iff.mpr (by rw [← r.length]; exact List.getElem?_eq_none_iff.mp e)
      rw [e']
      exact ih
    | some d =>
      obtain ⟨v, e', dv⟩ := r.get e
      rw [e']
      exact .cons dv ih
theorem Vals.pick (π : List Nat) {vs : List V} {us : List Value} (r : Vals vs us) : Vals (Y.pick π vs) (Y.pick π us) := by
  induction π with
  | nil => exact .nil
  | cons i π ih =>
    unfold Y.pick at ih ⊢
    rw [List.filterMap_cons, List.filterMap_cons]
    cases e : vs[i]? with
    | none =>
      rw [Vals.none_of r e]
      exact ih
    | some d =>
      obtain ⟨v, e', dv⟩ := Vals.get r e
      rw [e']
      exact .cons dv ih
def gk {α : Type} (n m : Nat) (π : List Nat) (us ws : List α) : List α := if us.length = n ∧ ws.length = m then pick π (us ++ ws) else []
theorem DVs.gk {K : PySem.W.Frag} {H : Hp} {n m : Nat} {π : List Nat} {ds es : List D} {vs us : List V} (r : DVs K H ds vs) (r2 : DVs K H es us) : DVs K H (Y.gk n m π ds es) (Y.gk n m π vs us) := by
  unfold Y.gk
  rw [← r.length, ← r2.length]
  split
  · exact (r.app r2).pick π
  · exact .nil
def rCallK (sp : Sq) (n m : Nat) (π : List Nat) (ra rk : RA) : RE := fun σ S Q E => ra σ S (fun ds S1 => rk σ S1 (fun es S2 => sp (gk n m π ds es) S2 Q NoX) E) E
abbrev KBn' (K : PySem.W.Frag) (fd : FuncData) (ps ks : List Str) (n m : Nat) (π : List Nat) : Prop := KBinds K fd ps ks (gk n m π) (gk n m π)
theorem kb_mk {K : PySem.W.Frag} {x qual : Str} {st : Stmt} {f : Addr} {fd : FuncData} {ps ks : List Str} {n m : Nat} {π : List Nat} (F : Fun K x qual st f fd) (hne : ps ≠ [])
    (h : ∀ (kV doc pm : Value) (an : Option Addr) (cdv ct : Value) (us ws : List Value), us.length = n → ws.length = m → bindArgs (PySem.W.fnOf x qual (defArgs st) (defBody st) (defScope st) .none kV doc pm an cdv ct) ⟨us, ks.zip ws⟩ = pure (ps.zip (pick π (us ++ ws)))) : KBn' K fd ps ks n m π := by
  obtain ⟨oc, od, kV, doc, pm, an, cdv, ct, osl, rfl, lk, hcd⟩ := F.ex
  refine ⟨fun s us ws _ hl => ?_, fun {vs us zs ws} r r2 => ?_⟩
  · by_cases c : us.length = n ∧ ws.length = m
    · have e : gk n m π us ws = pick π (us ++ ws) := if_pos c
      rw [e]
      exact .of_eq (h kV doc pm an cdv ct us ws c.1 c.2)
    · have e : gk n m π us ws = [] := if_neg c
      rw [e] at hl
      exact absurd (List.eq_nil_of_length_eq_zero hl.symm) hne
  · unfold gk
    rw [← r.length, ← r2.length]
    split
    · exact Vals.pick π (Vals.append r r2)
    · exact .nil
theorem ev_callK {kws : List Keyword} {ks : List Str} {n m : Nat} {π : List Nat} {rk : RA} (F : FnOk X.prog X.w X.K X.mg X.base CX0 k fa fd ps (dn X.K sp)) (hr : Room k X.A) (hm : X.mg x = some (.ref fa)) (hk : PySem.W.keepIn X.K (.ref fa) = true) (hb : KBn' X.K fd ps ks n m π)
    (ha : EA X W (e :: es) ra) (hkw : EK X W kws rk) (hg : Gl X x := by rfl) (hall : (backToKw pos (keywordEach kws X.env)).all (·.1.isSome) = true := by rfl) (hks : (backToKw pos (keywordEach kws X.env)).filterMap (·.1) = ks := by rfl)
    (hdb : (x == ("__debug__" : Str)) = false := by decide) (he : starEach (e :: es) X.env = (false, eval e X.env) :: starEach es X.env := by rfl)
    (hpl : ((backTo pos (starEach (e :: es) X.env)).any (·.1) || (backToKw pos (keywordEach kws X.env)).any (·.1.isNone)) = false := by rfl) :
    EV X W (.Call (.Name x p) (e :: es) kws pos) (rCallK sp n m π ra rk) := by
  obtain ⟨Ta, pa, la⟩ := ha.ex
  obtain ⟨Tk, pk, lk⟩ := hkw.ex
  refine ⟨_, pe_callK (E := fun _ _ _ => False) F hr hg hm hk hb pass0 pa pk hall hks hdb he hpl, fun σ σ' H S Q Q' E' rs rh h q xi => ?_⟩
  refine la σ σ' H S _ _ E' rs rh h (fun d S1 v H1 f1 rh1 dv h1 => ?_) xi
  refine lk σ σ' H1 S1 _ _ E' (rs.mono (f1.tle rh)) rh1 h1 (fun e S2 u H2 f2 rh2 du h2 => ?_) (xi.go f1)
  exact ⟨_, S2, Q', NoX, DVs.gk (DVs.mono (f2.tle rh1) _ _ dv) du, rh2, h2, q.go (f1.trans f2), fun _ _ _ _ _ _ _ _ z => z⟩
theorem ev_callK0 {kws : List Keyword} {ks : List Str} {n m : Nat} {π : List Nat} {rk : RA} (F : FnOk X.prog X.w X.K X.mg X.base CX0 k fa fd ps (dn X.K sp)) (hr : Room k X.A) (hm : X.mg x = some (.ref fa)) (hk : PySem.W.keepIn X.K (.ref fa) = true) (hb : KBn' X.K fd ps ks n m π)
    (hkw : EK X W kws rk) (hg : Gl X x := by rfl) (hall : (backToKw pos (keywordEach kws X.env)).all (·.1.isSome) = true := by rfl) (hks : (backToKw pos (keywordEach kws X.env)).filterMap (·.1) = ks := by rfl)
    (hdb : (x == ("__debug__" : Str)) = false := by decide)
    (hpl : ((backTo pos (starEach [] X.env)).any (·.1) || (backToKw pos (keywordEach kws X.env)).any (·.1.isNone)) = false := by rfl) :
    EV X W (.Call (.Name x p) [] kws pos) (rCallK sp n m π rNil rk) := by
  obtain ⟨Tk, pk, lk⟩ := hkw.ex
  refine ⟨tCallK (dn X.K sp) (gk n m π) (fun _ _ _ => False) tNil Tk, ⟨fun pins s σ H Q I h => ?_⟩, fun σ σ' H S Q Q' E' rs rh h q xi => ?_⟩
  · refine wpAny_Call_Name_kw (ld_glob I hg hm ?_ hdb)
    refine PySem.W.callWith_KW0 (h₀ := X.base) I.ok.mod.kin hk hall (thn (pk.run pos pins s σ H _ I h) fun ws s2 ⟨zs, H2, I2, rz, q2⟩ => ⟨I2.kIn, ?_⟩) hpl
    rw [hks]
    exact run_fnk F hr hb pass0 I2 .nil rz q2
  · refine lk σ σ' H S _ _ E' rs rh h (fun e S2 u H2 f2 rh2 du h2 => ?_) xi
    exact ⟨_, S2, Q', NoX, DVs.gk .nil du, rh2, h2, q.go f2, fun _ _ _ _ _ _ _ _ z => z⟩
def negD (x : D) (S : Hq) (Q : Qv) : Prop := match x with | .int i => Q (.int (-i)) S | _ => False
theorem ev_neg {r1 : RE} (h : EV X W e r1) : EV X W (.UnaryOp .USub e pos) (rUn negD r1) := by
  obtain ⟨T, p, l⟩ := h.ex
  refine ⟨_, pe_un un_neg p, fun σ σ' H S Q Q' E' rs rh h q xi => ?_⟩
  refine l σ σ' H S _ _ E' rs rh h (fun d S1 v H1 f1 rh1 dv h1 => ?_) xi
  cases d <;> try exact h1.elim
  cases dv
  exact ⟨_, rfl, q _ _ _ _ f1 rh1 (.int _) h1⟩
end

/-! ### built-ins -/
def lenD (ds : List D) (S : Hq) (Q : Qv) : Prop := match ds with
  | [.tup xs] => Q (.int xs.length) S
  | [.kl xs] => Q (.int xs.length) S
  | [.str z] => z.length ≤ 1000000 ∧ Q (.int z.length) S
  | [.ref a] => ∃ xs, LsR S a xs ∧ Q (.int xs.length) S
  | _ => False
def absD (ds : List D) (S : Hq) (Q : Qv) : Prop := match ds with | [.int i] => Q (.int (if i < 0 then -i else i)) S | _ => False
def intF (ds : List D) (S : Hq) (Q : Qv) : Prop := match ds with | [.int i] => Q (.int i) S | [.bl k] => Q (.int (if k then 1 else 0)) S | _ => False
def maxD (ds : List D) (S : Hq) (Q : Qv) : Prop := match ds with | [.int i, .int j] => Q (.int (if j > i then j else i)) S | _ => False
def minD (ds : List D) (S : Hq) (Q : Qv) : Prop := match ds with | [.int i, .int j] => Q (.int (if j < i then j else i)) S | _ => False
def tupF (ds : List D) (S : Hq) (Q : Qv) : Prop := match ds with
  | [.tup xs] => Q (.tup xs) S
  | [.ref a] => ∃ xs, LsR S a xs ∧ Q (.tup xs) S
  | _ => False
def lstF (ds : List D) (S : Hq) (Q : Qv) : Prop := match ds with
  | [.tup xs] => ∀ p, S p = none → Q (.ref p) (up S p (.lst xs))
  | [.ref a] => ∃ xs, LsR S a xs ∧ ∀ p, S p = none → Q (.ref p) (up S p (.lst xs))
  | _ => False
/-- the type's name -/
def tyN (x : D) (S : Hq) : Option String := match x with
  | .non => some "NoneType" | .bl _ => some "bool" | .int _ => some "int" | .str _ => some "str" | .tup _ => some "tuple"
  | .ref a => match S a with | some (.lst _) => some "list"  | some (.dic _) => some "dict" | _ => none
  | .ty _ => none
  | .kl _ => some "list"
def isiB (t n : String) : Option Bool :=
  if n = "int" then some (t == "int" || t == "bool") else if n = "bool" then some (t == "bool") else if n = "tuple" then some (t == "tuple") else if n = "list" then some (t == "list") else if n = "str" then some (t == "str") else none
def isiR (t n : String) (S : Hq) (Q : Qv) : Prop := match isiB t n with | some b => Q (.bl b) S | none => False
def isiD (ds : List D) (S : Hq) (Q : Qv) : Prop := match ds with
  | [x, .ty n] => match tyN x S with | some t => isiR t n S Q | none => False
  | _ => False
theorem isiB_kit {t n : String} {b : Bool} (ht : t = "NoneType" ∨ t = "bool" ∨ t = "int" ∨ t = "str" ∨ t = "tuple" ∨ t = "list" ∨ t = "dict") (h : isiB t n = some b) : kitB t n = some b := by
  unfold isiB at h
  split at h
  · rename_i e; subst e; rcases ht with e | e | e | e | e | e | e <;> subst e <;> (cases h; decide +kernel)
  · split at h
    · rename_i e; subst e; rcases ht with e | e | e | e | e | e | e <;> subst e <;> (cases h; decide +kernel)
    · split at h
      · rename_i e; subst e; rcases ht with e | e | e | e | e | e | e <;> subst e <;> (cases h; decide +kernel)
      · split at h
        · rename_i e; subst e; rcases ht with e | e | e | e | e | e | e <;> subst e <;> (cases h; decide +kernel)
        · split at h
          · rename_i e; subst e; rcases ht with e | e | e | e | e | e | e <;> subst e <;> (cases h; decide +kernel)
          · cases h
section
variable {X : Cx} {K : PySem.W.Frag} {S : Hq} {H : Hp}
theorem TyX.ofSqT {a : Addr} {xs : List V} (h : SqT K H a xs) : TyX K H (.ref a) (.type "tuple") := by
  rcases h with (h | ⟨o, h⟩) | ⟨o, its, n, hk, hc, _⟩
  · exact .base (.tup h)
  · exact .fTuple h
  · exact .kTuple hk hc
theorem tyN_of {x : D} {v : V} {t : String} (rh : RH K S H) (d : DV K H x v) (e : tyN x S = some t) : TyX K H v (.type t) ∧ (t = "NoneType" ∨ t = "bool" ∨ t = "int" ∨ t = "str" ∨ t = "tuple" ∨ t = "list" ∨ t = "dict") := by
  cases d with
  | non => cases e; exact ⟨.base .non, by simp⟩
  | bl => cases e; exact ⟨.base (.bl _), by simp⟩
  | int => cases e; exact ⟨.base (.int _), by simp⟩
  | str => cases e; exact ⟨.base (.str _), by simp⟩
  | tup s r => cases e; exact ⟨TyX.ofSqT s, by simp⟩
  | ty => cases e
  | kl s r =>
    cases e
    refine ⟨?_, by simp⟩
    rcases s with ⟨o, s⟩ | ⟨o, its, n, hk, hc, _⟩
    · exact .base (.frz s)
    · exact .kList hk hc
  | ref a =>
    unfold tyN at e
    simp only at e
    cases g : S a with
    | none => rw [g] at e; cases e
    | some o =>
      have q := rh a o g
      rw [g] at e
      cases o with
      | lst xs => cases e; obtain ⟨ys, q, _⟩ := q; exact ⟨.base (.lst q), by simp⟩
      | ins C fs => cases e
      | dic kvs =>
        cases e
        rcases q with ⟨ys, q, _⟩ | ⟨ys, q, _⟩
        · exact ⟨.base (.dK q), by simp⟩
        · exact ⟨.base (.dT q), by simp⟩
theorem lc_isi : LiftC K isiD (rIsi K) := by
  intro ds S H Q' Q vs rh dv h q
  match ds, dv with
  | [x, .ty n], .cons d1 (.cons d2 .nil) =>
    cases d2
    have h : (match tyN x S with | some t => isiR t n S Q' | none => False) := h
    split at h
    · rename_i t et
      unfold isiR at h
      split at h
      · rename_i b eb
        obtain ⟨ty, ts⟩ := tyN_of rh d1 et
        exact ⟨_, _, _, _, b, rfl, .ty n, ty, kit_ty (isiB_kit ts eb), q.here rh (.bl _) h⟩
      · exact h.elim
    · exact h.elim
theorem cr_len : CallR X (.builtin "len") (fun xs H Q => (∃ p ys, xs = [.ref p] ∧ (SqL X.K H p ys ∨ SqT X.K H p ys) ∧ Q (.int ys.length) H) ∨ (∃ z, xs = [.str z] ∧ z.length ≤ sizeLine ∧ Q (.int z.length) H)) := callr_or call_len_seq call_len_str
theorem lc_len : LiftC K lenD (fun xs H Q => (∃ p ys, xs = [.ref p] ∧ (SqL K H p ys ∨ SqT K H p ys) ∧ Q (.int ys.length) H) ∨ (∃ z, xs = [.str z] ∧ z.length ≤ sizeLine ∧ Q (.int z.length) H)) := by
  intro ds S H Q' Q vs rh dv h q
  match ds, dv, h with
  | [.tup xs], .cons (.tup s r) .nil, h => exact .inl ⟨_, _, rfl, .inr s, by rw [← r.length]; exact q.here rh (.int _) h⟩
  | [.kl xs], .cons (.kl s r) .nil, h => exact .inl ⟨_, _, rfl, .inl s.sql, by rw [← r.length]; exact q.here rh (.int _) h⟩
  | [.str z], .cons (.str _) .nil, h => exact .inr ⟨z, rfl, big_le h.1, q.here rh (.int _) h.2⟩
  | [.ref a], .cons (.ref _) .nil, h =>
    obtain ⟨xs, l, h⟩ := h
    obtain ⟨ys, s, r⟩ := rh.sql l
    exact .inl ⟨_, _, rfl, .inl s, by rw [← r.length]; exact q.here rh (.int _) h⟩
theorem lc_abs : LiftC K absD (fun xs H Q => ∃ i, xs = [.int i] ∧ Q (.int (if i < 0 then -i else i)) H) := by
  intro ds S H Q' Q vs rh dv h q
  match ds, dv, h with
  | [.int i], .cons (.int _) .nil, h => exact ⟨_, rfl, q.here rh (.int _) h⟩
theorem lc_int : LiftC K intF (fun xs H Q => (∃ i, xs = [.int i] ∧ Q (.int i) H) ∨ ∃ k, xs = [.bl k] ∧ Q (.int (if k then 1 else 0)) H) := by
  intro ds S H Q' Q vs rh dv h q
  match ds, dv, h with
  | [.int i], .cons (.int _) .nil, h => exact .inl ⟨_, rfl, q.here rh (.int _) h⟩
  | [.bl i], .cons (.bl _) .nil, h => exact .inr ⟨_, rfl, q.here rh (.int _) h⟩
theorem lc_max : LiftC K maxD (fun xs H Q => ∃ i j, xs = [.int i, .int j] ∧ Q (.int (if j > i then j else i)) H) := by
  intro ds S H Q' Q vs rh dv h q
  match ds, dv, h with
  | [.int i, .int j], .cons (.int _) (.cons (.int _) .nil), h => exact ⟨_, _, rfl, q.here rh (.int _) h⟩
theorem lc_min : LiftC K minD (fun xs H Q => ∃ i j, xs = [.int i, .int j] ∧ Q (.int (if j < i then j else i)) H) := by
  intro ds S H Q' Q vs rh dv h q
  match ds, dv, h with
  | [.int i, .int j], .cons (.int _) (.cons (.int _) .nil), h => exact ⟨_, _, rfl, q.here rh (.int _) h⟩
theorem lc_tup : LiftC K tupF (fun xs H Q => ∃ p ys, xs = [.ref p] ∧ ((SqL K H p ys ∧ ∀ l, H l = none → Q (.ref l) (upd H l (.tup ys))) ∨ (SqT K H p ys ∧ Q (.ref p) H))) := by
  intro ds S H Q' Q vs rh dv h q
  match ds, dv, h with
  | [.tup xs], .cons (.tup s r) .nil, h => exact ⟨_, _, rfl, .inr ⟨s, q.here rh (.tup s r) h⟩⟩
  | [.ref a], .cons (.ref _) .nil, h =>
    obtain ⟨xs, l, h⟩ := h
    obtain ⟨ys, s, r⟩ := rh.sql l
    exact ⟨_, _, rfl, .inl ⟨s, fun p hp => q.newT rh hp r h⟩⟩
theorem lc_list : LiftC K lstF (fun xs H Q => ∃ p ys, xs = [.ref p] ∧ (SqL K H p ys ∨ SqT K H p ys) ∧ ∀ l, H l = none → Q (.ref l) (upd H l (.lst ys))) := by
  intro ds S H Q' Q vs rh dv h q
  match ds, dv, h with
  | [.tup xs], .cons (.tup s r) .nil, h => exact ⟨_, _, rfl, .inr s, fun p hp => q.newL rh hp r (h p (rh.fresh hp))⟩
  | [.ref a], .cons (.ref _) .nil, h =>
    obtain ⟨xs, l, h⟩ := h
    obtain ⟨ys, s, r⟩ := rh.sql l
    exact ⟨_, _, rfl, .inl s, fun p hp => q.newL rh hp r (h p (rh.fresh hp))⟩
end

/-! ### methods of built-in types -/
def rMt (T : String) (f : D → List D → Hq → Qv → Prop) (ro : RE) (ra : RA) : RE := fun σ S Q E => ro σ S (fun x S1 => tyN x S1 = some T ∧ ra σ S1 (fun ds S2 => f x ds S2 Q) E) E
def LiftM (K : PySem.W.Frag) (f : D → List D → Hq → Qv → Prop) (r : V → List V → Hp → VK → Prop) : Prop := ∀ x ds S H Q' Q v vs, RH K S H → DV K H x v → DVs K H ds vs → f x ds S Q' → QI K S H Q' Q → r v vs H Q
section
variable {X : Cx} {K : PySem.W.Frag} {S : Hq} {H : Hp} {W : WX}
theorem tyV_of {x : D} {v : V} {T : String} (rh : RH K S H) (d : DV K H x v) (hT : T = "list" ∨ T = "str" ∨ T = "dict") (e : tyN x S = some T) : tyV K T v H := by
  cases d with
  | str => cases e; rfl
  | ref a =>
    unfold tyN at e
    simp only at e
    cases g : S a with
    | none => rw [g] at e; cases e
    | some o =>
      have q := rh a o g
      rw [g] at e
      cases o with
      | lst xs => cases e; obtain ⟨ys, q, _⟩ := q; exact .inl ⟨rfl, ys, .inl (.inl q)⟩
      | ins C fs => cases e
      | dic kvs =>
        cases e
        rcases q with ⟨ys, q, _⟩ | ⟨ys, q, _⟩
        · exact .inr (.inr (.inl ⟨rfl, .inl ⟨ys, q⟩⟩))
        · exact .inr (.inr (.inl ⟨rfl, .inr ⟨ys, q⟩⟩))
  | non => cases e; rcases hT with e | e | e <;> simp at e
  | bl => cases e; rcases hT with e | e | e <;> simp at e
  | int => cases e; rcases hT with e | e | e <;> simp at e
  | tup => cases e; rcases hT with e | e | e <;> simp at e
  | ty => cases e
  | kl s r => cases e; exact .inl ⟨rfl, _, s.sql⟩
variable {o e : Expr} {es : List Expr} {ro : RE} {ra : RA} {name : Str} {apos cpos : Pos} {T id : String} {f : D → List D → Hq → Qv → Prop} {r : V → List V → Hp → VK → Prop}
theorem ev_mt (pa : PlainAttrs T) (slot : Slot T name id) (hty : typeOf (.builtin id) = pure (.type "method_descriptor")) (hT : T = "list" ∨ T = "str" ∨ T = "dict") (hm : MtR X id r) (hl : LiftM X.K f r) (ho : EV X W o ro) (ha : EA X W (e :: es) ra)
    (hbase : attributeBase o name X.env (eval o X.env) = eval o X.env := by rfl)
    (hfew : ((backTo cpos (starEach (e :: es) X.env)).all (fun x => !x.1) && (backToKw cpos (keywordEach [] X.env)).all (fun x => x.1.isSome)
      && decide ((e :: es).length + ([] : List Keyword).length + (if ([] : List Keyword).isEmpty then 0 else 1) < 30)) = true := by rfl)
    (hline : (apos.endLine == cpos.line) = true := by rfl) (hs : starEach (e :: es) X.env = (false, eval e X.env) :: starEach es X.env := by rfl) (hplain : (backTo cpos (starEach es X.env)).any (·.1) = false := by rfl) :
    EV X W (.Call (.Attribute o name apos) (e :: es) [] cpos) (rMt T f ro ra) := by
  obtain ⟨To, po, lo⟩ := ho.ex
  obtain ⟨Ta, paa, la⟩ := ha.ex
  refine ⟨_, pe_bm pa slot hty hm po paa hbase hfew hline hs hplain, fun σ σ' H S Q Q' E' rs rh h q xi => ?_⟩
  refine lo σ σ' H S _ _ E' rs rh h (fun d S1 v H1 f1 rh1 dv h1 => ⟨tyV_of rh1 dv hT h1.1, ?_⟩) xi
  refine la σ σ' H1 S1 _ _ E' (rs.mono (f1.tle rh)) rh1 h1.2 (fun e S2 u H2 f2 rh2 du h2 => ?_) (xi.go f1)
  exact hl _ _ _ _ _ _ _ _ rh2 (DV.mono (f2.tle rh1) _ _ dv) du h2 (q.go (f1.trans f2))
theorem ev_mt0 (pa : PlainAttrs T) (slot : Slot T name id) (hty : typeOf (.builtin id) = pure (.type "method_descriptor")) (hT : T = "list" ∨ T = "str" ∨ T = "dict") (hm : MtR X id r) (hl : LiftM X.K f r) (ho : EV X W o ro)
    (hbase : attributeBase o name X.env (eval o X.env) = eval o X.env := by rfl) (hline : (apos.endLine == cpos.line) = true := by rfl) : EV X W (.Call (.Attribute o name apos) [] [] cpos) (rMt T f ro rNil) := by
  obtain ⟨To, po, lo⟩ := ho.ex
  refine ⟨_, pe_bm0 pa slot hty hm po hbase hline, fun σ σ' H S Q Q' E' rs rh h q xi => ?_⟩
  refine lo σ σ' H S _ _ E' rs rh h (fun d S1 v H1 f1 rh1 dv h1 => ⟨tyV_of rh1 dv hT h1.1, ?_⟩) xi
  exact hl _ _ _ _ _ _ _ _ rh1 dv .nil h1.2 (q.go f1)
def appD (x : D) (ds : List D) (S : Hq) (Q : Qv) : Prop := match x, ds with
  | .ref a, [y] => ∃ xs, S a = some (.lst xs) ∧ xs.length < 1000000 ∧ Q .non (up S a (.lst (xs ++ [y])))
  | _, _ => False
theorem lm_app : LiftM K appD rAppend := by
  intro x ds S H Q' Q v vs rh dx dv h q
  match x, ds, dx, dv, h with
  | .ref a, [y], .ref _, .cons d .nil, h =>
    obtain ⟨xs, e, hz, h⟩ := h
    obtain ⟨ys, g, r⟩ := rh.lst e
    exact ⟨_, ys, _, rfl, rfl, g, by rw [← r.length]; exact big_lt hz, q.putL rh e (r.app (.cons d .nil)) .non h⟩
def extD (x : D) (ds : List D) (S : Hq) (Q : Qv) : Prop := match x, ds with
  | .ref a, [.ref b] => ∃ xs ys, S a = some (.lst xs) ∧ S b = some (.lst ys) ∧ xs.length + ys.length ≤ 1000000 ∧ Q .non (up S a (.lst (xs ++ ys)))
  | _, _ => False
theorem lm_ext : LiftM K extD rExtend := by
  intro x ds S H Q' Q v vs rh dx dv h q
  match x, ds, dx, dv, h with
  | .ref a, [.ref b], .ref _, .cons (.ref _) .nil, h =>
    obtain ⟨xs, ys, e, e2, hz, h⟩ := h
    obtain ⟨us, g, r⟩ := rh.lst e
    obtain ⟨ws, g2, r2⟩ := rh.lst e2
    exact ⟨_, _, us, ws, rfl, rfl, g, g2, by rw [← r.length, ← r2.length]; exact big_le hz, q.putL rh e (r.app r2) .non h⟩
/-- texts -/
def strsD : List D → Option (List Str)
  | [] => some []
  | .str z :: r => (strsD r).map (z :: ·)
  | _ :: _ => none
theorem strsD_of : ∀ {ds : List D} {zs : List Str} {vs : List V}, strsD ds = some zs → DVs K H ds vs → vs = zs.map V.str
  | [], _, _, e, h => by cases h; cases e; rfl
  | .str z :: r, _, _, e, h => by
    cases h with | cons a b =>
    cases a
    unfold strsD at e
    cases g : strsD r with
    | none => rw [g] at e; cases e
    | some l => rw [g] at e; cases e; rw [strsD_of g b]; rfl
  | .non :: _, _, _, e, _ => by cases e
  | .bl _ :: _, _, _, e, _ => by cases e
  | .int _ :: _, _, _, e, _ => by cases e
  | .tup _ :: _, _, _, e, _ => by cases e
  | .ref _ :: _, _, _, e, _ => by cases e
  | .ty _ :: _, _, _, e, _ => by cases e
  | .kl _ :: _, _, _, e, _ => by cases e
def joinD (x : D) (ds : List D) (S : Hq) (Q : Qv) : Prop := match x, ds with
  | .str z, [.ref a] => ∃ xs zs, LsR S a xs ∧ strsD xs = some zs ∧ (zs.map (·.length)).sum + zs.length * z.length ≤ 1000000 ∧ Q (.str (Txt.join z zs)) S
  | .str z, [.tup xs] => ∃ zs, strsD xs = some zs ∧ (zs.map (·.length)).sum + zs.length * z.length ≤ 1000000 ∧ Q (.str (Txt.join z zs)) S
  | _, _ => False
theorem lm_join : LiftM X.K joinD (fun x xs H Q => ∃ a p, ∃ ys : List Str, x = .str a ∧ xs = [.ref p] ∧ (SqL X.K H p (ys.map V.str) ∨ SqT X.K H p (ys.map V.str)) ∧
    (ys.map (·.length)).sum + ys.length * a.length ≤ 16777216 ∧ Q (.str (Txt.join a ys)) H) := by
  intro x ds S H Q' Q v vs rh dx dv h q
  match x, ds, dx, dv, h with
  | .str z, [.ref a], .str _, .cons (.ref _) .nil, h =>
    obtain ⟨xs, zs, l, e, hz, h⟩ := h
    obtain ⟨ys, s, r⟩ := rh.sql l
    rw [strsD_of e r] at s
    exact ⟨_, _, zs, rfl, rfl, .inl s, Nat.le_trans hz (by decide), q.here rh (.str _) h⟩
  | .str z, [.tup xs], .str _, .cons (.tup s r) .nil, h =>
    obtain ⟨zs, e, hz, h⟩ := h
    rw [strsD_of e r] at s
    exact ⟨_, _, zs, rfl, rfl, .inr s, Nat.le_trans hz (by decide), q.here rh (.str _) h⟩
def stwD (x : D) (ds : List D) (S : Hq) (Q : Qv) : Prop := match x, ds with
  | .str a, [.str b] => Q (.bl (Txt.startswith a b)) S
  | _, _ => False
theorem lm_stw : LiftM K stwD (fun x xs H Q => ∃ a b, x = .str a ∧ xs = [.str b] ∧ Q (.bl (Txt.startswith a b)) H) := by
  intro x ds S H Q' Q v vs rh dx dv h q
  match x, ds, dx, dv, h with
  | .str a, [.str b], .str _, .cons (.str _) .nil, h => exact ⟨a, b, rfl, rfl, q.here rh (.bl _) h⟩
end
end Y
namespace Y
open PySem PySem.Spec PyProof.Rows L2

/-! ### targets -/
abbrev RG := D → Sg → Hq → (Sg → Hq → Prop) → Xw → Prop
abbrev RGs := List D → Sg → Hq → (Sg → Hq → Prop) → Xw → Prop
def SI' (K : PySem.W.Frag) (S : Hq) (H : Hp) (N' : Sg → Hq → Prop) (N : L2.St → Hp → Prop) : Prop := SI K S H N' N
structure EG (X : Cx) (W : WX) (tg : Expr) (t : RG) : Prop where
  ex : ∃ T, PG X tg T ∧ ∀ (σ : L2.St) (σ' : Sg) (H : Hp) (S : Hq) (d : D) (v : V) (N : L2.St → Hp → Prop) (N' : Sg → Hq → Prop) (E' : Xw), RS X.K H σ' σ → RH X.K S H → DV X.K H d v → t d σ' S N' E' → SI X.K S H N' N → XI X.K S H E' (wx W σ) → T v σ H N
structure EGs (X : Cx) (W : WX) (tg : List Expr) (t : RGs) : Prop where
  ex : ∃ T, PGs X tg T ∧ ∀ (σ : L2.St) (σ' : Sg) (H : Hp) (S : Hq) (d : List D) (v : List V) (N : L2.St → Hp → Prop) (N' : Sg → Hq → Prop), RS X.K H σ' σ → RH X.K S H → DVs X.K H d v → t d σ' S N' NoX → SI X.K S H N' N → T v σ H N
def gNm (i : Nat) : RG := fun d σ S N _ => N (σ.set i (some d)) S
def gNils : RGs := fun ds σ S N _ => match ds with | [] => N σ S | _ => False
def gConss (g : RG) (r : RGs) : RGs := fun ds σ S N E => match ds with | d :: ds => g d σ S (fun σ1 S1 => r ds σ1 S1 N E) E | _ => False
def gTp (n : Nat) (r : RGs) : RG := fun d σ S N _ => match d with | .tup ds => ds.length = n ∧ r ds σ S N NoX | _ => False
section
variable {X : Cx} {W : WX} {pos : Pos}
theorem XI.no {K : PySem.W.Frag} {S : Hq} {H : Hp} {E : XK} : XI K S H NoX E := fun _ _ _ _ _ _ _ _ z => z.elim
theorem eg_nm (i : Nat) {x : Str} (hN : X.N.Nodup) (hi : X.N[i]? = some x := by rfl) (hx : Loc X.env.scope x := by first | exact .inl rfl | exact .inr rfl) (hf : X.fn x = true ∨ X.env.scope.names.lookup x = some .local := by first | exact .inl rfl | exact .inr rfl | assumption) : EG X W (.Name x pos) (gNm i) :=
  ⟨_, pg_name hN hi hx hf, fun σ σ' H S d v N N' E' rs rh dv h n x => n _ _ _ _ Fr.refl rh (rs.set dv i) h⟩
theorem egs_nil : EGs X W [] gNils := by
  refine ⟨_, pgs_nil, fun σ σ' H S d v N N' rs rh dv h n => ?_⟩
  cases dv with
  | nil => exact ⟨rfl, n _ _ _ _ Fr.refl rh rs h⟩
  | cons _ _ => exact h.elim
theorem egs_cons {e : Expr} {es : List Expr} {g : RG} {r : RGs} (h1 : EG X W e g) (h2 : EGs X W es r) (hs : (assignEach (e :: es) X.env).map (·.2) = assign e X.env :: (assignEach es X.env).map (·.2) := by rfl) : EGs X W (e :: es) (gConss g r) := by
  obtain ⟨T1, p1, l1⟩ := h1.ex
  obtain ⟨T2, p2, l2⟩ := h2.ex
  refine ⟨_, pgs_cons p1 p2 hs, fun σ σ' H S d v N N' rs rh dv h n => ?_⟩
  cases dv with
  | nil => exact h.elim
  | cons x r =>
    refine ⟨_, _, rfl, l1 σ σ' H S _ _ _ _ NoX rs rh x h (fun σ1' S1 σ1 H1 f1 rh1 rs1 h1 => ?_) XI.no⟩
    exact l2 σ1 σ1' H1 S1 _ _ _ _ rs1 rh1 (DVs.mono (f1.tle rh) _ _ r) h1 (n.go f1)
theorem eg_tp {es : List Expr} {k : Nat} {r : RGs} {n : Nat} (hc : X.calm = true) (h : EGs X W es r) (hn : (assignEach es X.env).length = n := by rfl) (hst : (assignEach es X.env).findIdx? (·.1) = none := by rfl) : EG X W (.Tuple es k pos) (gTp n r) := by
  obtain ⟨T, p, l⟩ := h.ex
  refine ⟨_, pg_tup hc p hn hst, fun σ σ' H S d v N N' E' rs rh dv h nn x => ?_⟩
  cases dv with
  | tup s r => exact ⟨_, _, rfl, s, by rw [← r.length]; exact h.1, l σ σ' H S _ _ N N' rs rh r h.2 nn⟩
  | _ => exact h.elim
def setD (o i d : D) (S : Hq) (Q : Hq → Prop) : Prop := match o, i with
  | .ref a, .int k => ∃ xs j, S a = some (.lst xs) ∧ ixN xs.length k = some j ∧ Q (up S a (.lst (xs.set j d)))
  | _, _ => False
def gSb (ro ri : RE) : RG := fun d σ S N E => ro σ S (fun o S1 => ri σ S1 (fun i S2 => setD o i d S2 (fun S3 => N σ S3)) E) E
theorem eg_sb {o i : Expr} {ro ri : RE} (ho : EV X W o ro) (hi : EV X W i ri)
    (ha : ∀ v, assign (.Subscript o i pos) X.env v = (do
      let ov ← holding [v] (eval o X.env)
      let iv ← holding [v, ov] (eval i X.env)
      standAt pos
      holding [v, ov, iv] (setItem ov iv v)
      release [v, ov, iv] []) := by intro _; rfl) : EG X W (.Subscript o i pos) (gSb ro ri) := by
  obtain ⟨To, po, lo⟩ := ho.ex
  obtain ⟨Ti, pi, li⟩ := hi.ex
  refine ⟨_, pg_sub po pi set_list ha, fun σ σ' H S d v N N' E' rs rh dv h n x => ?_⟩
  refine lo σ σ' H S _ _ E' rs rh h (fun o S1 ov H1 f1 rh1 do1 h1 => ?_) x
  refine li σ σ' H1 S1 _ _ E' (rs.mono (f1.tle rh)) rh1 h1 (fun i S2 iv H2 f2 rh2 di h2 => ?_) (x.go f1)
  cases o <;> cases i <;> try exact h2.elim
  cases do1; cases di
  obtain ⟨xs, j, e, ix, h2⟩ := h2
  obtain ⟨ys, g, r⟩ := rh2.lst e
  have f12 := f1.trans f2
  have dv2 := DV.mono (f12.tle rh) _ _ dv
  have t : Tle X.K H2 (upd H2 _ (.lst (ys.set j v))) := rh2.putTle (o := .lst (ys.set j v)) e
  have f3 := Fr.put (H := H2) (o := .lst (ys.set j v)) (q := .lst (xs.set j d)) e
  exact ⟨_, ys, _, j, rfl, rfl, g, by rw [← r.length]; exact ix, n _ _ _ _ (f12.trans f3) (rh2.put (q := .lst (xs.set j d)) e ⟨_, upd_same, DVs.mono t _ _ (r.set j dv2)⟩) (rs.mono ((f12.trans f3).tle rh)) h2⟩
end

/-! ### statements -/
def En.x (D : En) (σ : Sg) : Xw := fun C fs S => D.ex C fs σ S
def rNext : RSt := fun D σ S => D.nx σ S
def rSeq (t u : RSt) : RSt := fun D σ S => t { D with nx := u D } σ S
def rDrop (r : RE) : RSt := fun D σ S => r σ S (fun _ S1 => D.nx σ S1) (D.x σ)
def rRet (r : RE) : RSt := fun D σ S => r σ S D.rt (D.x σ)
def rRetN : RSt := fun D _ S => D.rt .non S
def rBrk : RSt := fun D σ S => D.bk σ S
def rCnt : RSt := fun D σ S => D.ct σ S
def rIfS (c : RT) (t u : RSt) : RSt := fun D σ S => c σ S (fun b S1 => if b = true then t D σ S1 else u D σ S1) (D.x σ)
def rSet (r : RE) (g : RG) : RSt := fun D σ S => r σ S (fun d S1 => g d σ S1 D.nx (D.x σ)) (D.x σ)
section
variable {X : Cx} {W : WX} {st : Stmt} {rest : List Stmt} {t u : RSt} {e : Expr} {r : RE} {pos : Pos}
theorem DI.xi {K : PySem.W.Frag} {S : Hq} {H : Hp} {D' : En} {D : Ends} {σ' : Sg} {σ : L2.St} (d : DI K W S H D' D) (rh : RH K S H) (rs : RS K H σ' σ) : XI K S H (D'.x σ') (wx W σ) := fun C fs S' H' dd f rh' x h => d.ex C fs σ' S' σ H' dd f rh' (rs.mono (f.tle rh)) x h
theorem eb_nil : EB X W [] rNext := ⟨_, pss_nil, fun σ σ' H S D D' rs rh h d => d.nx _ _ _ _ Fr.refl rh rs h⟩
theorem eb_cons (h1 : ES X W st t) (h2 : EB X W rest u) : EB X W (st :: rest) (rSeq t u) := by
  obtain ⟨T1, p1, l1⟩ := h1.ex
  obtain ⟨T2, p2, l2⟩ := h2.ex
  refine ⟨_, pss_cons p1 p2, fun σ σ' H S D D' rs rh h d => ?_⟩
  refine l1 σ σ' H S _ { D' with nx := u D' } rs rh h ⟨fun σ1' S1 σ1 H1 f1 rh1 rs1 h1 => ?_, d.rt, d.bk, d.ct, d.ex⟩
  exact l2 σ1 σ1' H1 S1 D D' rs1 rh1 h1 (d.go f1)
theorem eb_one (h1 : ES X W st t) : EB X W [st] t := let ⟨T, p, l⟩ := h1.ex; ⟨T, pss_one p, l⟩
theorem es_pass : ES X W (.Pass pos) rNext := ⟨_, ps_pass, fun σ σ' H S D D' rs rh h d => d.nx _ _ _ _ Fr.refl rh rs h⟩
theorem es_brk : ES X W (.Break pos) rBrk := ⟨_, ps_break, fun σ σ' H S D D' rs rh h d => d.bk _ _ _ _ Fr.refl rh rs h⟩
theorem es_cnt : ES X W (.Continue pos) rCnt := ⟨_, ps_continue, fun σ σ' H S D D' rs rh h d => d.ct _ _ _ _ Fr.refl rh rs h⟩
theorem es_expr (h : EV X W e r) (hs : swapsWith e none pos.line X.env = pure false := by rfl) : ES X W (.Expr e pos) (rDrop r) := by
  obtain ⟨T, p, l⟩ := h.ex
  refine ⟨_, ps_expr p hs, fun σ σ' H S D D' rs rh h d => ?_⟩
  exact l σ σ' H S _ _ _ rs rh h (fun _ S1 v H1 f1 rh1 dv h1 => d.nx _ _ _ _ f1 rh1 (rs.mono (f1.tle rh)) h1) (d.xi rh rs)
theorem es_ret (h : EV X W e r) : ES X W (.Return (some e) pos) (rRet r) := by
  obtain ⟨T, p, l⟩ := h.ex
  refine ⟨_, ps_ret p, fun σ σ' H S D D' rs rh h d => ?_⟩
  exact l σ σ' H S _ _ _ rs rh h d.rt (d.xi rh rs)
theorem es_retN : ES X W (.Return none pos) rRetN := ⟨_, ps_retN, fun σ σ' H S D D' rs rh h d => d.rt.here rh .non h⟩
theorem es_if {c : Expr} {a b : List Stmt} {tc : RT} (hc : ET X W c tc) (ha : EB X W a t) (hb : EB X W b u) : ES X W (.If c a b pos) (rIfS tc t u) := by
  obtain ⟨Tc, pc, lc⟩ := hc.ex
  obtain ⟨Ta, pa, la⟩ := ha.ex
  obtain ⟨Tb, pb, lb⟩ := hb.ex
  refine ⟨_, ps_if pc pa pb, fun σ σ' H S D D' rs rh h d => ?_⟩
  refine lc σ σ' H S _ _ _ rs rh h (fun b S1 H1 f1 rh1 h1 => ?_) (d.xi rh rs)
  cases b with
  | true => exact la σ σ' H1 S1 D D' (rs.mono (f1.tle rh)) rh1 h1 (d.go f1)
  | false => exact lb σ σ' H1 S1 D D' (rs.mono (f1.tle rh)) rh1 h1 (d.go f1)
theorem es_set (i : Nat) {x : Str} {pos' : Pos} (hN : X.N.Nodup) (he : EV X W e r) (hi : X.N[i]? = some x := by rfl) (hx : Loc X.env.scope x := by first | exact .inl rfl | exact .inr rfl) (hs : swapsWith e (some (.Name x pos')) pos.line X.env = pure false := by rfl)
    (hf : X.fn x = true ∨ X.env.scope.names.lookup x = some .local := by first | exact .inl rfl | exact .inr rfl | assumption) : ES X W (.Assign [.Name x pos'] e pos) (rSet r (gNm i)) := by
  obtain ⟨T, p, l⟩ := he.ex
  refine ⟨_, L2.ps_set hN hi hx p hs hf, fun σ σ' H S D D' rs rh h d => ?_⟩
  exact l σ σ' H S _ _ _ rs rh h (fun _ S1 v H1 f1 rh1 dv h1 => d.nx _ _ _ _ f1 rh1 ((rs.mono (f1.tle rh)).set dv i) h1) (d.xi rh rs)
theorem es_asg {tg : Expr} {g : RG} (he : EV X W e r) (hg : EG X W tg g) (hs : swapsWithSole [tg] e pos.line X.env = pure false := by rfl) (hw : swappedStores [tg] e X.env = pure none := by rfl)
    (h1 : (assignEach [tg] X.env).map (·.2) = [assign tg X.env] := by rfl) : ES X W (.Assign [tg] e pos) (rSet r g) := by
  obtain ⟨T, p, l⟩ := he.ex
  obtain ⟨Tg, pg, lg⟩ := hg.ex
  refine ⟨_, ps_asg p pg hs hw h1, fun σ σ' H S D D' rs rh h d => ?_⟩
  refine l σ σ' H S _ _ _ rs rh h (fun _ S1 v H1 f1 rh1 dv h1 => ?_) (d.xi rh rs)
  exact lg σ σ' H1 S1 _ _ _ _ _ (rs.mono (f1.tle rh)) rh1 dv h1 (d.go f1).nx ((d.xi rh rs).go f1)

def rPar (i j : Nat) (ra : RA) : RSt := fun D σ S => ra σ S (fun ds S1 => match ds with | [x, y] => D.nx ((σ.set i (some x)).set j (some y)) S1 | _ => False) (D.x σ)
theorem es_par {i j : Nat} {x y : Str} {a b : Expr} {ra : RA} {px py pt : Pos} {kt k2 pt2} (hc : X.calm = true) (hN : X.N.Nodup) (hij : i ≠ j) (ha : EA X W [a, b] ra) (hi : X.N[i]? = some x := by rfl) (hj : X.N[j]? = some y := by rfl)
    (hx : X.env.scope.names.lookup x = some .local := by rfl) (hy : X.env.scope.names.lookup y = some .local := by rfl)
    (hw : swappedStores [.Tuple [.Name x px, .Name y py] kt pt] (.Tuple [a, b] k2 pt2) X.env = pure (some [x, y]) := by rfl)
    (hs : swapsWithSole [.Tuple [.Name x px, .Name y py] kt pt] (.Tuple [a, b] k2 pt2) pos.line X.env = pure false := by rfl) :
    ES X W (.Assign [.Tuple [.Name x px, .Name y py] kt pt] (.Tuple [a, b] k2 pt2) pos) (rPar i j ra) := by
  obtain ⟨T, p, l⟩ := ha.ex
  refine ⟨_, ps_par hc hN hi hj hij hx hy p hw hs, fun σ σ' H S D D' rs rh h d => ?_⟩
  refine l σ σ' H S _ _ _ rs rh h (fun ds S1 v H1 f1 rh1 dv h1 => ?_) (d.xi rh rs)
  match ds, dv, h1 with
  | [x, y], .cons dx (.cons dy .nil), h1 => exact ⟨_, _, rfl, d.nx _ _ _ _ f1 rh1 (((rs.mono (f1.tle rh)).set dx i).set dy j) h1⟩
/-! ### what is walked -/
structure ItOk (K : PySem.W.Frag) (S1 : Hq) (H1 : Hp) (J : It) (xs : List D) (g : Hq → Prop) : Prop where
  stop : ∀ S H, Fr S1 H1 S H → RH K S H → g S → J.stop xs.length H
  go : ∀ (i : Nat) x S H, xs[i]? = some x → Fr S1 H1 S H → RH K S H → g S → J.go i H
  yld : ∀ (i : Nat) x S H v H', xs[i]? = some x → Fr S1 H1 S H → RH K S H → g S → J.yld i H v H' → Fr S H S H' ∧ RH K S H' ∧ DV K H' x v
abbrev RI := Sg → Hq → (List D → (Hq → Prop) → Hq → Prop) → Xw → Prop
structure EI (X : Cx) (W : WX) (tg it : Expr) (t : RI) : Prop where
  ex : ∃ wi, PI X tg it wi ∧ ∀ (σ : L2.St) (σ' : Sg) (H : Hp) (S : Hq) (R : It → Hp → Prop) (R' : List D → (Hq → Prop) → Hq → Prop) (E' : Xw), RS X.K H σ' σ → RH X.K S H → t σ' S R' E' →
    (∀ J xs g S' H', Fr S H S' H' → RH X.K S' H' → ItOk X.K S' H' J xs g → R' xs g S' → R J H') → XI X.K S H E' (wx W σ) → wi σ H R
/-- the turns over what is left -/
def loopP (gd : Hq → Prop) (g : RG) (tb : RSt) : List D → RSt
  | [] => fun D σ S => gd S ∧ D.nx σ S
  | x :: r => fun D σ S => gd S ∧ g x σ S (fun σ2 S2 => tb { D with nx := loopP gd g tb r D, ct := loopP gd g tb r D, bk := D.nx } σ2 S2) (D.x σ)
def rFor (ri : RI) (g : RG) (tb : RSt) : RSt := fun D σ S => ri σ S (fun xs gd S1 => loopP gd g tb xs D σ S1) (D.x σ)
theorem es_for {tg it : Expr} {body : List Stmt} {ri : RI} {g : RG} {tb : RSt} (hp : PassesOwn (model X.prog X.w) X.A X.env X.xe) (hc : X.calm = true) (hi : EI X W tg it ri) (hg : EG X W tg g) (hb : EB X W body tb)
    (hs : ∀ x, foldedSetIterable it X.env x = pure x := by intro _; rfl) : ES X W (.For tg it body [] pos) (rFor ri g tb) := by
  obtain ⟨wi, pi, li⟩ := hi.ex
  obtain ⟨Tg, pg, lg⟩ := hg.ex
  obtain ⟨Tb, pb, lb⟩ := hb.ex
  refine ⟨_, ps_for hp hc pi pg pb hs, fun σ σ' H S D D' rs rh h d => ?_⟩
  refine li σ σ' H S _ _ _ rs rh h (fun J xs gd S1 H1 f1 rh1 ok h1 => ?_) (d.xi rh rs)
  refine ⟨fun i m σ2 H2 => ∃ σ2' S2, i + m = xs.length ∧ Fr S1 H1 S2 H2 ∧ RS X.K H2 σ2' σ2 ∧ RH X.K S2 H2 ∧ loopP gd g tb (xs.drop i) D' σ2' S2, ⟨xs.length, σ', S1, by omega, Fr.refl, rs.mono (f1.tle rh), rh1, by simpa using h1⟩, ?_⟩
  rintro i m σ2 H2 ⟨σ2', S2, em, f2, rs2, rh2, h2⟩
  have d2 := d.go (f1.trans f2)
  by_cases hi : i < xs.length
  · obtain ⟨x, hx⟩ : ∃ x, xs[i]? = some x := ⟨_, List.getElem?_eq_getElem hi⟩
    have hd : xs.drop i = x :: xs.drop (i + 1) := by
      rw [List.drop_eq_getElem_cons hi]
      rw [List.getElem?_eq_getElem hi] at hx
      rw [Option.some.inj hx]
    rw [hd] at h2
    obtain ⟨gd2, h2⟩ := h2
    refine .inr ⟨ok.go i x S2 H2 hx f2 rh2 gd2, fun σ3 H3 => ∃ σ3' S3, Fr S1 H1 S3 H3 ∧ RS X.K H3 σ3' σ3 ∧ RH X.K S3 H3 ∧ loopP gd g tb (xs.drop (i + 1)) D' σ3' S3, fun σ3 H3 ⟨σ3', S3, f3, rs3, rh3, h3⟩ => ⟨m - 1, by omega, σ3', S3, by omega, f3, rs3, rh3, h3⟩, fun v H3 hy => ?_⟩
    obtain ⟨f3, rh3, dv⟩ := ok.yld i x S2 H2 v H3 hx f2 rh2 gd2 hy
    have rs3 := rs2.mono (f3.tle rh2)
    refine lg σ2 σ2' H3 S2 x v _ _ _ rs3 rh3 dv h2 (fun σ4' S4 σ4 H4 f4 rh4 rs4 h4 => ?_) ((d2.go f3).xi rh3 rs3)
    have d4 := d2.go (f3.trans f4)
    have f24 := f2.trans (f3.trans f4)
    refine lb σ4 σ4' H4 S4 _ _ rs4 rh4 h4 ⟨fun σ5' S5 σ5 H5 f5 rh5 rs5 h5 => ⟨σ5', S5, f24.trans f5, rs5, rh5, h5⟩, d4.rt, d4.nx, fun σ5' S5 σ5 H5 f5 rh5 rs5 h5 => ⟨σ5', S5, f24.trans f5, rs5, rh5, h5⟩, d4.ex⟩
  · have hn : xs.drop i = [] := List.drop_eq_nil_of_le (by omega)
    rw [hn] at h2
    have ei : i = xs.length := by omega
    subst ei
    exact .inl ⟨ok.stop S2 H2 f2 rh2 h2.1, d2.nx _ _ _ _ Fr.refl rh2 rs2 h2.2⟩
def rWhile (c : RT) (tb : RSt) : RSt := fun D σ S => ∃ P : Nat → Sg → Hq → Prop, (∃ m, P m σ S) ∧ ∀ m σ S, P m σ S →
  c σ S (fun b S1 => if b = true then tb { D with nx := fun σ' S' => ∃ m', m' < m ∧ P m' σ' S', ct := fun σ' S' => ∃ m', m' < m ∧ P m' σ' S', bk := D.nx } σ S1 else D.nx σ S1) (D.x σ)
theorem es_while {c : Expr} {body : List Stmt} {tc : RT} {tb : RSt} (hp : PassesOwn (model X.prog X.w) X.A X.env X.xe) (hc : ET X W c tc) (hb : EB X W body tb) : ES X W (.While c body [] pos) (rWhile tc tb) := by
  obtain ⟨Tc, pc, lc⟩ := hc.ex
  obtain ⟨Tb, pb, lb⟩ := hb.ex
  refine ⟨_, ps_while hp pc pb, fun σ σ' H S D D' rs rh h d => ?_⟩
  obtain ⟨P, ⟨m0, h0⟩, hP⟩ := h
  refine ⟨fun m σ2 H2 => ∃ σ2' S2, Fr S H S2 H2 ∧ RS X.K H2 σ2' σ2 ∧ RH X.K S2 H2 ∧ P m σ2' S2, ⟨m0, σ', S, Fr.refl, rs, rh, h0⟩, ?_⟩
  rintro m σ2 H2 ⟨σ2', S2, f2, rs2, rh2, h2⟩
  have d2 := d.go f2
  refine lc σ2 σ2' H2 S2 _ _ _ rs2 rh2 (hP m σ2' S2 h2) (fun b S3 H3 f3 rh3 h3 => ?_) (d2.xi rh2 rs2)
  have d3 := d2.go f3
  have rs3 := rs2.mono (f3.tle rh2)
  cases b with
  | false => exact d3.nx _ _ _ _ Fr.refl rh3 rs3 h3
  | true =>
    refine ⟨fun σ4 H4 => ∃ σ4' S4, Fr S H S4 H4 ∧ RS X.K H4 σ4' σ4 ∧ RH X.K S4 H4 ∧ ∃ m', m' < m ∧ P m' σ4' S4, fun σ4 H4 ⟨σ4', S4, f4, rs4, rh4, m', lm, h4⟩ => ⟨m', lm, σ4', S4, f4, rs4, rh4, h4⟩, ?_⟩
    have f23 := f2.trans f3
    exact lb σ2 σ2' H3 S3 _ _ rs3 rh3 h3 ⟨fun σ5' S5 σ5 H5 f5 rh5 rs5 h5 => ⟨σ5', S5, f23.trans f5, rs5, rh5, h5⟩, d3.rt, d3.nx, fun σ5' S5 σ5 H5 f5 rh5 rs5 h5 => ⟨σ5', S5, f23.trans f5, rs5, rh5, h5⟩, d3.ex⟩
/-! sources -/
def seqD (x : D) (S1 : Hq) (R : List D → (Hq → Prop) → Hq → Prop) : Prop := match x with
  | .tup xs => R xs (fun _ => True) S1
  | _ => False
def lstD (x : D) (S1 : Hq) (R : List D → (Hq → Prop) → Hq → Prop) : Prop := match x with
  | .ref a => ∃ xs, LsR S1 a xs ∧ R xs (fun S => LsR S a xs) S1
  | .kl xs => R xs (fun _ => True) S1
  | _ => False
def iSeq (r : RE) : RI := fun σ S R E => r σ S (fun x S1 => seqD x S1 R) E
def iLst (r : RE) : RI := fun σ S R E => r σ S (fun x S1 => lstD x S1 R) E
theorem it_tup {K : PySem.W.Frag} {S1 : Hq} {H1 : Hp} {a : Addr} {xs : List D} {vs : List V} (rh1 : RH K S1 H1) (s : SqT K H1 a vs) (r : DVs K H1 xs vs) : ItOk K S1 H1 (Itt K a) xs (fun _ => True) :=
  ⟨fun S H f rh _ => ⟨vs, (f.tle rh1).t _ _ s, by rw [r.length]; exact Nat.le_refl _⟩,
   fun i x S H hx f rh _ => let ⟨v, hv, _⟩ := r.get hx; ⟨vs, v, (f.tle rh1).t _ _ s, hv⟩,
   fun i x S H v H' hx f rh _ hy => by
    obtain ⟨rfl, hy⟩ := hy
    obtain ⟨w, hw, dw⟩ := r.get hx
    have e := hy vs ((f.tle rh1).t _ _ s)
    rw [hw] at e; cases e
    exact ⟨Fr.refl, rh, DV.mono (f.tle rh1) _ _ dw⟩⟩
theorem it_lst {K : PySem.W.Frag} {S1 : Hq} {H1 : Hp} {a : Addr} {xs : List D} : ItOk K S1 H1 (Itl K a) xs (fun S => LsR S a xs) :=
  ⟨fun S H f rh g => let ⟨vs, s, r⟩ := rh.sql g; ⟨vs, s, by rw [r.length]; exact Nat.le_refl _⟩,
   fun i x S H hx f rh g => let ⟨vs, s, r⟩ := rh.sql g; let ⟨v, hv, _⟩ := r.get hx; ⟨vs, v, s, hv⟩,
   fun i x S H v H' hx f rh g hy => by
    obtain ⟨rfl, hy⟩ := hy
    obtain ⟨vs, s, r⟩ := rh.sql g
    obtain ⟨w, hw, dw⟩ := r.get hx
    have e := hy vs s
    rw [hw] at e; cases e
    exact ⟨Fr.refl, rh, dw⟩⟩
theorem it_kl {K : PySem.W.Frag} {S1 : Hq} {H1 : Hp} {a : Addr} {xs : List D} {vs : List V} (rh1 : RH K S1 H1) (s : SqF K H1 a vs) (r : DVs K H1 xs vs) : ItOk K S1 H1 (Itl K a) xs (fun _ => True) :=
  ⟨fun S H f rh _ => ⟨vs, ((f.tle rh1).f _ _ s).sql, by rw [r.length]; exact Nat.le_refl _⟩,
   fun i x S H hx f rh _ => let ⟨v, hv, _⟩ := r.get hx; ⟨vs, v, ((f.tle rh1).f _ _ s).sql, hv⟩,
   fun i x S H v H' hx f rh _ hy => by
    obtain ⟨rfl, hy⟩ := hy
    obtain ⟨w, hw, dw⟩ := r.get hx
    have e := hy vs ((f.tle rh1).f _ _ s).sql
    rw [hw] at e; cases e
    exact ⟨Fr.refl, rh, DV.mono (f.tle rh1) _ _ dw⟩⟩
theorem ei_seq {tg : Expr} (h : EV X W e r) : EI X W tg e (iSeq r) := by
  obtain ⟨T, p, l⟩ := h.ex
  refine ⟨_, pi_tup p, fun σ σ' H S R R' E' rs rh h q xi => ?_⟩
  refine l σ σ' H S _ _ _ rs rh h (fun x S1 v H1 f1 rh1 dv h1 => ?_) xi
  cases dv with
  | tup s r => exact ⟨_, rfl, ⟨_, s⟩, q _ _ _ _ _ f1 rh1 (it_tup rh1 s r) h1⟩
  | _ => exact h1.elim
theorem ei_lst {tg : Expr} (h : EV X W e r) : EI X W tg e (iLst r) := by
  obtain ⟨T, p, l⟩ := h.ex
  refine ⟨_, pi_list p, fun σ σ' H S R R' E' rs rh h q xi => ?_⟩
  refine l σ σ' H S _ _ _ rs rh h (fun x S1 v H1 f1 rh1 dv h1 => ?_) xi
  cases dv with
  | ref a =>
    obtain ⟨xs, g, h1⟩ := h1
    obtain ⟨vs, s, r⟩ := rh1.sql g
    exact ⟨_, rfl, ⟨_, s⟩, q _ _ _ _ _ f1 rh1 it_lst h1⟩
  | kl s r => exact ⟨_, rfl, ⟨_, s.sql⟩, q _ _ _ _ _ f1 rh1 (it_kl rh1 s r) h1⟩
  | _ => exact h1.elim
def rangeD (lo : Int) (n : Nat) : List D := (List.range n).map fun (i : Nat) => D.int (lo + i)
theorem rangeD_get {lo : Int} {n i : Nat} {x : D} (h : (rangeD lo n)[i]? = some x) : i < n ∧ x = .int (lo + i) := by
  unfold rangeD at h
  rw [List.getElem?_map] at h
  by_cases hi : i < n
  · rw [List.getElem?_range hi] at h; exact ⟨hi, (Option.some.inj h).symm⟩
  · rw [List.getElem?_eq_none (by simpa using hi)] at h; cases h
theorem rangeD_len {lo : Int} {n : Nat} : (rangeD lo n).length = n := by simp [rangeD]
theorem it_rng {K : PySem.W.Frag} {S1 : Hq} {H1 : Hp} {lo : Int} {n : Nat} : ItOk K S1 H1 (Itr lo n) (rangeD lo n) (fun _ => True) :=
  ⟨fun S H f rh _ => by rw [rangeD_len]; exact Nat.le_refl _, fun i x S H hx f rh _ => (rangeD_get hx).1, fun i x S H v H' hx f rh _ hy => by
    obtain ⟨rfl, rfl⟩ := hy
    rw [(rangeD_get hx).2]
    exact ⟨Fr.refl, rh, .int _⟩⟩
def rngD (ds : List D) (S1 : Hq) (R : List D → (Hq → Prop) → Hq → Prop) : Prop := match ds with
  | [.int j] => (-(2 ^ 62) ≤ j ∧ j < 2 ^ 62) ∧ R (rangeD 0 j.toNat) (fun _ => True) S1
  | _ => False
def rng2D (ds : List D) (S1 : Hq) (R : List D → (Hq → Prop) → Hq → Prop) : Prop := match ds with
  | [.int i, .int j] => (-(2 ^ 62) ≤ i ∧ i < 2 ^ 62 ∧ -(2 ^ 62) ≤ j ∧ j < 2 ^ 62) ∧ R (rangeD i (j - i).toNat) (fun _ => True) S1
  | _ => False
def iRg1 (ra : RA) : RI := fun σ S R E => ra σ S (fun ds S1 => rngD ds S1 R) E
def iRg2 (ra : RA) : RI := fun σ S R E => ra σ S (fun ds S1 => rng2D ds S1 R) E
theorem ei_rg1 {tg a : Expr} {ra : RA} {p : Pos} (hm : X.mg "range" = none) (ha : EA X W [a] ra) (hg : Gl X "range" := by rfl) (hs : starEach [a] X.env = [(false, eval a X.env)] := by rfl) : EI X W tg (.Call (.Name "range" p) [a] [] pos) (iRg1 ra) := by
  obtain ⟨T, pp, l⟩ := ha.ex
  refine ⟨_, pi_range1 hg hm pp hs, fun σ σ' H S R R' E' rs rh h q xi => ?_⟩
  refine l σ σ' H S _ _ _ rs rh h (fun ds S1 v H1 f1 rh1 dv h1 => ?_) xi
  match ds, dv, h1 with
  | [.int j], .cons (.int _) .nil, h1 => exact ⟨j, rfl, h1.1.1, h1.1.2, q _ _ _ _ _ f1 rh1 it_rng h1.2⟩
theorem ei_rg2 {tg a b : Expr} {ra : RA} {p : Pos} (hm : X.mg "range" = none) (ha : EA X W [a, b] ra) (hg : Gl X "range" := by rfl) (hs : starEach [a, b] X.env = [(false, eval a X.env), (false, eval b X.env)] := by rfl) (hs2 : starEach [b] X.env = [(false, eval b X.env)] := by rfl) :
    EI X W tg (.Call (.Name "range" p) [a, b] [] pos) (iRg2 ra) := by
  obtain ⟨T, pp, l⟩ := ha.ex
  refine ⟨_, pi_range2 hg hm pp hs hs2, fun σ σ' H S R R' E' rs rh h q xi => ?_⟩
  refine l σ σ' H S _ _ _ rs rh h (fun ds S1 v H1 f1 rh1 dv h1 => ?_) xi
  match ds, dv, h1 with
  | [.int i, .int j], .cons (.int _) (.cons (.int _) .nil), h1 => exact ⟨i, j, rfl, h1.1, q _ _ _ _ _ f1 rh1 it_rng h1.2⟩
/-- zip of two -/
def zipD : List D → List D → List D
  | x :: xs, y :: ys => .tup [x, y] :: zipD xs ys
  | _, _ => []
theorem zipD_get : ∀ {xs ys : List D} {i : Nat} {z : D}, (zipD xs ys)[i]? = some z → ∃ x y, xs[i]? = some x ∧ ys[i]? = some y ∧ z = .tup [x, y]
  | x :: xs, y :: ys, 0, z, h => ⟨x, y, rfl, rfl, (Option.some.inj h).symm⟩
  | x :: xs, y :: ys, i + 1, z, h => by
    obtain ⟨a, b, p, q, r⟩ := zipD_get (xs := xs) (ys := ys) (i := i) (by simpa [zipD] using h)
    exact ⟨a, b, by simpa using p, by simpa using q, r⟩
  | [], _, _, _, h => by simp [zipD] at h
  | _ :: _, [], _, _, h => by simp [zipD] at h
theorem zipD_len : ∀ {xs ys : List D}, (zipD xs ys).length = min xs.length ys.length
  | x :: xs, y :: ys => by simp only [zipD, List.length_cons, zipD_len]; omega
  | [], _ => by simp [zipD]
  | _ :: _, [] => by simp [zipD]
theorem it_zipT {K : PySem.W.Frag} {S1 : Hq} {H1 : Hp} {a b : Addr} {xs ys : List D} {vs us : List V} (rh1 : RH K S1 H1) (s : SqT K H1 a vs) (r : DVs K H1 xs vs) (s2 : SqT K H1 b us) (r2 : DVs K H1 ys us) : ItOk K S1 H1 (RZ.ItzT K a b) (zipD xs ys) (fun _ => True) := by
  refine ⟨fun S H f rh _ => ⟨vs, us, (f.tle rh1).t _ _ s, (f.tle rh1).t _ _ s2, by rw [zipD_len, ← r.length, ← r2.length]; omega⟩, fun i x S H hx f rh _ => ?_, fun i x S H v H' hx f rh _ hy => ?_⟩
  · obtain ⟨x1, y1, h1, h2, _⟩ := zipD_get hx
    obtain ⟨v, hv, _⟩ := r.get h1
    obtain ⟨u, hu, _⟩ := r2.get h2
    exact ⟨vs, us, v, u, (f.tle rh1).t _ _ s, (f.tle rh1).t _ _ s2, hv, hu⟩
  · obtain ⟨x1, y1, h1, h2, rfl⟩ := zipD_get hx
    obtain ⟨v', hv, dv⟩ := r.get h1
    obtain ⟨u', hu, du⟩ := r2.get h2
    obtain ⟨T, x2, y2, rfl, hT, rfl, e1, e2⟩ := hy
    have e1 := e1 vs ((f.tle rh1).t _ _ s)
    have e2 := e2 us ((f.tle rh1).t _ _ s2)
    rw [hv] at e1; cases e1
    rw [hu] at e2; cases e2
    have t := (f.tle rh1)
    have f' := Fr.new (o := .tup [v', u']) rh hT
    exact ⟨f', rh.new hT, .tup (.inl (.inl upd_same)) (.cons (DV.mono (f'.tle rh) _ _ (DV.mono t _ _ dv)) (.cons (DV.mono (f'.tle rh) _ _ (DV.mono t _ _ du)) .nil))⟩
theorem it_zipL {K : PySem.W.Frag} {S1 : Hq} {H1 : Hp} {a b : Addr} {xs ys : List D} : ItOk K S1 H1 (Itz K a b) (zipD xs ys) (fun S => LsR S a xs ∧ LsR S b ys) := by
  refine ⟨fun S H f rh g => ?_, fun i x S H hx f rh g => ?_, fun i x S H v H' hx f rh g hy => ?_⟩
  · obtain ⟨vs, s, r⟩ := rh.sql g.1
    obtain ⟨us, s2, r2⟩ := rh.sql g.2
    exact ⟨vs, us, s, s2, by rw [zipD_len, ← r.length, ← r2.length]; omega⟩
  · obtain ⟨vs, s, r⟩ := rh.sql g.1
    obtain ⟨us, s2, r2⟩ := rh.sql g.2
    obtain ⟨x1, y1, h1, h2, _⟩ := zipD_get hx
    obtain ⟨v, hv, _⟩ := r.get h1
    obtain ⟨u, hu, _⟩ := r2.get h2
    exact ⟨vs, us, v, u, s, s2, hv, hu⟩
  · obtain ⟨vs, s, r⟩ := rh.sql g.1
    obtain ⟨us, s2, r2⟩ := rh.sql g.2
    obtain ⟨x1, y1, h1, h2, rfl⟩ := zipD_get hx
    obtain ⟨v', hv, dv⟩ := r.get h1
    obtain ⟨u', hu, du⟩ := r2.get h2
    obtain ⟨T, x2, y2, rfl, hT, rfl, e1, e2⟩ := hy
    have e1 := e1 vs s
    have e2 := e2 us s2
    rw [hv] at e1; cases e1
    rw [hu] at e2; cases e2
    have f' := Fr.new (o := .tup [v', u']) rh hT
    exact ⟨f', rh.new hT, .tup (.inl (.inl upd_same)) (.cons (DV.mono (f'.tle rh) _ _ dv) (.cons (DV.mono (f'.tle rh) _ _ du) .nil))⟩
end
end Y
namespace Y
open PySem PySem.Spec PyProof.Rows L2
def zpD (ds : List D) (S1 : Hq) (R : List D → (Hq → Prop) → Hq → Prop) : Prop := match ds with
  | [.tup xs, .tup ys] => R (zipD xs ys) (fun _ => True) S1
  | [.ref a, .ref b] => ∃ xs ys, LsR S1 a xs ∧ LsR S1 b ys ∧ R (zipD xs ys) (fun S => LsR S a xs ∧ LsR S b ys) S1
  | _ => False
def iZp (ra : RA) : RI := fun σ S R E => ra σ S (fun ds S1 => zpD ds S1 R) E
section
variable {X : Cx} {W : WX} {e e2 : Expr} {r : RE} {pos : Pos}
theorem ei_zip {ra : RA} {p tpos : Pos} {elts : List Expr} {kk : Nat} (hm : X.mg "zip" = none) (ha : EA X W [e, e2] ra) (hg : Gl X "zip" := by rfl)
    (hs : starEach [e, e2] X.env = (false, eval e X.env) :: starEach [e2] X.env := by rfl) (hs2 : (backTo pos (starEach [e2] X.env)).any (·.1) = false := by rfl) :
    EI X W (.Tuple elts kk tpos) (.Call (.Name "zip" p) [e, e2] [] pos) (iZp ra) := by
  obtain ⟨T, pp, l⟩ := ha.ex
  refine ⟨_, RZ.pi_zipA hg hm pp hs hs2, fun σ σ' H S R R' E' rs rh h q xi => ?_⟩
  refine l σ σ' H S _ _ _ rs rh h (fun ds S1 v H1 f1 rh1 dv h1 => ?_) xi
  match ds, dv, h1 with
  | [.tup xs, .tup ys], .cons (.tup s r) (.cons (.tup s2 r2) .nil), h1 => exact ⟨_, _, _, _, rfl, .inr ⟨s, s2, q _ _ _ _ _ f1 rh1 (it_zipT rh1 s r s2 r2) h1⟩⟩
  | [.ref a, .ref b], .cons (.ref _) (.cons (.ref _) .nil), h1 =>
    obtain ⟨xs, ys, g, g2, h1⟩ := h1
    obtain ⟨vs, s, r⟩ := rh1.sql g
    obtain ⟨us, s2, r2⟩ := rh1.sql g2
    exact ⟨_, _, _, _, rfl, .inl ⟨s, s2, q _ _ _ _ _ f1 rh1 it_zipL h1⟩⟩

/-! ### comprehensions -/
def wipeD (σ : Sg) : List Nat → Sg
  | [] => σ
  | v :: vs => (wipeD σ vs).set v none
theorem RS.wipe {K : PySem.W.Frag} {H : Hp} {σ' : Sg} {σ : L2.St} (x : RS K H σ' σ) : ∀ vs : List Nat, RS K H (wipeD σ' vs) (L2.wipe σ vs)
  | [] => x
  | v :: vs => by
    have ih := RS.wipe x vs
    refine ⟨by simp [wipeD, L2.wipe, ih.len], fun i d e => ?_⟩
    unfold wipeD at e
    unfold L2.wipe
    by_cases c : v = i
    · subst c
      by_cases hi : v < (wipeD σ' vs).length
      · rw [List.getElem?_set_self hi] at e; cases e
      · rw [List.getElem?_eq_none (by simpa using hi)] at e; cases e
    · rw [List.getElem?_set_ne c] at e ⊢
      exact ih.get i d e
/-- a test ahead of an element -/
structure EP1 (X : Cx) (W : WX) (ifs : List Expr) (t : RT) : Prop where
  ex : ∃ T, PTs X ifs T ∧ ∀ (σ : L2.St) (σ' : Sg) (H : Hp) (S : Hq) (Q : Bool → Hp → Prop) (Q' : Bool → Hq → Prop) (E' : Xw), RS X.K H σ' σ → RH X.K S H → t σ' S Q' E' → QT X.K S H Q' Q → XI X.K S H E' (wx W σ) → T σ H Q
def rYes : RT := fun _ S Q _ => Q true S
theorem ep_nil : EP1 X W [] rYes := ⟨_, pts_nil, fun σ σ' H S Q Q' E' rs rh h q xi => q _ _ _ Fr.refl rh h⟩
theorem ep_one {c : Expr} {t : RT} (h : ET X W c t) : EP1 X W [c] t := let ⟨T, p, l⟩ := h.ex; ⟨T, pts_one p, l⟩
theorem EP1.pe {ifs : List Expr} {t : RT} (h : EP1 X W ifs t) : PTs X ifs (dnT X.K W t) := by
  obtain ⟨T, p, l⟩ := h.ex
  exact ⟨fun pins s σ H Q I ⟨σ', S, Q', E', a, b, c, d, x⟩ => p.run pins s σ H Q I (l σ σ' H S Q Q' E' a b c d x)⟩
abbrev W0 : WX := fun _ _ _ _ => False
/-- the elements, one by one; vs: the slots of the comprehension's own names -/
def lcP (gd : Hq → Prop) (g : RG) (tt : RT) (te : RE) (vs : List Nat) (σ : Sg) (Q : List D → Hq → Prop) : List D → List D → Hq → Prop
  | [], acc, S => gd S ∧ Q acc S
  | x :: r, acc, S => gd S ∧ g x (wipeD σ vs) S (fun σ2 S2 => tt σ2 S2 (fun b S3 => if b = true then te σ2 S3 (fun y S4 => acc.length < 1000000 ∧ lcP gd g tt te vs σ Q r (acc ++ [y]) S4) NoX else lcP gd g tt te vs σ Q r acc S3) NoX) NoX
def rLc (ri : RI) (g : RG) (tt : RT) (te : RE) (vs : List Nat) : RE := fun σ S Q E => ri σ S (fun xs gd S1 => lcP gd g tt te vs σ (fun acc S2 => ∀ p, S2 p = none → Q (.ref p) (up S2 p (.lst acc))) xs [] S1) E
/-- targets that keep to their slots -/
structure Keeps (T : TG) (g : RG) (vs : List Nat) (K : PySem.W.Frag) : Prop where
  to : ∀ (σ : L2.St) (σ' : Sg) (H : Hp) (S : Hq) (d : D) (v : V) (N : L2.St → Hp → Prop) (N' : Sg → Hq → Prop), RS K H σ' (L2.wipe σ vs) → RH K S H → DV K H d v → g d σ' S N' NoX → (∀ σ2' σ2, L2.wipe σ2 vs = L2.wipe σ vs → RS K H σ2' σ2 → N' σ2' S → N σ2 H) → T v (L2.wipe σ vs) H N
theorem wipe1 (σ : L2.St) (i : Nat) (x : Option V) : (((σ.set i none).set i x).set i none : L2.St) = σ.set i none := by
  rw [List.set_set, List.set_set]
theorem keeps_nm {i : Nat} {K : PySem.W.Frag} : Keeps (gName i) (gNm i) [i] K :=
  ⟨fun σ σ' H S d v N N' rs rh dv h n => n _ _ (wipe1 σ i _) (rs.set dv i) h⟩
theorem lc_run {K : PySem.W.Frag} {W : WX} {J : It} {gd : Hq → Prop} {T : TG} {g : RG} {tt : RT} {te : RE} {vs : List Nat} {σ : L2.St} {σ' : Sg} {S1 : Hq} {H1 : Hp} {xs : List D} {Q : VK} {Q' : Qv} (kp : Keeps T g vs K)
    (rs : RS K H1 σ' σ) (rh : RH K S1 H1) (ok : ItOk K S1 H1 J xs gd) (q : QI K S1 H1 Q' Q) (h : lcP gd g tt te vs σ' (fun acc S2 => ∀ p, S2 p = none → Q' (.ref p) (up S2 p (.lst acc))) xs [] S1) :
    ∀ Dd, H1 Dd = none → ∃ W : Nat → Nat → Hp → Prop, (∃ m, W 0 m (upd H1 Dd (.lst []))) ∧ ∀ i m H, W i m H →
      (J.stop i H ∧ Q (.ref Dd) H) ∨ (J.go i H ∧ ∃ Nx : Hp → Prop, (∀ H', Nx H' → ∃ m', m' < m ∧ W (i + 1) m' H') ∧ ∀ x H', J.yld i H x H' → T x (L2.wipe σ vs) H' fun σ2 H2 => L2.wipe σ2 vs = L2.wipe σ vs ∧ dnT K W0 tt σ2 H2 fun b H3 =>
        if b = true then dnE K W0 te σ2 H3 fun y H4 => ∃ acc, H4 Dd = some (.lst acc) ∧ acc.length < sizeLine ∧ Nx (upd H4 Dd (.lst (acc ++ [y]))) else Nx H3) := by
  intro Dd hD
  have fD : Fr S1 H1 S1 (upd H1 Dd (.lst [])) := Fr.new rh hD
  refine ⟨fun i m H => ∃ S acc acc', i + m = xs.length ∧ Fr S1 H1 S H ∧ RH K S H ∧ H Dd = some (.lst acc) ∧ S Dd = none ∧ DVs K H acc' acc ∧ lcP gd g tt te vs σ' (fun acc S2 => ∀ p, S2 p = none → Q' (.ref p) (up S2 p (.lst acc))) (xs.drop i) acc' S,
    ⟨xs.length, S1, [], [], by omega, fD, rh.new hD, upd_same, rh.fresh hD, .nil, by simpa using h⟩, ?_⟩
  rintro i m H ⟨S, acc, acc', em, f, rh2, eD, nD, da, h⟩
  by_cases hi : i < xs.length
  · obtain ⟨x, hx⟩ : ∃ x, xs[i]? = some x := ⟨_, List.getElem?_eq_getElem hi⟩
    have hd : xs.drop i = x :: xs.drop (i + 1) := by
      rw [List.drop_eq_getElem_cons hi]
      rw [List.getElem?_eq_getElem hi] at hx
      rw [Option.some.inj hx]
    rw [hd] at h
    obtain ⟨g2, h⟩ := h
    refine .inr ⟨ok.go i x S H hx f rh2 g2, fun H => ∃ S acc acc', Fr S1 H1 S H ∧ RH K S H ∧ H Dd = some (.lst acc) ∧ S Dd = none ∧ DVs K H acc' acc ∧ lcP gd g tt te vs σ' (fun acc S2 => ∀ p, S2 p = none → Q' (.ref p) (up S2 p (.lst acc))) (xs.drop (i + 1)) acc' S,
      fun H ⟨S, acc, acc', a, b, c, d, e, f⟩ => ⟨m - 1, by omega, S, acc, acc', by omega, a, b, c, d, e, f⟩, fun v H3 hy => ?_⟩
    obtain ⟨f3, rh3, dv⟩ := ok.yld i x S H v H3 hx f rh2 g2 hy
    have f03 := f.trans f3
    obtain ⟨eD3, nD3⟩ := f3 Dd _ eD nD
    refine kp.to σ (wipeD σ' vs) H3 S x v _ _ ((rs.mono (f03.tle rh)).wipe vs) rh3 dv h fun σ2' σ2 ew rs2 h2 => ⟨ew, σ2', S, _, NoX, rs2, rh3, h2, fun b S4 H4 f4 rh4 h4 => ?_, XI.no⟩
    have f04 := f03.trans f4
    obtain ⟨eD4, nD4⟩ := f4 Dd _ eD3 nD3
    have da4 := DVs.mono ((f3.trans f4).tle rh2) _ _ da
    cases b with
    | false => exact ⟨S4, acc, acc', f04, rh4, eD4, nD4, da4, h4⟩
    | true =>
      refine ⟨σ2', S4, _, NoX, rs2.mono (f4.tle rh3), rh4, h4, fun y S5 u H5 f5 rh5 dy h5 => ?_, XI.no⟩
      obtain ⟨eD5, nD5⟩ := f5 Dd _ eD4 nD4
      have da5 := DVs.mono (f5.tle rh4) _ _ da4
      refine ⟨acc, eD5, by rw [← da5.length]; exact big_lt h5.1, S5, acc ++ [u], acc' ++ [y], ?_, ?_, upd_same, nD5, ?_, h5.2⟩
      · intro b o e n
        obtain ⟨e', n'⟩ := (f04.trans f5) b o e n
        have hb : b ≠ Dd := fun z => by rw [z, hD] at e; cases e
        exact ⟨by rw [upd_ne hb]; exact e', n'⟩
      all_goals
        have t : Tle K H5 (upd H5 Dd (.lst (acc ++ [u]))) := by
          refine ⟨fun a xs hq => ?_, fun a xs hq => ?_⟩
          · rcases hq with (hq | ⟨o, hq⟩) | hq
            · exact .inl (.inl (by rw [upd_ne (fun z => by rw [z, eD5] at hq; cases hq)]; exact hq))
            · exact .inl (.inr ⟨o, by rw [upd_ne (fun z => by rw [z, eD5] at hq; cases hq)]; exact hq⟩)
            · exact .inr hq
          · rcases hq with ⟨o, hq⟩ | hq
            · exact .inl ⟨o, by rw [upd_ne (fun z => by rw [z, eD5] at hq; cases hq)]; exact hq⟩
            · exact .inr hq
      · intro b o e
        have hb : b ≠ Dd := fun z => by rw [z, nD5] at e; cases e
        exact (rh5 b o e).stay t (upd_ne hb)
      · exact DVs.mono t _ _ (da5.app (.cons dy .nil))
  · have hn : xs.drop i = [] := List.drop_eq_nil_of_le (by omega)
    rw [hn] at h
    have ei : i = xs.length := by omega
    subst ei
    refine .inl ⟨ok.stop S H f rh2 h.1, ?_⟩
    -- the list is tracked from now on
    have r2 : RH K (up S Dd (.lst acc')) H := fun b o e => by
      by_cases hb : b = Dd
      · subst hb; rw [up_same] at e; cases e; exact ⟨acc, eD, da⟩
      · rw [up_ne hb] at e; exact rh2 b o e
    refine q (.ref Dd) _ _ _ (fun b o e n => ?_) r2 (.ref Dd) (h.2 Dd nD)
    obtain ⟨e', n'⟩ := f b o e n
    have hb : b ≠ Dd := fun z => by rw [z, hD] at e; cases e
    exact ⟨e', by rw [up_ne hb]; exact n'⟩
theorem ev_lc (i : Nat) {x : Str} {xp : Pos} {elt it : Expr} {ifs : List Expr} {scope : Scope} {ri : RI} {tt : RT} {te : RE} (hc : X.calm = true) (hN : X.N.Nodup) (hi : EI X W (.Name x xp) it ri) (ok : BlkOk X.N X.env.scope scope [(x, i)])
    (hg : ∀ (s : Shared) (H : Hp) (C : Addr) (cl : List (Str × Addr)) (fp : List Addr), PG (X.blk s H scope (compEnvC scope cl C X.env) fp) (.Name x xp) (gName i))
    (ht : ∀ (s : Shared) (H : Hp) (C : Addr) (cl : List (Str × Addr)) (fp : List Addr), EP1 (X.blk s H scope (compEnvC scope cl C X.env) fp) W0 ifs tt)
    (he : ∀ (s : Shared) (H : Hp) (C : Addr) (cl : List (Str × Addr)) (fp : List Addr), EV (X.blk s H scope (compEnvC scope cl C X.env) fp) W0 elt te) (hs : ∀ x, foldedSetIterable it X.env x = pure x := by intro _; rfl) :
    EV X W (.ListComp elt [⟨.Name x xp, it, ifs, 0⟩] scope pos) (rLc ri (gNm i) tt te [i]) := by
  obtain ⟨wi, pi, li⟩ := hi.ex
  refine ⟨_, pe_lc (tt := dnT X.K W0 tt) (te := dnE X.K W0 te) hc hN pi ok hg (fun s H C cl fp => (ht s H C cl fp).pe) (fun s H C cl fp => (he s H C cl fp).pe) hs, fun σ σ' H S Q Q' E' rs rh h q xi => ?_⟩
  exact li σ σ' H S _ _ _ rs rh h (fun J xs gd S1 H1 f1 rh1 ok h1 => lc_run (W := W) keeps_nm (rs.mono (f1.tle rh)) rh1 ok (q.go f1) h1) xi
theorem es_setLc (j i : Nat) {y : Str} {py spos : Pos} {x : Str} {xp : Pos} {elt it : Expr} {ifs : List Expr} {scope : Scope} {ri : RI} {tt : RT} {te : RE} (hc : X.calm = true) (hN : X.N.Nodup) (hi : EI X W (.Name x xp) it ri) (ok : BlkOk X.N X.env.scope scope [(x, i)])
    (hg : ∀ (s : Shared) (H : Hp) (C : Addr) (cl : List (Str × Addr)) (fp : List Addr), PG (X.blk s H scope (compEnvC scope cl C X.env) fp) (.Name x xp) (gName i))
    (ht : ∀ (s : Shared) (H : Hp) (C : Addr) (cl : List (Str × Addr)) (fp : List Addr), EP1 (X.blk s H scope (compEnvC scope cl C X.env) fp) W0 ifs tt)
    (he : ∀ (s : Shared) (H : Hp) (C : Addr) (cl : List (Str × Addr)) (fp : List Addr), EV (X.blk s H scope (compEnvC scope cl C X.env) fp) W0 elt te)
    (hsw : swapsWith (.ListComp elt [⟨.Name x xp, it, ifs, 0⟩] scope pos) (some (.Name y py)) spos.line X.env = pure true) (hy : X.N[j]? = some y := by rfl) (hyl : X.env.scope.names.lookup y = some .local := by rfl) (hs : ∀ x, foldedSetIterable it X.env x = pure x := by intro _; rfl) :
    ES X W (.Assign [.Name y py] (.ListComp elt [⟨.Name x xp, it, ifs, 0⟩] scope pos) spos) (rSet (rLc ri (gNm i) tt te [i]) (gNm j)) := by
  obtain ⟨wi, pi, li⟩ := hi.ex
  refine ⟨_, ps_setLc (tt := dnT X.K W0 tt) (te := dnE X.K W0 te) hc hN hy hyl hsw pi ok hg (fun s H C cl fp => (ht s H C cl fp).pe) (fun s H C cl fp => (he s H C cl fp).pe) hs, fun σ σ' H S D D' rs rh h d => ?_⟩
  refine li σ σ' H S _ _ _ rs rh h (fun J xs gd S1 H1 f1 rh1 ok h1 => ?_) (d.xi rh rs)
  refine lc_run (W := W) (Q := fun v H1 => gName j v σ H1 D.nx) (Q' := fun d S1 => gNm j d σ' S1 D'.nx (D'.x σ')) keeps_nm (rs.mono (f1.tle rh)) rh1 ok ?_ h1
  intro dd S2 v H2 f2 rh2 dv h2
  exact d.nx _ _ _ _ (f1.trans f2) rh2 ((rs.mono ((f1.trans f2).tle rh)).set dv j) h2
end

/-! ### a def -/
def start' (n : Nat) (ds : List D) : Sg := ds.map some ++ List.replicate (n - ds.length) none
section
variable {P : Program} {w : World} {K : PySem.W.Frag} {mg : Str → Option Value} {base : Heap}
theorem rs_start {H : Hp} {ds : List D} {vs : List V} (N : List Str) (r : DVs K H ds vs) : RS K H (start' N.length ds) (L2.start N vs) := by
  refine ⟨by simp [start', L2.start, r.length], fun i d e => ?_⟩
  unfold start' at e
  unfold L2.start
  by_cases hi : i < ds.length
  · rw [List.getElem?_append_left (by simpa using hi), List.getElem?_map] at e
    cases g : ds[i]? with
    | none => rw [g] at e; cases e
    | some d' =>
      rw [g] at e
      cases e
      obtain ⟨v, hv, dv⟩ := r.get g
      exact ⟨v, by rw [List.getElem?_append_left (by rw [List.length_map, ← r.length]; exact hi), List.getElem?_map, hv]; rfl, dv⟩
  · rw [List.getElem?_append_right (by simpa using hi)] at e
    have := List.mem_of_getElem? e
    rw [List.mem_replicate] at this
    cases this.2
theorem fn_ok {x qual : Str} {st : Stmt} {f : Addr} {fd : FuncData} {N ps : List Str} {k : Nat} {sp : Sq} {t : RSt} (F : Fun K x qual st f fd) (Sc : FnScope N ps (defScope st)) (len : ∀ ds S Q E, sp ds S Q E → ds.length = ps.length)
    (hb : ∀ (cdv : Value) (A : Around) (outer : List Env) (s : Shared) (H : Hp) (E : XK), Room k (A.deeper (envOfC qual (defScope st) s.heap.objs.size f cdv)) → EB (cxOf CX0 P w K mg base N qual (defScope st) f cdv A outer s H E).nox W0 (defBody st) t)
    (pure' : ∀ ds S Q, sp ds S Q NoX → t { nx := fun _ S => Q .non S, rt := Q } (start' N.length ds) S)
    (nox : ∀ ds S Q E, sp ds S Q E → sp ds S Q NoX) : FnOk P w K mg base CX0 (k + 1) f fd ps (dn K sp) := by
  refine F.ok Sc (fun vs H Q E h => ?_) (fun cdv A outer s H vs Q E hr h => ?_)
  · obtain ⟨ds, S, Q', E', dv, _, h, _⟩ := h
    rw [← dv.length]
    exact len _ _ _ _ h
  · obtain ⟨ds, S, Q', E', dv, rh, h, q, xi⟩ := h
    obtain ⟨T, p, l⟩ := (hb cdv A outer s H E hr).ex
    refine ⟨T, p, ?_⟩
    refine l _ (start' N.length ds) H S _ { nx := fun _ S => Q' .non S, rt := Q' } (rs_start N dv) rh (pure' _ _ _ (nox _ _ _ _ h)) ⟨fun σ' S' σ H' f rh' rs h' => ?_, q, fun _ _ _ _ _ _ _ z => z.elim, fun _ _ _ _ _ _ _ z => z.elim, fun _ _ _ _ _ _ _ _ _ _ _ z => z.elim⟩
    exact q _ _ _ _ f rh' .non h'
end
end Y
namespace Y
open PySem PySem.Spec PyProof.Rows L2
/-! ### what an operator gives where its sides are known -/
section
variable {i j : Int} {a b : Str} {xs ys : List D} {p q : Addr} {S : Hq} {Q : Qv} {c d : Bool} {x y : D} {C : Int → Int → Prop} {g : Int → Int → D} {R : List D → (Hq → Prop) → Hq → Prop}
theorem q_asB {f : Bool → Prop} : asB (.bl c) f = f c := rfl
theorem q_asI {f : Int → Prop} : asI (.int i) f = f i := rfl
theorem q_add : addD (.int i) (.int j) S Q = Q (.int (i + j)) S := rfl
theorem q_addS : addD (.str a) (.str b) S Q = (a.length + b.length ≤ 1000000 ∧ Q (.str (a ++ b)) S) := rfl
theorem q_addT : addD (.tup xs) (.tup ys) S Q = (xs.length + ys.length ≤ 1000000 ∧ Q (.tup (xs ++ ys)) S) := rfl
theorem q_addL : addD (.ref p) (.ref q) S Q = (∃ xs ys, S p = some (.lst xs) ∧ S q = some (.lst ys) ∧ xs.length + ys.length ≤ 1000000 ∧ ∀ p, S p = none → Q (.ref p) (up S p (.lst (xs ++ ys)))) := rfl
theorem q_int : intD C g (.int i) (.int j) S Q = (C i j ∧ Q (g i j) S) := rfl
theorem q_sub : subD (.int i) (.int j) S Q = Q (.int (i - j)) S := rfl
theorem q_mul : mulD (.int i) (.int j) S Q = (CMul' i j ∧ Q (.int (i * j)) S) := rfl
theorem q_fdiv : fdivD (.int i) (.int j) S Q = (CDiv' i j ∧ Q (.int (i / j)) S) := rfl
theorem q_mod : modD (.int i) (.int j) S Q = (0 < j ∧ Q (.int (i % j)) S) := rfl
theorem q_pow : powD (.int i) (.int j) S Q = (CPow' i j ∧ Q (.int (i ^ j.toNat)) S) := rfl
theorem q_neg : negD (.int i) S Q = Q (.int (-i)) S := rfl
theorem q_le : leD (.int i) (.int j) S Q = Q (.bl (decide (i ≤ j))) S := rfl
theorem q_ge : geD (.int i) (.int j) S Q = Q (.bl (decide (j ≤ i))) S := rfl
theorem q_gt : gtD (.int i) (.int j) S Q = Q (.bl (decide (j < i))) S := rfl
theorem q_lt : ltD (.int i) (.int j) S Q = Q (.bl (decide (i < j))) S := rfl
theorem q_ltT : ltD (.tup xs) (.tup ys) S Q = (∃ ns ms, xs = ns.map D.int ∧ ys = ms.map D.int ∧ Q (.bl (HT.lexLt ns ms)) S) := rfl
theorem q_isN : isD x .non S Q = Q (.bl (isN x)) S := rfl
theorem q_isB : isD (.bl c) (.bl d) S Q = Q (.bl (decide (c = d))) S := rfl
theorem q_isBi : isD (.int i) (.bl d) S Q = Q (.bl false) S := rfl
theorem q_isBs : isD (.str a) (.bl d) S Q = Q (.bl false) S := rfl
theorem q_isBn : isD .non (.bl d) S Q = Q (.bl false) S := rfl
theorem q_isBt : isD (.tup xs) (.bl d) S Q = Q (.bl false) S := rfl
theorem q_isnt : isntD x .non S Q = Q (.bl (!isN x)) S := rfl
theorem n_non : isN .non = true := rfl
theorem n_bl : isN (.bl c) = false := rfl
theorem n_int : isN (.int i) = false := rfl
theorem n_str : isN (.str a) = false := rfl
theorem n_tup : isN (.tup xs) = false := rfl
theorem n_ref : isN (.ref p) = false := rfl
theorem q_eq {f : Bool → Bool} : eqD f (.int i) (.int j) S Q = Q (.bl (f (decide (i = j)))) S := rfl
theorem q_eqS {f : Bool → Bool} : eqD f (.str a) (.str b) S Q = Q (.bl (f (decide (a = b)))) S := rfl
theorem q_eqB {f : Bool → Bool} : eqD f (.bl c) (.bl d) S Q = Q (.bl (f (decide (c = d)))) S := rfl
theorem q_eqT {f : Bool → Bool} : eqD f (.tup xs) (.tup ys) S Q = (okE (.tup xs) ∧ okE (.tup ys) ∧ Q (.bl (f (PyData.eqv (pd (.tup xs)) (pd (.tup ys))))) S) := rfl
theorem q_ixT : ixD (.tup xs) (.int i) S Q = (∃ d, atI xs i = some d ∧ Q d S) := rfl
theorem q_ixK : ixD (.kl xs) (.int i) S Q = (∃ d, atI xs i = some d ∧ Q d S) := rfl
theorem q_ixL : ixD (.ref p) (.int i) S Q = (∃ xs d, S p = some (.lst xs) ∧ atI xs i = some d ∧ Q d S) := rfl
theorem q_ixS : ixD (.str a) (.int i) S Q = (∃ c, a.length ≤ 1000000 ∧ atI a.cps.toList i = some c ∧ Q (.str ⟨#[c]⟩) S) := rfl
theorem q_slT {l u : Option Int} : slD (.tup xs) l u S Q = Q (.tup (cutL xs l u)) S := rfl
theorem q_slL {l u : Option Int} : slD (.ref p) l u S Q = (∃ xs, S p = some (.lst xs) ∧ ∀ p, S p = none → Q (.ref p) (up S p (.lst (cutL xs l u)))) := rfl
theorem q_slS {l u : Option Int} : slD (.str a) l u S Q = (a.length ≤ 1000000 ∧ Q (.str (cutS a l u)) S) := rfl
theorem q_set {N : Hq → Prop} : setD (.ref p) (.int i) x S N = (∃ xs j, S p = some (.lst xs) ∧ ixN xs.length i = some j ∧ N (up S p (.lst (xs.set j x)))) := rfl
theorem q_lenT : lenD [.tup xs] S Q = Q (.int xs.length) S := rfl
theorem q_lenK : lenD [.kl xs] S Q = Q (.int xs.length) S := rfl
theorem q_lenS : lenD [.str a] S Q = (a.length ≤ 1000000 ∧ Q (.int a.length) S) := rfl
theorem q_lenL : lenD [.ref p] S Q = (∃ xs, S p = some (.lst xs) ∧ Q (.int xs.length) S) := rfl
theorem q_abs : absD [.int i] S Q = Q (.int (if i < 0 then -i else i)) S := rfl
theorem q_intF : intF [.int i] S Q = Q (.int i) S := rfl
theorem q_max : maxD [.int i, .int j] S Q = Q (.int (if j > i then j else i)) S := rfl
theorem q_min : minD [.int i, .int j] S Q = Q (.int (if j < i then j else i)) S := rfl
theorem q_tupT : tupF [.tup xs] S Q = Q (.tup xs) S := rfl
theorem q_tupL : tupF [.ref p] S Q = (∃ xs, S p = some (.lst xs) ∧ Q (.tup xs) S) := rfl
theorem q_lstT : lstF [.tup xs] S Q = (∀ p, S p = none → Q (.ref p) (up S p (.lst xs))) := rfl
theorem q_lstL : lstF [.ref p] S Q = (∃ xs, S p = some (.lst xs) ∧ ∀ p, S p = none → Q (.ref p) (up S p (.lst xs))) := rfl
theorem q_app : appD (.ref p) [x] S Q = (∃ xs, S p = some (.lst xs) ∧ xs.length < 1000000 ∧ Q .non (up S p (.lst (xs ++ [x])))) := rfl
theorem q_ext : extD (.ref p) [.ref q] S Q = (∃ xs ys, S p = some (.lst xs) ∧ S q = some (.lst ys) ∧ xs.length + ys.length ≤ 1000000 ∧ Q .non (up S p (.lst (xs ++ ys)))) := rfl
theorem q_joinL : joinD (.str a) [.ref p] S Q = (∃ xs zs, S p = some (.lst xs) ∧ strsD xs = some zs ∧ (zs.map (·.length)).sum + zs.length * a.length ≤ 1000000 ∧ Q (.str (Txt.join a zs)) S) := rfl
theorem q_stw : stwD (.str a) [.str b] S Q = Q (.bl (Txt.startswith a b)) S := rfl
theorem q_seq : seqD (.tup xs) S R = R xs (fun _ => True) S := rfl
theorem q_lst : lstD (.ref p) S R = (∃ xs, S p = some (.lst xs) ∧ R xs (fun S => S p = some (.lst xs)) S) := rfl
theorem q_rng : rngD [.int j] S R = ((-(2 ^ 62) ≤ j ∧ j < 2 ^ 62) ∧ R (rangeD 0 j.toNat) (fun _ => True) S) := rfl
theorem q_rng2 : rng2D [.int i, .int j] S R = ((-(2 ^ 62) ≤ i ∧ i < 2 ^ 62 ∧ -(2 ^ 62) ≤ j ∧ j < 2 ^ 62) ∧ R (rangeD i (j - i).toNat) (fun _ => True) S) := rfl
theorem q_zpT : zpD [.tup xs, .tup ys] S R = R (zipD xs ys) (fun _ => True) S := rfl
theorem q_zpL : zpD [.ref p, .ref q] S R = (∃ xs ys, S p = some (.lst xs) ∧ S q = some (.lst ys) ∧ R (zipD xs ys) (fun S => S p = some (.lst xs) ∧ S q = some (.lst ys)) S) := rfl
theorem q_truN {f : Bool → Prop} : truD .non S f = f false := rfl
theorem q_truB {f : Bool → Prop} : truD (.bl c) S f = f c := rfl
theorem q_truI {f : Bool → Prop} : truD (.int i) S f = f (i != 0) := rfl
theorem q_truT {f : Bool → Prop} : truD (.tup xs) S f = f (!xs.isEmpty) := rfl
theorem q_truL {f : Bool → Prop} : truD (.ref p) S f = (∃ xs, S p = some (.lst xs) ∧ f (!xs.isEmpty)) := rfl
theorem t_non : tyN .non S = some "NoneType" := rfl
theorem t_bl : tyN (.bl c) S = some "bool" := rfl
theorem t_int : tyN (.int i) S = some "int" := rfl
theorem t_str : tyN (.str a) S = some "str" := rfl
theorem t_tup : tyN (.tup xs) S = some "tuple" := rfl
theorem t_lst (h : S p = some (.lst xs)) : tyN (.ref p) S = some "list" := by simp only [tyN, h]
theorem q_isi {t n : String} (h : tyN x S = some t) : isiD [x, .ty n] S Q = isiR t n S Q := by simp only [isiD, h]
theorem q_isiN {n : String} : isiD [.non, .ty n] S Q = isiR "NoneType" n S Q := rfl
theorem q_isiB {n : String} : isiD [.bl c, .ty n] S Q = isiR "bool" n S Q := rfl
theorem q_isiI {n : String} : isiD [.int i, .ty n] S Q = isiR "int" n S Q := rfl
theorem q_isiS {n : String} : isiD [.str a, .ty n] S Q = isiR "str" n S Q := rfl
theorem q_isiT {n : String} : isiD [.tup xs, .ty n] S Q = isiR "tuple" n S Q := rfl
theorem q_isiL {n : String} (h : S p = some (.lst xs)) : isiD [.ref p, .ty n] S Q = isiR "list" n S Q := by simp only [isiD, t_lst h]
theorem i_NoneType_int : isiR "NoneType" "int" S Q = Q (.bl false) S := rfl
theorem i_NoneType_bool : isiR "NoneType" "bool" S Q = Q (.bl false) S := rfl
theorem i_NoneType_tuple : isiR "NoneType" "tuple" S Q = Q (.bl false) S := rfl
theorem i_NoneType_list : isiR "NoneType" "list" S Q = Q (.bl false) S := rfl
theorem i_NoneType_str : isiR "NoneType" "str" S Q = Q (.bl false) S := rfl
theorem i_bool_int : isiR "bool" "int" S Q = Q (.bl true) S := rfl
theorem i_bool_bool : isiR "bool" "bool" S Q = Q (.bl true) S := rfl
theorem i_bool_tuple : isiR "bool" "tuple" S Q = Q (.bl false) S := rfl
theorem i_bool_list : isiR "bool" "list" S Q = Q (.bl false) S := rfl
theorem i_bool_str : isiR "bool" "str" S Q = Q (.bl false) S := rfl
theorem i_int_int : isiR "int" "int" S Q = Q (.bl true) S := rfl
theorem i_int_bool : isiR "int" "bool" S Q = Q (.bl false) S := rfl
theorem i_int_tuple : isiR "int" "tuple" S Q = Q (.bl false) S := rfl
theorem i_int_list : isiR "int" "list" S Q = Q (.bl false) S := rfl
theorem i_int_str : isiR "int" "str" S Q = Q (.bl false) S := rfl
theorem i_str_int : isiR "str" "int" S Q = Q (.bl false) S := rfl
theorem i_str_bool : isiR "str" "bool" S Q = Q (.bl false) S := rfl
theorem i_str_tuple : isiR "str" "tuple" S Q = Q (.bl false) S := rfl
theorem i_str_list : isiR "str" "list" S Q = Q (.bl false) S := rfl
theorem i_str_str : isiR "str" "str" S Q = Q (.bl true) S := rfl
theorem i_tuple_int : isiR "tuple" "int" S Q = Q (.bl false) S := rfl
theorem i_tuple_bool : isiR "tuple" "bool" S Q = Q (.bl false) S := rfl
theorem i_tuple_tuple : isiR "tuple" "tuple" S Q = Q (.bl true) S := rfl
theorem i_tuple_list : isiR "tuple" "list" S Q = Q (.bl false) S := rfl
theorem i_tuple_str : isiR "tuple" "str" S Q = Q (.bl false) S := rfl
theorem i_list_int : isiR "list" "int" S Q = Q (.bl false) S := rfl
theorem i_list_bool : isiR "list" "bool" S Q = Q (.bl false) S := rfl
theorem i_list_tuple : isiR "list" "tuple" S Q = Q (.bl false) S := rfl
theorem i_list_list : isiR "list" "list" S Q = Q (.bl true) S := rfl
theorem i_list_str : isiR "list" "str" S Q = Q (.bl false) S := rfl
theorem i_dict_int : isiR "dict" "int" S Q = Q (.bl false) S := rfl
theorem i_dict_bool : isiR "dict" "bool" S Q = Q (.bl false) S := rfl
theorem i_dict_tuple : isiR "dict" "tuple" S Q = Q (.bl false) S := rfl
theorem i_dict_list : isiR "dict" "list" S Q = Q (.bl false) S := rfl
theorem i_dict_str : isiR "dict" "str" S Q = Q (.bl false) S := rfl
theorem q_gTp {n : Nat} {r : RGs} {σ : Sg} {N : Sg → Hq → Prop} {E : Xw} : gTp n r (.tup xs) σ S N E = (xs.length = n ∧ r xs σ S N NoX) := rfl
theorem q_gC {g : RG} {r : RGs} {σ : Sg} {N : Sg → Hq → Prop} {E : Xw} : gConss g r (x :: xs) σ S N E = g x σ S (fun σ1 S1 => r xs σ1 S1 N E) E := rfl
theorem q_gN {σ : Sg} {N : Sg → Hq → Prop} {E : Xw} : gNils [] σ S N E = N σ S := rfl
theorem g_02 {α : Type} {a b : α} : gk 0 2 [0, 1] [] [a, b] = [a, b] := rfl
theorem g_02' {α : Type} {a b : α} : gk 0 2 [1, 0] [] [a, b] = [b, a] := rfl
theorem g_01 {α : Type} {a : α} : gk 0 1 [0] [] [a] = [a] := rfl
theorem g_11 {α : Type} {a b : α} : gk 1 1 [0, 1] [a] [b] = [a, b] := rfl
theorem at_0 {α : Type} {x : α} {r : List α} : atI (x :: r) 0 = some x := by
  refine atI_nat (j := 0) ?_
  rfl
theorem at_1 {α : Type} {x y : α} {r : List α} : atI (x :: y :: r) 1 = some y := by
  refine atI_nat (j := 1) ?_
  rfl
theorem ix_0 {n : Nat} : ixN (n + 1) 0 = some 0 := by unfold ixN; simp
theorem ix_1 {n : Nat} : ixN (n + 2) 1 = some 1 := by
  unfold ixN
  have h : (1 : Int) < ((n + 2 : Nat) : Int) := by omega
  rw [if_pos (by decide), if_pos h]; rfl
end
/-! ### the box, and what stands beside it -/
def Bx (S : Hq) (b : Addr) : Prop := ∃ g s : Int, S b = some (.lst [.int g, .int s])
/-- all but b stands as it stood (new things may have come) -/
structure Nx (b : Addr) (S S' : Hq) : Prop where
  bx : Bx S' b
  old : ∀ a o, a ≠ b → S a = some o → S' a = some o
theorem up_get {S : Hq} {p a : Addr} {q o : HQ} (hp : S p = none) (h : S a = some o) : up S p q a = some o := by
  rw [up_ne (fun z => by rw [z, hp] at h; cases h)]; exact h
theorem Nx.get {b a : Addr} {S S' : Hq} {o : HQ} (n : Nx b S S') (ne : a ≠ b) (h : S a = some o) : S' a = some o := n.old a o ne h
theorem ne_get {S : Hq} {a p : Addr} {o : HQ} (h : S a = some o) (hp : S p = none) : a ≠ p := fun z => by rw [z, hp] at h; cases h
theorem Nx.refl {b : Addr} {S : Hq} (h : Bx S b) : Nx b S S := ⟨h, fun _ _ _ h => h⟩
theorem Nx.trans {b : Addr} {S S1 S2 : Hq} (x : Nx b S S1) (y : Nx b S1 S2) : Nx b S S2 := ⟨y.bx, fun a o ne h => y.old a o ne (x.old a o ne h)⟩
theorem Bx.up {b p : Addr} {S : Hq} {q : HQ} (h : Bx S b) (hp : S p = none) : Bx (up S p q) b := let ⟨g, s, e⟩ := h; ⟨g, s, up_get hp e⟩
theorem Nx.new {b p : Addr} {S : Hq} {q : HQ} (h : Bx S b) (hp : S p = none) : Nx b S (up S p q) := ⟨h.up hp, fun _ _ _ h => up_get hp h⟩
theorem Bx.ne {b p : Addr} {S : Hq} (h : Bx S b) (hp : S p = none) : p ≠ b := fun z => by obtain ⟨g, s, e⟩ := h; rw [z, e] at hp; cases hp
theorem Nx.put {b : Addr} {S : Hq} {g s : Int} : Nx b S (up S b (.lst [.int g, .int s])) := ⟨⟨g, s, up_same⟩, fun a o ne h => by rw [up_ne ne]; exact h⟩
theorem up_up {S : Hq} {a : Addr} {o u : HQ} : up (up S a o) a u = up S a u := by funext b; unfold up; split <;> rfl
/-- a list of one's own is written: what stands beside stands -/
theorem Bx.put {b p : Addr} {S : Hq} {q : HQ} (h : Bx S b) (ne : p ≠ b) : Bx (Y.up S p q) b := let ⟨g, s, e⟩ := h; ⟨g, s, by rw [up_ne (Ne.symm ne)]; exact e⟩
theorem law_in {K : PySem.W.Frag} {H : Hp} {Q : VK} {E : XK} {a : Addr} {ns : List Int} {sp : Sq} (ok : ∀ (ns : List Int) (S : Hq) (Q' : Qv), ns.length ≤ 63 → (∀ S', Q' (.bl true) S') → sp [.kl (ns.map D.int)] S Q' NoX) (hl : ns.length ≤ 63) (ho : Only H) (hS : SqL K H a (ns.map V.int)) (q : ∀ H', Q (.bl true) H') : dn K sp [.ref a] H Q E := by
  have hF : SqF K H a (ns.map V.int) := by
    rcases hS with (h | h) | h
    · rcases ho a with z | ⟨o, xs, z⟩
      · rw [z] at h; cases h
      · rw [z] at h; cases h
    · exact .inl h
    · exact .inr h
  exact ⟨[.kl (ns.map D.int)], fun _ => none, fun d _ => d = .bl true, NoX, .cons (.kl hF DVs.ofInts) .nil, fun b o e => (by cases e), ok ns _ _ hl (fun _ => rfl), fun d S' v H' f r dv h => by subst h; cases dv; exact q H', XI.no⟩
end Y
namespace Y
open PySem PySem.Spec PyProof.Rows L2
theorem at_in {α : Type} {xs : List α} {i : Int} (h0 : 0 ≤ i) (h1 : i < xs.length) : ∃ d, d ∈ xs ∧ atI xs i = some d ∧ xs[i.toNat]? = some d := by
  obtain ⟨j, rfl⟩ := Int.eq_ofNat_of_zero_le h0
  have hn : j < xs.length := by omega
  exact ⟨xs[j], List.getElem_mem hn, atI_nat (List.getElem?_eq_getElem hn), List.getElem?_eq_getElem hn⟩
theorem at_ints {ns : List Int} {i : Int} (h0 : 0 ≤ i) (h1 : i < ns.length) : ∃ n, n ∈ ns ∧ atI (ns.map D.int) i = some (.int n) ∧ ns[i.toNat]? = some n := by
  obtain ⟨j, rfl⟩ := Int.eq_ofNat_of_zero_le h0
  have hn : j < ns.length := by omega
  exact ⟨ns[j], List.getElem_mem hn, atI_nat (by rw [List.getElem?_map, List.getElem?_eq_getElem hn]; rfl), List.getElem?_eq_getElem hn⟩
theorem cm_r {i j : Int} (h1 : -(2 ^ 64) < j) (h2 : j < 2 ^ 64) : CMul' i j := .inr ⟨h1, h2⟩
theorem cm_l {i j : Int} (h1 : -(2 ^ 64) < i) (h2 : i < 2 ^ 64) : CMul' i j := .inl ⟨h1, h2⟩
theorem mem_ints {l : List Int} {d : D} (h : d ∈ l.map D.int) : ∃ i, i ∈ l ∧ d = .int i := by
  obtain ⟨i, h1, h2⟩ := List.mem_map.mp h; exact ⟨i, h1, h2.symm⟩
theorem ix_in {n : Nat} {i : Int} (h0 : 0 ≤ i) (h1 : i < n) : ixN n i = some i.toNat := by
  unfold ixN; rw [if_pos h0, if_pos h1]
/-- elements that are drawn: each keeps I and has P -/
theorem lc_draw {gd : Hq → Prop} {te : RE} {i : Nat} {σ : Sg} {Qf : List D → Hq → Prop} (I : Hq → Prop) (P : D → Prop) (hg : ∀ S, I S → gd S) : ∀ (xs acc : List D) (S : Hq),
    (∀ x ∈ xs, ∀ (S : Hq) (Q : Qv), I S → (∀ y S', P y → I S' → Q y S') → te ((wipeD σ [i]).set i (some x)) S Q NoX) →
    acc.length + xs.length ≤ 1000000 → (∀ y ∈ acc, P y) → I S → (∀ acc' S', acc'.length = acc.length + xs.length → (∀ y ∈ acc', P y) → I S' → Qf acc' S') → lcP gd (gNm i) rYes te [i] σ Qf xs acc S
  | [], acc, S, _, _, ha, hi, k => ⟨hg S hi, k acc S (by simp) ha hi⟩
  | x :: r, acc, S, h, hz, ha, hi, k => by
    refine ⟨hg S hi, ?_⟩
    show te ((wipeD σ [i]).set i (some x)) S (fun y S4 => acc.length < 1000000 ∧ lcP gd (gNm i) rYes te [i] σ Qf r (acc ++ [y]) S4) NoX
    refine h x (by simp) S _ hi (fun y S4 py i4 => ⟨by simp at hz; omega, ?_⟩)
    refine lc_draw I P hg r (acc ++ [y]) S4 (fun x hx => h x (by simp [hx])) (by simp at hz ⊢; omega) (fun z hz => ?_) i4 (fun acc' S' hl hp hi' => k acc' S' (by simp at hl ⊢; omega) hp hi')
    rcases List.mem_append.mp hz with hz | hz
    · exact ha z hz
    · rw [List.mem_singleton] at hz; subst hz; exact py
end Y
namespace Y
open PySem PySem.Spec PyProof.Rows L2
theorem ints_of : ∀ {ds : List D}, (∀ y ∈ ds, ∃ i, y = D.int i) → ∃ is : List Int, ds = is.map D.int
  | [], _ => ⟨[], rfl⟩
  | d :: ds, h => by
    obtain ⟨i, rfl⟩ := h d (by simp)
    obtain ⟨is, rfl⟩ := ints_of (ds := ds) fun y hy => h y (by simp [hy])
    exact ⟨i :: is, rfl⟩
theorem cutL_map {α β : Type} (f : α → β) (xs : List α) (lo hi : Option Int) : cutL (xs.map f) lo hi = (cutL xs lo hi).map f := by
  unfold cutL; rw [List.length_map, List.map_take, List.map_drop]
theorem cutL_to {α : Type} (xs : List α) {k : Int} (h : 0 ≤ k) : cutL xs none (some k) = xs.take k.toNat := by
  obtain ⟨j, rfl⟩ := Int.eq_ofNat_of_zero_le h
  unfold cutL
  rw [HT.sIx_none, HT.sIx_nat, Int.toNat_natCast, List.drop_zero, Nat.sub_zero]
  by_cases c : j ≤ xs.length
  · rw [Nat.min_eq_left c]
  · rw [Nat.min_eq_right (by omega), List.take_length, List.take_of_length_le (by omega)]
theorem cutL_from {α : Type} (xs : List α) {k : Int} (h : 0 ≤ k) : cutL xs (some k) none = xs.drop k.toNat := by
  obtain ⟨j, rfl⟩ := Int.eq_ofNat_of_zero_le h
  unfold cutL
  rw [HT.sIx_none, HT.sIx_nat, Int.toNat_natCast]
  by_cases c : j ≤ xs.length
  · rw [Nat.min_eq_left c, List.take_of_length_le (by simp)]
  · rw [Nat.min_eq_right (by omega), List.drop_length, List.drop_of_length_le (by omega)]; simp
/-- a loop by its turn's number -/
theorem loop_idx {gd : Hq → Prop} {g : RG} {tb : RSt} {D0 : En} {xs : List D} {σ : Sg} {S : Hq} (P : Nat → Sg → Hq → Prop) (hg : ∀ i σ S, i ≤ xs.length → P i σ S → gd S)
    (hs : ∀ i x σ S, xs[i]? = some x → P i σ S → ∀ N : Sg → Hq → Prop, (∀ σ' S', P (i + 1) σ' S' → N σ' S') → g x σ S (fun σ2 S2 => tb { D0 with nx := N, ct := N, bk := D0.nx } σ2 S2) (D0.x σ))
    (hd : ∀ σ S, P xs.length σ S → D0.nx σ S) (h0 : P 0 σ S) : loopP gd g tb xs D0 σ S := by
  have key : ∀ (l : List D) (i : Nat) (σ : Sg) (S : Hq), i + l.length = xs.length → (∀ j, l[j]? = xs[i + j]?) → P i σ S → loopP gd g tb l D0 σ S := by
    intro l
    induction l with
    | nil =>
      intro i σ S hl _ hp
      have e : i = xs.length := by simpa using hl
      subst e
      exact ⟨hg _ _ _ (Nat.le_refl _) hp, hd σ S hp⟩
    | cons x r ih =>
      intro i σ S hl hj hp
      have hlr : i + r.length + 1 = xs.length := by rw [List.length_cons] at hl; omega
      refine ⟨hg _ _ _ (by omega) hp, ?_⟩
      refine hs i x σ S (by have := hj 0; simpa using this.symm) hp (loopP gd g tb r D0) fun σ' S' hp' => ?_
      exact ih (i + 1) σ' S' (by omega) (fun j => by have := hj (j + 1); rw [List.getElem?_cons_succ] at this; rw [this]; congr 1; omega) hp'
  exact key xs 0 σ S (by omega) (fun j => by rw [Nat.zero_add]) h0
/-- data for which == of the law's kind is True -/
def Pn : Nat → D → Prop
  | 0, _ => False
  | n + 1, d => match d with
    | .tup xs => xs.length ≤ 100000 ∧ ∀ x ∈ xs, Pn n x
    | .non => True | .bl _ => True | .int _ => True | .str _ => True
    | _ => False
def ofO : Option (List Int) → D
  | none => .non
  | some ns => .tup (ns.map D.int)
def blw : Option (List Int) → Option (List Int) → Bool
  | none, _ => false
  | some _, none => true
  | some a, some b => HT.lexLt a b
theorem Pn_ofO {n : Nat} {o : Option (List Int)} (h : ∀ ns, o = some ns → ns.length ≤ 100000) : Pn (n + 2) (ofO o) := by
  cases o with
  | none => trivial
  | some ns =>
    refine ⟨by rw [List.length_map]; exact h ns rfl, fun x hx => ?_⟩
    obtain ⟨i, _, rfl⟩ := mem_ints hx
    trivial
/-- numbers as the law draws them -/
def Fig (ns : List Int) : Prop := ∃ h m l, ns = h :: (m ++ [l]) ∧ 0 ≤ h ∧ 0 ≤ l ∧ l < 32 ∧ m.length ≤ 13
theorem lex_same {xs : List Int} : HT.lexLt xs xs = false := by
  induction xs with
  | nil => rfl
  | cons x r ih => rw [HT.lexLt_cons, if_pos rfl, ih]
def keyO (z : Str) : Option (List Int) → Option (List Int)
  | none => none
  | some ns => some ((6 - (z.length : Int)) :: ns)
def lst_of (os : List (Option (List Int))) : Option (List Int) := os.foldl (fun acc x => if blw x acc then x else acc) none
end Y
namespace K05
open PySem PySem.Spec PyProof.Rows L2 Y

abbrev Rw := Str × Option (List Int)
def rowD (l : Rw) : D := .tup [.str l.1, ofO l.2]
def keyR (l : Rw) : D := ofO (keyO l.1 l.2)
def fstD : Option Nat → D
  | none => .non
  | some j => .int (0 + j)
def OkR (l : Rw) : Prop := l.1.length ≤ 6 ∧ ∀ ns, l.2 = some ns → ns.length ≤ 1000

def sp_law_box : Sq := fun ds S Q _ => ∃ (ns : List Int) (k : Int), ds = [.kl (ns.map D.int), .int k] ∧ ns.length ≤ 63 ∧ 0 ≤ k ∧ k < 1000 ∧ ∀ p g s, S p = none → Q (.ref p) (up S p (.lst [.int g, .int s]))
theorem ln_law_box : ∀ ds S Q E, sp_law_box ds S Q E → ds.length = 2 := by rintro _ _ _ _ ⟨b, n, rfl, _⟩; rfl
theorem nx_law_box : ∀ ds S Q E, sp_law_box ds S Q E → sp_law_box ds S Q NoX := fun _ _ _ _ h => h

def rd_law_box : RSt :=
 (rSeq (rSet (rBin addD (rBin mulD (rC (.int 17033)) (rVar 1)) (rC (.int 9203))) (gNm 2))
 (rSeq (rIfS (rTst (rBin ltD (rVar 1) (rFn lenD (rCons (rVar 0) rNil))))
 (rSet (rFn absD (rCons (rFn intF (rCons (rBin ixD (rVar 0) (rVar 1)) rNil)) rNil)) (gNm 2))
 (rIfS (rTst (rBin gtD (rFn lenD (rCons (rVar 0) rNil)) (rC (.int 0))))
 (rSet (rBin addD (rVar 2) (rBin mulD (rBin modD (rFn intF (rCons (rFn absD (rCons (rFn intF (rCons (rBin ixD (rVar 0) (rBin modD (rFn intF (rCons (rVar 1) rNil)) (rFn lenD (rCons (rVar 0) rNil)))) rNil)) rNil)) rNil)) (rC (.int 2147483563))) (rC (.int 88001)))) (gNm 2))
 rNext))
 (rSeq (rSet (rIf (rTst (rBin geD (rVar 2) (rBin powD (rC (.int 10)) (rC (.int 18))))) (rVar 2) (rC (.int 0))) (gNm 3))
 (rRet (rLst (rCons (rVar 3) (rCons (rBin addD (rBin modD (rFn intF (rCons (rBin addD (rBin mulD (rBin modD (rFn intF (rCons (rVar 2) rNil)) (rC (.int 2147483563))) (rC (.int 54250003))) (rBin mulD (rC (.int 9203)) (rVar 1))) rNil)) (rC (.int 2147483563))) (rC (.int 1))) rNil)))))))

theorem pu_law_box : ∀ ds S Q, sp_law_box ds S Q NoX → rd_law_box { nx := fun _ S => Q .non S, rt := Q } (start' 4 ds) S := by

  rintro _ S Q ⟨ns, k, rfl, hl, hk0, hk1, q⟩
  unfold rd_law_box
  simp only [rVar, rC, rBin, rUn, rTst, rChn, rTru, rAnd, rOr, rNot, rAndV, rOrV, rNotV, rIf, rNil, rCons, rTup, rLst, rFn, rCall, rCallK, rSl, rPrt, rNoP, rMt, gNm, q_gN, q_gC, q_gTp, gSb, rNext, rSeq, rDrop, rRet, rRetN, rBrk, rCnt, rIfS, rSet, rPar, rFor, iSeq, iLst, iRg1, iRg2, iZp, rLc, rYes, En.x, wipeD, start', List.getElem?_cons_zero, List.getElem?_cons_succ, List.set_cons_zero, List.set_cons_succ, List.map_cons, List.map_nil, List.length_cons, List.length_nil, List.cons_append, List.nil_append, List.replicate_succ, List.replicate_zero, id, q_asB, q_asI, q_add, q_addS, q_addT, q_addL, q_int, q_sub, q_mul, q_fdiv, q_mod, q_pow, q_neg, q_le, q_ge, q_gt, q_lt, q_ltT, q_isN, q_isB, q_isBi, q_isBs, q_isBn, q_isBt, q_isnt, n_non, n_bl, n_int, n_str, n_tup, n_ref, q_eq, q_eqS, q_eqB, q_ixT, q_ixK, q_ixL, q_ixS, q_slT, q_slL, q_slS, q_set, q_lenT, q_lenK, q_lenS, q_lenL, q_abs, q_intF, q_max, q_min, q_tupT, q_tupL, q_lstT, q_lstL, q_app, q_ext, q_joinL, q_stw, q_seq, q_lst, q_rng, q_rng2, q_zpT, q_zpL, q_truN, q_truB, q_truI, q_truT, q_truL, t_non, t_bl, t_int, t_str, t_tup, q_isiN, q_isiB, q_isiI, q_isiS, q_isiT, i_NoneType_int, i_NoneType_bool, i_NoneType_tuple, i_NoneType_list, i_NoneType_str, i_bool_int, i_bool_bool, i_bool_tuple, i_bool_list, i_bool_str, i_int_int, i_int_bool, i_int_tuple, i_int_list, i_int_str, i_str_int, i_str_bool, i_str_tuple, i_str_list, i_str_str, i_tuple_int, i_tuple_bool, i_tuple_tuple, i_tuple_list, i_tuple_str, i_list_int, i_list_bool, i_list_tuple, i_list_list, i_list_str, i_dict_int, i_dict_bool, i_dict_tuple, i_dict_list, i_dict_str, up_same, g_02, g_02', g_01, g_11, at_0, at_1, ix_0, ix_1, Option.some.injEq, HQ.lst.injEq, exists_eq_left', exists_eq_left, exists_and_left, exists_eq', exists_eq, decide_eq_true_eq, if_true, if_false, ite_true, ite_false, Bool.false_eq_true, reduceIte, reduceCtorEq, Bool.not_true, Bool.not_false, Nat.zero_add, Nat.reduceAdd, Nat.reduceSub, Nat.reduceLeDiff, Nat.reduceLT, Int.reduceLT, Int.reduceLE, Int.reduceEq, Int.reduceNe, Nat.reduceEqDiff, Int.reduceToNat, Int.reducePow, Int.reduceMul, Int.reduceAdd, Int.reduceSub, Int.reduceNeg, and_true, true_and, decide_true, decide_false, List.length_map]
  have hn : (0 : Int) ≤ ns.length := by omega
  refine ⟨cm_l (by decide) (by decide), ?_⟩
  split
  · rename_i h
    obtain ⟨n, _, e, _⟩ := at_ints hk0 h
    simp only [rVar, rC, rBin, rUn, rTst, rChn, rTru, rAnd, rOr, rNot, rAndV, rOrV, rNotV, rIf, rNil, rCons, rTup, rLst, rFn, rCall, rCallK, rSl, rPrt, rNoP, rMt, gNm, q_gN, q_gC, q_gTp, gSb, rNext, rSeq, rDrop, rRet, rRetN, rBrk, rCnt, rIfS, rSet, rPar, rFor, iSeq, iLst, iRg1, iRg2, iZp, rLc, rYes, En.x, wipeD, start', List.getElem?_cons_zero, List.getElem?_cons_succ, List.set_cons_zero, List.set_cons_succ, List.map_cons, List.map_nil, List.length_cons, List.length_nil, List.cons_append, List.nil_append, List.replicate_succ, List.replicate_zero, id, q_asB, q_asI, q_add, q_addS, q_addT, q_addL, q_int, q_sub, q_mul, q_fdiv, q_mod, q_pow, q_neg, q_le, q_ge, q_gt, q_lt, q_ltT, q_isN, q_isB, q_isBi, q_isBs, q_isBn, q_isBt, q_isnt, n_non, n_bl, n_int, n_str, n_tup, n_ref, q_eq, q_eqS, q_eqB, q_ixT, q_ixK, q_ixL, q_ixS, q_slT, q_slL, q_slS, q_set, q_lenT, q_lenK, q_lenS, q_lenL, q_abs, q_intF, q_max, q_min, q_tupT, q_tupL, q_lstT, q_lstL, q_app, q_ext, q_joinL, q_stw, q_seq, q_lst, q_rng, q_rng2, q_zpT, q_zpL, q_truN, q_truB, q_truI, q_truT, q_truL, t_non, t_bl, t_int, t_str, t_tup, q_isiN, q_isiB, q_isiI, q_isiS, q_isiT, i_NoneType_int, i_NoneType_bool, i_NoneType_tuple, i_NoneType_list, i_NoneType_str, i_bool_int, i_bool_bool, i_bool_tuple, i_bool_list, i_bool_str, i_int_int, i_int_bool, i_int_tuple, i_int_list, i_int_str, i_str_int, i_str_bool, i_str_tuple, i_str_list, i_str_str, i_tuple_int, i_tuple_bool, i_tuple_tuple, i_tuple_list, i_tuple_str, i_list_int, i_list_bool, i_list_tuple, i_list_list, i_list_str, i_dict_int, i_dict_bool, i_dict_tuple, i_dict_list, i_dict_str, up_same, g_02, g_02', g_01, g_11, at_0, at_1, ix_0, ix_1, Option.some.injEq, HQ.lst.injEq, exists_eq_left', exists_eq_left, exists_and_left, exists_eq', exists_eq, decide_eq_true_eq, if_true, if_false, ite_true, ite_false, Bool.false_eq_true, reduceIte, reduceCtorEq, Bool.not_true, Bool.not_false, Nat.zero_add, Nat.reduceAdd, Nat.reduceSub, Nat.reduceLeDiff, Nat.reduceLT, Int.reduceLT, Int.reduceLE, Int.reduceEq, Int.reduceNe, Nat.reduceEqDiff, Int.reduceToNat, Int.reducePow, Int.reduceMul, Int.reduceAdd, Int.reduceSub, Int.reduceNeg, and_true, true_and, decide_true, decide_false, e]
    refine ⟨⟨by decide, by decide, by decide, by decide⟩, ?_⟩
    (repeat' split) <;> exact ⟨cm_r (by decide) (by decide), cm_l (by decide) (by decide), fun p hp => q p _ _ hp⟩
  · split
    · rename_i h
      obtain ⟨n, _, e, _⟩ := at_ints (Int.emod_nonneg k (by omega)) (Int.emod_lt_of_pos k h)
      refine ⟨h, ?_⟩
      simp only [rVar, rC, rBin, rUn, rTst, rChn, rTru, rAnd, rOr, rNot, rAndV, rOrV, rNotV, rIf, rNil, rCons, rTup, rLst, rFn, rCall, rCallK, rSl, rPrt, rNoP, rMt, gNm, q_gN, q_gC, q_gTp, gSb, rNext, rSeq, rDrop, rRet, rRetN, rBrk, rCnt, rIfS, rSet, rPar, rFor, iSeq, iLst, iRg1, iRg2, iZp, rLc, rYes, En.x, wipeD, start', List.getElem?_cons_zero, List.getElem?_cons_succ, List.set_cons_zero, List.set_cons_succ, List.map_cons, List.map_nil, List.length_cons, List.length_nil, List.cons_append, List.nil_append, List.replicate_succ, List.replicate_zero, id, q_asB, q_asI, q_add, q_addS, q_addT, q_addL, q_int, q_sub, q_mul, q_fdiv, q_mod, q_pow, q_neg, q_le, q_ge, q_gt, q_lt, q_ltT, q_isN, q_isB, q_isBi, q_isBs, q_isBn, q_isBt, q_isnt, n_non, n_bl, n_int, n_str, n_tup, n_ref, q_eq, q_eqS, q_eqB, q_ixT, q_ixK, q_ixL, q_ixS, q_slT, q_slL, q_slS, q_set, q_lenT, q_lenK, q_lenS, q_lenL, q_abs, q_intF, q_max, q_min, q_tupT, q_tupL, q_lstT, q_lstL, q_app, q_ext, q_joinL, q_stw, q_seq, q_lst, q_rng, q_rng2, q_zpT, q_zpL, q_truN, q_truB, q_truI, q_truT, q_truL, t_non, t_bl, t_int, t_str, t_tup, q_isiN, q_isiB, q_isiI, q_isiS, q_isiT, i_NoneType_int, i_NoneType_bool, i_NoneType_tuple, i_NoneType_list, i_NoneType_str, i_bool_int, i_bool_bool, i_bool_tuple, i_bool_list, i_bool_str, i_int_int, i_int_bool, i_int_tuple, i_int_list, i_int_str, i_str_int, i_str_bool, i_str_tuple, i_str_list, i_str_str, i_tuple_int, i_tuple_bool, i_tuple_tuple, i_tuple_list, i_tuple_str, i_list_int, i_list_bool, i_list_tuple, i_list_list, i_list_str, i_dict_int, i_dict_bool, i_dict_tuple, i_dict_list, i_dict_str, up_same, g_02, g_02', g_01, g_11, at_0, at_1, ix_0, ix_1, Option.some.injEq, HQ.lst.injEq, exists_eq_left', exists_eq_left, exists_and_left, exists_eq', exists_eq, decide_eq_true_eq, if_true, if_false, ite_true, ite_false, Bool.false_eq_true, reduceIte, reduceCtorEq, Bool.not_true, Bool.not_false, Nat.zero_add, Nat.reduceAdd, Nat.reduceSub, Nat.reduceLeDiff, Nat.reduceLT, Int.reduceLT, Int.reduceLE, Int.reduceEq, Int.reduceNe, Nat.reduceEqDiff, Int.reduceToNat, Int.reducePow, Int.reduceMul, Int.reduceAdd, Int.reduceSub, Int.reduceNeg, and_true, true_and, decide_true, decide_false, e]
      refine ⟨cm_r (by decide) (by decide), ⟨by decide, by decide, by decide, by decide⟩, ?_⟩
      (repeat' split) <;> exact ⟨cm_r (by decide) (by decide), cm_l (by decide) (by decide), fun p hp => q p _ _ hp⟩
    · refine ⟨⟨by decide, by decide, by decide, by decide⟩, ?_⟩
      (repeat' split) <;> exact ⟨cm_r (by decide) (by decide), cm_l (by decide) (by decide), fun p hp => q p _ _ hp⟩


def sp_law_take : Sq := fun ds S Q _ => ∃ b n, ds = [.ref b, .int n] ∧ Bx S b ∧ 0 < n ∧ n < 2 ^ 63 ∧ ∀ r S', 0 ≤ r → r < n → Nx b S S' → Q (.int r) S'
theorem ln_law_take : ∀ ds S Q E, sp_law_take ds S Q E → ds.length = 2 := by rintro _ _ _ _ ⟨b, n, rfl, _⟩; rfl
theorem nx_law_take : ∀ ds S Q E, sp_law_take ds S Q E → sp_law_take ds S Q NoX := fun _ _ _ _ h => h
theorem take_of {b : Addr} {n : Int} {S : Hq} {Q : Qv} (hb : Bx S b) (h0 : 0 < n) (h1 : n < 2 ^ 63) (q : ∀ r S', 0 ≤ r → r < n → Nx b S S' → Q (.int r) S') : sp_law_take [.ref b, .int n] S Q NoX := ⟨b, n, rfl, hb, h0, h1, q⟩

def rd_law_take : RSt :=
 (rSeq (rIfS (rTst (rBin gtD (rBin ixD (rVar 0) (rC (.int 0))) (rC (.int 0))))
 (rSeq (rSet (rBin modD (rFn intF (rCons (rBin ixD (rVar 0) (rC (.int 0))) rNil)) (rVar 1)) (gNm 3))
 (rSeq (rSet (rBin fdivD (rBin ixD (rVar 0) (rC (.int 0))) (rVar 1)) (gSb (rVar 0) (rC (.int 0))))
 (rRet (rVar 3))))
 rNext)
 (rSeq (rSet (rBin modD (rFn intF (rCons (rBin addD (rBin mulD (rBin ixD (rVar 0) (rC (.int 1))) (rC (.int 39373))) (rC (.int 101))) rNil)) (rC (.int 2147483647))) (gNm 2))
 (rSeq (rSet (rBin addD (rBin modD (rFn intF (rCons (rBin addD (rBin mulD (rVar 2) (rC (.int 40692))) (rC (.int 17))) rNil)) (rC (.int 2147483563))) (rC (.int 1))) (gSb (rVar 0) (rC (.int 1))))
 (rRet (rBin modD (rFn intF (rCons (rBin fdivD (rBin addD (rBin mulD (rVar 2) (rC (.int 2147483629))) (rBin ixD (rVar 0) (rC (.int 1)))) (rC (.int 8233))) rNil)) (rVar 1))))))

theorem pu_law_take : ∀ ds S Q, sp_law_take ds S Q NoX → rd_law_take { nx := fun _ S => Q .non S, rt := Q } (start' 4 ds) S := by

  rintro _ S Q ⟨b, n, rfl, ⟨g, s, hb⟩, hn, hn2, k⟩
  unfold rd_law_take
  simp only [rVar, rC, rBin, rUn, rTst, rChn, rTru, rAnd, rOr, rNot, rAndV, rOrV, rNotV, rIf, rNil, rCons, rTup, rLst, rFn, rCall, rCallK, rSl, rPrt, rNoP, rMt, gNm, q_gN, q_gC, q_gTp, gSb, rNext, rSeq, rDrop, rRet, rRetN, rBrk, rCnt, rIfS, rSet, rPar, rFor, iSeq, iLst, iRg1, iRg2, iZp, rLc, rYes, En.x, wipeD, start', List.getElem?_cons_zero, List.getElem?_cons_succ, List.set_cons_zero, List.set_cons_succ, List.map_cons, List.map_nil, List.length_cons, List.length_nil, List.cons_append, List.nil_append, List.replicate_succ, List.replicate_zero, id, q_asB, q_asI, q_add, q_addS, q_addT, q_addL, q_int, q_sub, q_mul, q_fdiv, q_mod, q_pow, q_neg, q_le, q_ge, q_gt, q_lt, q_ltT, q_isN, q_isB, q_isBi, q_isBs, q_isBn, q_isBt, q_isnt, n_non, n_bl, n_int, n_str, n_tup, n_ref, q_eq, q_eqS, q_eqB, q_ixT, q_ixK, q_ixL, q_ixS, q_slT, q_slL, q_slS, q_set, q_lenT, q_lenK, q_lenS, q_lenL, q_abs, q_intF, q_max, q_min, q_tupT, q_tupL, q_lstT, q_lstL, q_app, q_ext, q_joinL, q_stw, q_seq, q_lst, q_rng, q_rng2, q_zpT, q_zpL, q_truN, q_truB, q_truI, q_truT, q_truL, t_non, t_bl, t_int, t_str, t_tup, q_isiN, q_isiB, q_isiI, q_isiS, q_isiT, i_NoneType_int, i_NoneType_bool, i_NoneType_tuple, i_NoneType_list, i_NoneType_str, i_bool_int, i_bool_bool, i_bool_tuple, i_bool_list, i_bool_str, i_int_int, i_int_bool, i_int_tuple, i_int_list, i_int_str, i_str_int, i_str_bool, i_str_tuple, i_str_list, i_str_str, i_tuple_int, i_tuple_bool, i_tuple_tuple, i_tuple_list, i_tuple_str, i_list_int, i_list_bool, i_list_tuple, i_list_list, i_list_str, i_dict_int, i_dict_bool, i_dict_tuple, i_dict_list, i_dict_str, up_same, g_02, g_02', g_01, g_11, at_0, at_1, ix_0, ix_1, Option.some.injEq, HQ.lst.injEq, exists_eq_left', exists_eq_left, exists_and_left, exists_eq', exists_eq, decide_eq_true_eq, if_true, if_false, ite_true, ite_false, Bool.false_eq_true, reduceIte, reduceCtorEq, Bool.not_true, Bool.not_false, Nat.zero_add, Nat.reduceAdd, Nat.reduceSub, Nat.reduceLeDiff, Nat.reduceLT, Int.reduceLT, Int.reduceLE, Int.reduceEq, Int.reduceNe, Nat.reduceEqDiff, Int.reduceToNat, Int.reducePow, Int.reduceMul, Int.reduceAdd, Int.reduceSub, Int.reduceNeg, and_true, true_and, decide_true, decide_false, hb, up_same, hn]
  split
  · exact ⟨⟨hn, by omega⟩, k _ _ (Int.emod_nonneg _ (by omega)) (Int.emod_lt_of_pos _ hn) .put⟩
  · exact ⟨cm_r (by decide) (by decide), cm_r (by decide) (by decide), cm_r (by decide) (by decide), ⟨by decide, by decide⟩, k _ _ (Int.emod_nonneg _ (by omega)) (Int.emod_lt_of_pos _ hn) .put⟩

def sp_law_pick : Sq := fun ds S Q _ => ∃ b a xs, ds = [.ref b, .ref a] ∧ Bx S b ∧ a ≠ b ∧ S a = some (.lst xs) ∧ 0 < xs.length ∧ xs.length < 1000000 ∧ ∀ d S', d ∈ xs → Nx b S S' → Q d S'
theorem ln_law_pick : ∀ ds S Q E, sp_law_pick ds S Q E → ds.length = 2 := by rintro _ _ _ _ ⟨b, a, xs, rfl, _⟩; rfl
theorem nx_law_pick : ∀ ds S Q E, sp_law_pick ds S Q E → sp_law_pick ds S Q NoX := fun _ _ _ _ h => h
theorem pick_of {b p : Addr} {xs : List D} {S : Hq} {Q : Qv} (hb : Bx S b) (hp : S p = none) (h0 : 0 < xs.length) (h1 : xs.length < 1000000) (q : ∀ d S', d ∈ xs → Nx b S S' → Q d S') : sp_law_pick [.ref b, .ref p] (up S p (.lst xs)) Q NoX :=
  ⟨b, p, xs, rfl, hb.up hp, hb.ne hp, up_same, h0, h1, fun d S' hd n => q d S' hd ((Nx.new hb hp).trans n)⟩

def rd_law_pick : RSt :=
 (rRet (rBin ixD (rVar 1) (rCall sp_law_take (rCons (rVar 0) (rCons (rFn lenD (rCons (rVar 1) rNil)) rNil)))))

theorem pu_law_pick : ∀ ds S Q, sp_law_pick ds S Q NoX → rd_law_pick { nx := fun _ S => Q .non S, rt := Q } (start' 2 ds) S := by

  rintro _ S Q ⟨b, a, xs, rfl, hb, ne, ha, h0, h1, k⟩
  unfold rd_law_pick
  simp only [rVar, rC, rBin, rUn, rTst, rChn, rTru, rAnd, rOr, rNot, rAndV, rOrV, rNotV, rIf, rNil, rCons, rTup, rLst, rFn, rCall, rCallK, rSl, rPrt, rNoP, rMt, gNm, q_gN, q_gC, q_gTp, gSb, rNext, rSeq, rDrop, rRet, rRetN, rBrk, rCnt, rIfS, rSet, rPar, rFor, iSeq, iLst, iRg1, iRg2, iZp, rLc, rYes, En.x, wipeD, start', List.getElem?_cons_zero, List.getElem?_cons_succ, List.set_cons_zero, List.set_cons_succ, List.map_cons, List.map_nil, List.length_cons, List.length_nil, List.cons_append, List.nil_append, List.replicate_succ, List.replicate_zero, id, q_asB, q_asI, q_add, q_addS, q_addT, q_addL, q_int, q_sub, q_mul, q_fdiv, q_mod, q_pow, q_neg, q_le, q_ge, q_gt, q_lt, q_ltT, q_isN, q_isB, q_isBi, q_isBs, q_isBn, q_isBt, q_isnt, n_non, n_bl, n_int, n_str, n_tup, n_ref, q_eq, q_eqS, q_eqB, q_ixT, q_ixK, q_ixL, q_ixS, q_slT, q_slL, q_slS, q_set, q_lenT, q_lenK, q_lenS, q_lenL, q_abs, q_intF, q_max, q_min, q_tupT, q_tupL, q_lstT, q_lstL, q_app, q_ext, q_joinL, q_stw, q_seq, q_lst, q_rng, q_rng2, q_zpT, q_zpL, q_truN, q_truB, q_truI, q_truT, q_truL, t_non, t_bl, t_int, t_str, t_tup, q_isiN, q_isiB, q_isiI, q_isiS, q_isiT, i_NoneType_int, i_NoneType_bool, i_NoneType_tuple, i_NoneType_list, i_NoneType_str, i_bool_int, i_bool_bool, i_bool_tuple, i_bool_list, i_bool_str, i_int_int, i_int_bool, i_int_tuple, i_int_list, i_int_str, i_str_int, i_str_bool, i_str_tuple, i_str_list, i_str_str, i_tuple_int, i_tuple_bool, i_tuple_tuple, i_tuple_list, i_tuple_str, i_list_int, i_list_bool, i_list_tuple, i_list_list, i_list_str, i_dict_int, i_dict_bool, i_dict_tuple, i_dict_list, i_dict_str, up_same, g_02, g_02', g_01, g_11, at_0, at_1, ix_0, ix_1, Option.some.injEq, HQ.lst.injEq, exists_eq_left', exists_eq_left, exists_and_left, exists_eq', exists_eq, decide_eq_true_eq, if_true, if_false, ite_true, ite_false, Bool.false_eq_true, reduceIte, reduceCtorEq, Bool.not_true, Bool.not_false, Nat.zero_add, Nat.reduceAdd, Nat.reduceSub, Nat.reduceLeDiff, Nat.reduceLT, Int.reduceLT, Int.reduceLE, Int.reduceEq, Int.reduceNe, Nat.reduceEqDiff, Int.reduceToNat, Int.reducePow, Int.reduceMul, Int.reduceAdd, Int.reduceSub, Int.reduceNeg, and_true, true_and, decide_true, decide_false, ha]
  refine take_of hb (by omega) (by omega) fun r S' hr0 hr1 n => ?_
  obtain ⟨d, hd, e, _⟩ := at_in hr0 hr1
  simp only [rVar, rC, rBin, rUn, rTst, rChn, rTru, rAnd, rOr, rNot, rAndV, rOrV, rNotV, rIf, rNil, rCons, rTup, rLst, rFn, rCall, rCallK, rSl, rPrt, rNoP, rMt, gNm, q_gN, q_gC, q_gTp, gSb, rNext, rSeq, rDrop, rRet, rRetN, rBrk, rCnt, rIfS, rSet, rPar, rFor, iSeq, iLst, iRg1, iRg2, iZp, rLc, rYes, En.x, wipeD, start', List.getElem?_cons_zero, List.getElem?_cons_succ, List.set_cons_zero, List.set_cons_succ, List.map_cons, List.map_nil, List.length_cons, List.length_nil, List.cons_append, List.nil_append, List.replicate_succ, List.replicate_zero, id, q_asB, q_asI, q_add, q_addS, q_addT, q_addL, q_int, q_sub, q_mul, q_fdiv, q_mod, q_pow, q_neg, q_le, q_ge, q_gt, q_lt, q_ltT, q_isN, q_isB, q_isBi, q_isBs, q_isBn, q_isBt, q_isnt, n_non, n_bl, n_int, n_str, n_tup, n_ref, q_eq, q_eqS, q_eqB, q_ixT, q_ixK, q_ixL, q_ixS, q_slT, q_slL, q_slS, q_set, q_lenT, q_lenK, q_lenS, q_lenL, q_abs, q_intF, q_max, q_min, q_tupT, q_tupL, q_lstT, q_lstL, q_app, q_ext, q_joinL, q_stw, q_seq, q_lst, q_rng, q_rng2, q_zpT, q_zpL, q_truN, q_truB, q_truI, q_truT, q_truL, t_non, t_bl, t_int, t_str, t_tup, q_isiN, q_isiB, q_isiI, q_isiS, q_isiT, i_NoneType_int, i_NoneType_bool, i_NoneType_tuple, i_NoneType_list, i_NoneType_str, i_bool_int, i_bool_bool, i_bool_tuple, i_bool_list, i_bool_str, i_int_int, i_int_bool, i_int_tuple, i_int_list, i_int_str, i_str_int, i_str_bool, i_str_tuple, i_str_list, i_str_str, i_tuple_int, i_tuple_bool, i_tuple_tuple, i_tuple_list, i_tuple_str, i_list_int, i_list_bool, i_list_tuple, i_list_list, i_list_str, i_dict_int, i_dict_bool, i_dict_tuple, i_dict_list, i_dict_str, up_same, g_02, g_02', g_01, g_11, at_0, at_1, ix_0, ix_1, Option.some.injEq, HQ.lst.injEq, exists_eq_left', exists_eq_left, exists_and_left, exists_eq', exists_eq, decide_eq_true_eq, if_true, if_false, ite_true, ite_false, Bool.false_eq_true, reduceIte, reduceCtorEq, Bool.not_true, Bool.not_false, Nat.zero_add, Nat.reduceAdd, Nat.reduceSub, Nat.reduceLeDiff, Nat.reduceLT, Int.reduceLT, Int.reduceLE, Int.reduceEq, Int.reduceNe, Nat.reduceEqDiff, Int.reduceToNat, Int.reducePow, Int.reduceMul, Int.reduceAdd, Int.reduceSub, Int.reduceNeg, and_true, true_and, decide_true, decide_false, n.get ne ha, e]
  exact k d S' hd n

def sp_law_entry : Sq := fun ds S Q _ => ∃ b, ds = [.ref b] ∧ Bx S b ∧ ∀ i S', Nx b S S' → Q (.int i) S'
theorem ln_law_entry : ∀ ds S Q E, sp_law_entry ds S Q E → ds.length = 1 := by rintro _ _ _ _ ⟨b, rfl, _⟩; rfl
theorem nx_law_entry : ∀ ds S Q E, sp_law_entry ds S Q E → sp_law_entry ds S Q NoX := fun _ _ _ _ h => h
theorem entry_of {b : Addr} {S : Hq} {Q : Qv} (hb : Bx S b) (q : ∀ i S', Nx b S S' → Q (.int i) S') : sp_law_entry [.ref b] S Q NoX := ⟨b, rfl, hb, q⟩

def rd_law_entry : RSt :=
 (rSeq (rSet (rCall sp_law_take (rCons (rVar 0) (rCons (rC (.int 6)) rNil))) (gNm 1))
 (rSeq (rIfS (rTst (rBin ltD (rVar 1) (rC (.int 3))))
 (rRet (rBin subD (rCall sp_law_take (rCons (rVar 0) (rCons (rC (.int 5)) rNil))) (rC (.int 2))))
 rNext)
 (rSeq (rIfS (rTst (rBin ltD (rVar 1) (rC (.int 5))))
 (rRet (rBin subD (rCall sp_law_take (rCons (rVar 0) (rCons (rBin addD (rBin mulD (rC (.int 2)) (rBin powD (rC (.int 10)) (rC (.int 12)))) (rC (.int 1))) rNil))) (rBin powD (rC (.int 10)) (rC (.int 12)))))
 rNext)
 (rRet (rCall sp_law_pick (rCons (rVar 0) (rCons (rLst (rCons (rBin powD (rC (.int 10)) (rC (.int 12))) (rCons (rBin subD (rC (.int 0)) (rBin powD (rC (.int 10)) (rC (.int 12)))) (rCons (rBin subD (rBin powD (rC (.int 10)) (rC (.int 12))) (rC (.int 1))) (rCons (rBin subD (rC (.int 0)) (rC (.int 1))) (rCons (rC (.int 31)) (rCons (rC (.int 32)) rNil))))))) rNil)))))))

theorem pu_law_entry : ∀ ds S Q, sp_law_entry ds S Q NoX → rd_law_entry { nx := fun _ S => Q .non S, rt := Q } (start' 2 ds) S := by

  rintro _ S Q ⟨b, rfl, hb, k⟩
  unfold rd_law_entry
  simp only [rVar, rC, rBin, rUn, rTst, rChn, rTru, rAnd, rOr, rNot, rAndV, rOrV, rNotV, rIf, rNil, rCons, rTup, rLst, rFn, rCall, rCallK, rSl, rPrt, rNoP, rMt, gNm, q_gN, q_gC, q_gTp, gSb, rNext, rSeq, rDrop, rRet, rRetN, rBrk, rCnt, rIfS, rSet, rPar, rFor, iSeq, iLst, iRg1, iRg2, iZp, rLc, rYes, En.x, wipeD, start', List.getElem?_cons_zero, List.getElem?_cons_succ, List.set_cons_zero, List.set_cons_succ, List.map_cons, List.map_nil, List.length_cons, List.length_nil, List.cons_append, List.nil_append, List.replicate_succ, List.replicate_zero, id, q_asB, q_asI, q_add, q_addS, q_addT, q_addL, q_int, q_sub, q_mul, q_fdiv, q_mod, q_pow, q_neg, q_le, q_ge, q_gt, q_lt, q_ltT, q_isN, q_isB, q_isBi, q_isBs, q_isBn, q_isBt, q_isnt, n_non, n_bl, n_int, n_str, n_tup, n_ref, q_eq, q_eqS, q_eqB, q_ixT, q_ixK, q_ixL, q_ixS, q_slT, q_slL, q_slS, q_set, q_lenT, q_lenK, q_lenS, q_lenL, q_abs, q_intF, q_max, q_min, q_tupT, q_tupL, q_lstT, q_lstL, q_app, q_ext, q_joinL, q_stw, q_seq, q_lst, q_rng, q_rng2, q_zpT, q_zpL, q_truN, q_truB, q_truI, q_truT, q_truL, t_non, t_bl, t_int, t_str, t_tup, q_isiN, q_isiB, q_isiI, q_isiS, q_isiT, i_NoneType_int, i_NoneType_bool, i_NoneType_tuple, i_NoneType_list, i_NoneType_str, i_bool_int, i_bool_bool, i_bool_tuple, i_bool_list, i_bool_str, i_int_int, i_int_bool, i_int_tuple, i_int_list, i_int_str, i_str_int, i_str_bool, i_str_tuple, i_str_list, i_str_str, i_tuple_int, i_tuple_bool, i_tuple_tuple, i_tuple_list, i_tuple_str, i_list_int, i_list_bool, i_list_tuple, i_list_list, i_list_str, i_dict_int, i_dict_bool, i_dict_tuple, i_dict_list, i_dict_str, up_same, g_02, g_02', g_01, g_11, at_0, at_1, ix_0, ix_1, Option.some.injEq, HQ.lst.injEq, exists_eq_left', exists_eq_left, exists_and_left, exists_eq', exists_eq, decide_eq_true_eq, if_true, if_false, ite_true, ite_false, Bool.false_eq_true, reduceIte, reduceCtorEq, Bool.not_true, Bool.not_false, Nat.zero_add, Nat.reduceAdd, Nat.reduceSub, Nat.reduceLeDiff, Nat.reduceLT, Int.reduceLT, Int.reduceLE, Int.reduceEq, Int.reduceNe, Nat.reduceEqDiff, Int.reduceToNat, Int.reducePow, Int.reduceMul, Int.reduceAdd, Int.reduceSub, Int.reduceNeg, and_true, true_and, decide_true, decide_false]
  refine take_of hb (by decide) (by decide) fun r S1 _ _ n1 => ?_
  simp only [rVar, rC, rBin, rUn, rTst, rChn, rTru, rAnd, rOr, rNot, rAndV, rOrV, rNotV, rIf, rNil, rCons, rTup, rLst, rFn, rCall, rCallK, rSl, rPrt, rNoP, rMt, gNm, q_gN, q_gC, q_gTp, gSb, rNext, rSeq, rDrop, rRet, rRetN, rBrk, rCnt, rIfS, rSet, rPar, rFor, iSeq, iLst, iRg1, iRg2, iZp, rLc, rYes, En.x, wipeD, start', List.getElem?_cons_zero, List.getElem?_cons_succ, List.set_cons_zero, List.set_cons_succ, List.map_cons, List.map_nil, List.length_cons, List.length_nil, List.cons_append, List.nil_append, List.replicate_succ, List.replicate_zero, id, q_asB, q_asI, q_add, q_addS, q_addT, q_addL, q_int, q_sub, q_mul, q_fdiv, q_mod, q_pow, q_neg, q_le, q_ge, q_gt, q_lt, q_ltT, q_isN, q_isB, q_isBi, q_isBs, q_isBn, q_isBt, q_isnt, n_non, n_bl, n_int, n_str, n_tup, n_ref, q_eq, q_eqS, q_eqB, q_ixT, q_ixK, q_ixL, q_ixS, q_slT, q_slL, q_slS, q_set, q_lenT, q_lenK, q_lenS, q_lenL, q_abs, q_intF, q_max, q_min, q_tupT, q_tupL, q_lstT, q_lstL, q_app, q_ext, q_joinL, q_stw, q_seq, q_lst, q_rng, q_rng2, q_zpT, q_zpL, q_truN, q_truB, q_truI, q_truT, q_truL, t_non, t_bl, t_int, t_str, t_tup, q_isiN, q_isiB, q_isiI, q_isiS, q_isiT, i_NoneType_int, i_NoneType_bool, i_NoneType_tuple, i_NoneType_list, i_NoneType_str, i_bool_int, i_bool_bool, i_bool_tuple, i_bool_list, i_bool_str, i_int_int, i_int_bool, i_int_tuple, i_int_list, i_int_str, i_str_int, i_str_bool, i_str_tuple, i_str_list, i_str_str, i_tuple_int, i_tuple_bool, i_tuple_tuple, i_tuple_list, i_tuple_str, i_list_int, i_list_bool, i_list_tuple, i_list_list, i_list_str, i_dict_int, i_dict_bool, i_dict_tuple, i_dict_list, i_dict_str, up_same, g_02, g_02', g_01, g_11, at_0, at_1, ix_0, ix_1, Option.some.injEq, HQ.lst.injEq, exists_eq_left', exists_eq_left, exists_and_left, exists_eq', exists_eq, decide_eq_true_eq, if_true, if_false, ite_true, ite_false, Bool.false_eq_true, reduceIte, reduceCtorEq, Bool.not_true, Bool.not_false, Nat.zero_add, Nat.reduceAdd, Nat.reduceSub, Nat.reduceLeDiff, Nat.reduceLT, Int.reduceLT, Int.reduceLE, Int.reduceEq, Int.reduceNe, Nat.reduceEqDiff, Int.reduceToNat, Int.reducePow, Int.reduceMul, Int.reduceAdd, Int.reduceSub, Int.reduceNeg, and_true, true_and, decide_true, decide_false]
  split
  · refine take_of n1.bx (by decide) (by decide) fun r S2 _ _ n2 => ?_
    exact k _ _ (n1.trans n2)
  · split
    · refine ⟨⟨by decide, by decide, by decide, by decide⟩, cm_r (by decide) (by decide), take_of n1.bx (by decide) (by decide) fun r S2 _ _ n2 => ?_⟩
      simp only [rVar, rC, rBin, rUn, rTst, rChn, rTru, rAnd, rOr, rNot, rAndV, rOrV, rNotV, rIf, rNil, rCons, rTup, rLst, rFn, rCall, rCallK, rSl, rPrt, rNoP, rMt, gNm, q_gN, q_gC, q_gTp, gSb, rNext, rSeq, rDrop, rRet, rRetN, rBrk, rCnt, rIfS, rSet, rPar, rFor, iSeq, iLst, iRg1, iRg2, iZp, rLc, rYes, En.x, wipeD, start', List.getElem?_cons_zero, List.getElem?_cons_succ, List.set_cons_zero, List.set_cons_succ, List.map_cons, List.map_nil, List.length_cons, List.length_nil, List.cons_append, List.nil_append, List.replicate_succ, List.replicate_zero, id, q_asB, q_asI, q_add, q_addS, q_addT, q_addL, q_int, q_sub, q_mul, q_fdiv, q_mod, q_pow, q_neg, q_le, q_ge, q_gt, q_lt, q_ltT, q_isN, q_isB, q_isBi, q_isBs, q_isBn, q_isBt, q_isnt, n_non, n_bl, n_int, n_str, n_tup, n_ref, q_eq, q_eqS, q_eqB, q_ixT, q_ixK, q_ixL, q_ixS, q_slT, q_slL, q_slS, q_set, q_lenT, q_lenK, q_lenS, q_lenL, q_abs, q_intF, q_max, q_min, q_tupT, q_tupL, q_lstT, q_lstL, q_app, q_ext, q_joinL, q_stw, q_seq, q_lst, q_rng, q_rng2, q_zpT, q_zpL, q_truN, q_truB, q_truI, q_truT, q_truL, t_non, t_bl, t_int, t_str, t_tup, q_isiN, q_isiB, q_isiI, q_isiS, q_isiT, i_NoneType_int, i_NoneType_bool, i_NoneType_tuple, i_NoneType_list, i_NoneType_str, i_bool_int, i_bool_bool, i_bool_tuple, i_bool_list, i_bool_str, i_int_int, i_int_bool, i_int_tuple, i_int_list, i_int_str, i_str_int, i_str_bool, i_str_tuple, i_str_list, i_str_str, i_tuple_int, i_tuple_bool, i_tuple_tuple, i_tuple_list, i_tuple_str, i_list_int, i_list_bool, i_list_tuple, i_list_list, i_list_str, i_dict_int, i_dict_bool, i_dict_tuple, i_dict_list, i_dict_str, up_same, g_02, g_02', g_01, g_11, at_0, at_1, ix_0, ix_1, Option.some.injEq, HQ.lst.injEq, exists_eq_left', exists_eq_left, exists_and_left, exists_eq', exists_eq, decide_eq_true_eq, if_true, if_false, ite_true, ite_false, Bool.false_eq_true, reduceIte, reduceCtorEq, Bool.not_true, Bool.not_false, Nat.zero_add, Nat.reduceAdd, Nat.reduceSub, Nat.reduceLeDiff, Nat.reduceLT, Int.reduceLT, Int.reduceLE, Int.reduceEq, Int.reduceNe, Nat.reduceEqDiff, Int.reduceToNat, Int.reducePow, Int.reduceMul, Int.reduceAdd, Int.reduceSub, Int.reduceNeg, and_true, true_and, decide_true, decide_false]
      exact ⟨⟨by decide, by decide, by decide, by decide⟩, k _ _ (n1.trans n2)⟩
    · (repeat refine And.intro ⟨by decide, by decide, by decide, by decide⟩ ?_)
      intro p hp
      refine pick_of n1.bx hp (by decide) (by decide) fun d S2 hd n2 => ?_
      obtain ⟨i, _, rfl⟩ := mem_ints (l := [_, _, _, _, _, _]) hd
      exact k _ _ (n1.trans n2)

def sp_law_figure : Sq := fun ds S Q _ => ∃ b, ds = [.ref b] ∧ Bx S b ∧ ∀ ns S', Fig ns → Nx b S S' → Q (.tup (ns.map D.int)) S'
theorem ln_law_figure : ∀ ds S Q E, sp_law_figure ds S Q E → ds.length = 1 := by rintro _ _ _ _ ⟨b, rfl, _⟩; rfl
theorem nx_law_figure : ∀ ds S Q E, sp_law_figure ds S Q E → sp_law_figure ds S Q NoX := fun _ _ _ _ h => h
theorem figure_of {b : Addr} {S : Hq} {Q : Qv} (hb : Bx S b) (q : ∀ ns S', Fig ns → Nx b S S' → Q (.tup (ns.map D.int)) S') : sp_law_figure [.ref b] S Q NoX := ⟨b, rfl, hb, q⟩

def rd_law_figure : RSt :=
 (rSeq (rSet (rCall sp_law_pick (rCons (rVar 0) (rCons (rLst (rCons (rC (.int 1)) (rCons (rC (.int 1)) (rCons (rC (.int 1)) (rCons (rC (.int 2)) (rCons (rC (.int 2)) (rCons (rC (.int 3)) (rCons (rC (.int 4)) (rCons (rC (.int 7)) (rCons (rC (.int 9)) (rCons (rC (.int 11)) rNil))))))))))) rNil))) (gNm 1))
 (rSeq (rSet (rLc (iRg1 (rCons (rVar 1) rNil)) (gNm 3) rYes (rCall sp_law_entry (rCons (rVar 0) rNil)) [3]) (gNm 2))
 (rSeq (rSet (rFn absD (rCons (rBin ixD (rVar 2) (rC (.int 0))) rNil)) (gSb (rVar 2) (rC (.int 0))))
 (rRet (rFn tupF (rCons (rBin addD (rVar 2) (rLst (rCons (rCall sp_law_pick (rCons (rVar 0) (rCons (rLst (rCons (rC (.int 0)) (rCons (rC (.int 31)) (rCons (rCall sp_law_take (rCons (rVar 0) (rCons (rC (.int 32)) rNil))) (rCons (rCall sp_law_take (rCons (rVar 0) (rCons (rC (.int 32)) rNil))) rNil))))) rNil))) rNil))) rNil))))))

theorem pu_law_figure : ∀ ds S Q, sp_law_figure ds S Q NoX → rd_law_figure { nx := fun _ S => Q .non S, rt := Q } (start' 4 ds) S := by

  rintro _ S Q ⟨b, rfl, hb, k⟩
  unfold rd_law_figure
  simp only [rVar, rC, rBin, rUn, rTst, rChn, rTru, rAnd, rOr, rNot, rAndV, rOrV, rNotV, rIf, rNil, rCons, rTup, rLst, rFn, rCall, rCallK, rSl, rPrt, rNoP, rMt, gNm, q_gN, q_gC, q_gTp, gSb, rNext, rSeq, rDrop, rRet, rRetN, rBrk, rCnt, rIfS, rSet, rPar, rFor, iSeq, iLst, iRg1, iRg2, iZp, rLc, rYes, En.x, wipeD, start', List.getElem?_cons_zero, List.getElem?_cons_succ, List.set_cons_zero, List.set_cons_succ, List.map_cons, List.map_nil, List.length_cons, List.length_nil, List.cons_append, List.nil_append, List.replicate_succ, List.replicate_zero, id, q_asB, q_asI, q_add, q_addS, q_addT, q_addL, q_int, q_sub, q_mul, q_fdiv, q_mod, q_pow, q_neg, q_le, q_ge, q_gt, q_lt, q_ltT, q_isN, q_isB, q_isBi, q_isBs, q_isBn, q_isBt, q_isnt, n_non, n_bl, n_int, n_str, n_tup, n_ref, q_eq, q_eqS, q_eqB, q_ixT, q_ixK, q_ixL, q_ixS, q_slT, q_slL, q_slS, q_set, q_lenT, q_lenK, q_lenS, q_lenL, q_abs, q_intF, q_max, q_min, q_tupT, q_tupL, q_lstT, q_lstL, q_app, q_ext, q_joinL, q_stw, q_seq, q_lst, q_rng, q_rng2, q_zpT, q_zpL, q_truN, q_truB, q_truI, q_truT, q_truL, t_non, t_bl, t_int, t_str, t_tup, q_isiN, q_isiB, q_isiI, q_isiS, q_isiT, i_NoneType_int, i_NoneType_bool, i_NoneType_tuple, i_NoneType_list, i_NoneType_str, i_bool_int, i_bool_bool, i_bool_tuple, i_bool_list, i_bool_str, i_int_int, i_int_bool, i_int_tuple, i_int_list, i_int_str, i_str_int, i_str_bool, i_str_tuple, i_str_list, i_str_str, i_tuple_int, i_tuple_bool, i_tuple_tuple, i_tuple_list, i_tuple_str, i_list_int, i_list_bool, i_list_tuple, i_list_list, i_list_str, i_dict_int, i_dict_bool, i_dict_tuple, i_dict_list, i_dict_str, up_same, g_02, g_02', g_01, g_11, at_0, at_1, ix_0, ix_1, Option.some.injEq, HQ.lst.injEq, exists_eq_left', exists_eq_left, exists_and_left, exists_eq', exists_eq, decide_eq_true_eq, if_true, if_false, ite_true, ite_false, Bool.false_eq_true, reduceIte, reduceCtorEq, Bool.not_true, Bool.not_false, Nat.zero_add, Nat.reduceAdd, Nat.reduceSub, Nat.reduceLeDiff, Nat.reduceLT, Int.reduceLT, Int.reduceLE, Int.reduceEq, Int.reduceNe, Nat.reduceEqDiff, Int.reduceToNat, Int.reducePow, Int.reduceMul, Int.reduceAdd, Int.reduceSub, Int.reduceNeg, and_true, true_and, decide_true, decide_false]
  intro p hp
  refine pick_of hb hp (by decide) (by decide) fun d S1 hd n1 => ?_
  obtain ⟨many, hm, rfl⟩ := mem_ints (l := [_, _, _, _, _, _, _, _, _, _]) hd
  have hm' : 1 ≤ many ∧ many ≤ 11 := by
    have : ∀ i ∈ ([1, 1, 1, 2, 2, 3, 4, 7, 9, 11] : List Int), 1 ≤ i ∧ i ≤ 11 := by decide
    exact this many hm
  simp only [rVar, rC, rBin, rUn, rTst, rChn, rTru, rAnd, rOr, rNot, rAndV, rOrV, rNotV, rIf, rNil, rCons, rTup, rLst, rFn, rCall, rCallK, rSl, rPrt, rNoP, rMt, gNm, q_gN, q_gC, q_gTp, gSb, rNext, rSeq, rDrop, rRet, rRetN, rBrk, rCnt, rIfS, rSet, rPar, rFor, iSeq, iLst, iRg1, iRg2, iZp, rLc, rYes, En.x, wipeD, start', List.getElem?_cons_zero, List.getElem?_cons_succ, List.set_cons_zero, List.set_cons_succ, List.map_cons, List.map_nil, List.length_cons, List.length_nil, List.cons_append, List.nil_append, List.replicate_succ, List.replicate_zero, id, q_asB, q_asI, q_add, q_addS, q_addT, q_addL, q_int, q_sub, q_mul, q_fdiv, q_mod, q_pow, q_neg, q_le, q_ge, q_gt, q_lt, q_ltT, q_isN, q_isB, q_isBi, q_isBs, q_isBn, q_isBt, q_isnt, n_non, n_bl, n_int, n_str, n_tup, n_ref, q_eq, q_eqS, q_eqB, q_ixT, q_ixK, q_ixL, q_ixS, q_slT, q_slL, q_slS, q_set, q_lenT, q_lenK, q_lenS, q_lenL, q_abs, q_intF, q_max, q_min, q_tupT, q_tupL, q_lstT, q_lstL, q_app, q_ext, q_joinL, q_stw, q_seq, q_lst, q_rng, q_rng2, q_zpT, q_zpL, q_truN, q_truB, q_truI, q_truT, q_truL, t_non, t_bl, t_int, t_str, t_tup, q_isiN, q_isiB, q_isiI, q_isiS, q_isiT, i_NoneType_int, i_NoneType_bool, i_NoneType_tuple, i_NoneType_list, i_NoneType_str, i_bool_int, i_bool_bool, i_bool_tuple, i_bool_list, i_bool_str, i_int_int, i_int_bool, i_int_tuple, i_int_list, i_int_str, i_str_int, i_str_bool, i_str_tuple, i_str_list, i_str_str, i_tuple_int, i_tuple_bool, i_tuple_tuple, i_tuple_list, i_tuple_str, i_list_int, i_list_bool, i_list_tuple, i_list_list, i_list_str, i_dict_int, i_dict_bool, i_dict_tuple, i_dict_list, i_dict_str, up_same, g_02, g_02', g_01, g_11, at_0, at_1, ix_0, ix_1, Option.some.injEq, HQ.lst.injEq, exists_eq_left', exists_eq_left, exists_and_left, exists_eq', exists_eq, decide_eq_true_eq, if_true, if_false, ite_true, ite_false, Bool.false_eq_true, reduceIte, reduceCtorEq, Bool.not_true, Bool.not_false, Nat.zero_add, Nat.reduceAdd, Nat.reduceSub, Nat.reduceLeDiff, Nat.reduceLT, Int.reduceLT, Int.reduceLE, Int.reduceEq, Int.reduceNe, Nat.reduceEqDiff, Int.reduceToNat, Int.reducePow, Int.reduceMul, Int.reduceAdd, Int.reduceSub, Int.reduceNeg, and_true, true_and, decide_true, decide_false]
  refine ⟨⟨by omega, by omega⟩, ?_⟩
  refine lc_draw (fun S' => Nx b S1 S') (fun d => ∃ i, d = .int i) (fun _ _ => trivial) _ _ _ (fun x _ S' Q' hi q => ?_) (by rw [rangeD_len]; simp; omega) (by simp) (Nx.refl n1.bx) (fun acc S2 hl ha n2 => ?_)
  · simp only [rVar, rC, rBin, rUn, rTst, rChn, rTru, rAnd, rOr, rNot, rAndV, rOrV, rNotV, rIf, rNil, rCons, rTup, rLst, rFn, rCall, rCallK, rSl, rPrt, rNoP, rMt, gNm, q_gN, q_gC, q_gTp, gSb, rNext, rSeq, rDrop, rRet, rRetN, rBrk, rCnt, rIfS, rSet, rPar, rFor, iSeq, iLst, iRg1, iRg2, iZp, rLc, rYes, En.x, wipeD, start', List.getElem?_cons_zero, List.getElem?_cons_succ, List.set_cons_zero, List.set_cons_succ, List.map_cons, List.map_nil, List.length_cons, List.length_nil, List.cons_append, List.nil_append, List.replicate_succ, List.replicate_zero, id, q_asB, q_asI, q_add, q_addS, q_addT, q_addL, q_int, q_sub, q_mul, q_fdiv, q_mod, q_pow, q_neg, q_le, q_ge, q_gt, q_lt, q_ltT, q_isN, q_isB, q_isBi, q_isBs, q_isBn, q_isBt, q_isnt, n_non, n_bl, n_int, n_str, n_tup, n_ref, q_eq, q_eqS, q_eqB, q_ixT, q_ixK, q_ixL, q_ixS, q_slT, q_slL, q_slS, q_set, q_lenT, q_lenK, q_lenS, q_lenL, q_abs, q_intF, q_max, q_min, q_tupT, q_tupL, q_lstT, q_lstL, q_app, q_ext, q_joinL, q_stw, q_seq, q_lst, q_rng, q_rng2, q_zpT, q_zpL, q_truN, q_truB, q_truI, q_truT, q_truL, t_non, t_bl, t_int, t_str, t_tup, q_isiN, q_isiB, q_isiI, q_isiS, q_isiT, i_NoneType_int, i_NoneType_bool, i_NoneType_tuple, i_NoneType_list, i_NoneType_str, i_bool_int, i_bool_bool, i_bool_tuple, i_bool_list, i_bool_str, i_int_int, i_int_bool, i_int_tuple, i_int_list, i_int_str, i_str_int, i_str_bool, i_str_tuple, i_str_list, i_str_str, i_tuple_int, i_tuple_bool, i_tuple_tuple, i_tuple_list, i_tuple_str, i_list_int, i_list_bool, i_list_tuple, i_list_list, i_list_str, i_dict_int, i_dict_bool, i_dict_tuple, i_dict_list, i_dict_str, up_same, g_02, g_02', g_01, g_11, at_0, at_1, ix_0, ix_1, Option.some.injEq, HQ.lst.injEq, exists_eq_left', exists_eq_left, exists_and_left, exists_eq', exists_eq, decide_eq_true_eq, if_true, if_false, ite_true, ite_false, Bool.false_eq_true, reduceIte, reduceCtorEq, Bool.not_true, Bool.not_false, Nat.zero_add, Nat.reduceAdd, Nat.reduceSub, Nat.reduceLeDiff, Nat.reduceLT, Int.reduceLT, Int.reduceLE, Int.reduceEq, Int.reduceNe, Nat.reduceEqDiff, Int.reduceToNat, Int.reducePow, Int.reduceMul, Int.reduceAdd, Int.reduceSub, Int.reduceNeg, and_true, true_and, decide_true, decide_false]
    refine entry_of hi.bx fun i S'' n => q _ _ ⟨i, rfl⟩ (hi.trans n)
  · rw [rangeD_len] at hl
    obtain ⟨is, rfl⟩ := ints_of ha
    rw [List.length_map] at hl
    simp only [List.length_nil] at hl
    cases is with
    | nil => simp at hl; omega
    | cons i0 is =>
      intro c hc
      simp only [rVar, rC, rBin, rUn, rTst, rChn, rTru, rAnd, rOr, rNot, rAndV, rOrV, rNotV, rIf, rNil, rCons, rTup, rLst, rFn, rCall, rCallK, rSl, rPrt, rNoP, rMt, gNm, q_gN, q_gC, q_gTp, gSb, rNext, rSeq, rDrop, rRet, rRetN, rBrk, rCnt, rIfS, rSet, rPar, rFor, iSeq, iLst, iRg1, iRg2, iZp, rLc, rYes, En.x, wipeD, start', List.getElem?_cons_zero, List.getElem?_cons_succ, List.set_cons_zero, List.set_cons_succ, List.map_cons, List.map_nil, List.length_cons, List.length_nil, List.cons_append, List.nil_append, List.replicate_succ, List.replicate_zero, id, q_asB, q_asI, q_add, q_addS, q_addT, q_addL, q_int, q_sub, q_mul, q_fdiv, q_mod, q_pow, q_neg, q_le, q_ge, q_gt, q_lt, q_ltT, q_isN, q_isB, q_isBi, q_isBs, q_isBn, q_isBt, q_isnt, n_non, n_bl, n_int, n_str, n_tup, n_ref, q_eq, q_eqS, q_eqB, q_ixT, q_ixK, q_ixL, q_ixS, q_slT, q_slL, q_slS, q_set, q_lenT, q_lenK, q_lenS, q_lenL, q_abs, q_intF, q_max, q_min, q_tupT, q_tupL, q_lstT, q_lstL, q_app, q_ext, q_joinL, q_stw, q_seq, q_lst, q_rng, q_rng2, q_zpT, q_zpL, q_truN, q_truB, q_truI, q_truT, q_truL, t_non, t_bl, t_int, t_str, t_tup, q_isiN, q_isiB, q_isiI, q_isiS, q_isiT, i_NoneType_int, i_NoneType_bool, i_NoneType_tuple, i_NoneType_list, i_NoneType_str, i_bool_int, i_bool_bool, i_bool_tuple, i_bool_list, i_bool_str, i_int_int, i_int_bool, i_int_tuple, i_int_list, i_int_str, i_str_int, i_str_bool, i_str_tuple, i_str_list, i_str_str, i_tuple_int, i_tuple_bool, i_tuple_tuple, i_tuple_list, i_tuple_str, i_list_int, i_list_bool, i_list_tuple, i_list_list, i_list_str, i_dict_int, i_dict_bool, i_dict_tuple, i_dict_list, i_dict_str, up_same, g_02, g_02', g_01, g_11, at_0, at_1, ix_0, ix_1, Option.some.injEq, HQ.lst.injEq, exists_eq_left', exists_eq_left, exists_and_left, exists_eq', exists_eq, decide_eq_true_eq, if_true, if_false, ite_true, ite_false, Bool.false_eq_true, reduceIte, reduceCtorEq, Bool.not_true, Bool.not_false, Nat.zero_add, Nat.reduceAdd, Nat.reduceSub, Nat.reduceLeDiff, Nat.reduceLT, Int.reduceLT, Int.reduceLE, Int.reduceEq, Int.reduceNe, Nat.reduceEqDiff, Int.reduceToNat, Int.reducePow, Int.reduceMul, Int.reduceAdd, Int.reduceSub, Int.reduceNeg, and_true, true_and, decide_true, decide_false, up_same]
      have hcb : c ≠ b := n2.bx.ne hc
      rw [up_up]
      have hc0 : up S2 c (.lst (D.int (if i0 < 0 then -i0 else i0) :: List.map D.int is)) c = some (.lst (D.int (if i0 < 0 then -i0 else i0) :: List.map D.int is)) := up_same
      have hb0 : Nx b S2 (up S2 c (.lst (D.int (if i0 < 0 then -i0 else i0) :: List.map D.int is))) := Nx.new n2.bx hc
      refine take_of hb0.bx (by decide) (by decide) fun r1 S3 h1 h1' n3 => ?_
      refine take_of n3.bx (by decide) (by decide) fun r2 S4 h2 h2' n4 => ?_
      intro q hq
      refine pick_of n4.bx hq (by simp) (by simp) fun d S5 hd5 n5 => ?_
      obtain ⟨l, hl5, rfl⟩ := mem_ints (l := [_, _, _, _]) hd5
      have hlast : 0 ≤ l ∧ l < 32 := by
        simp only [List.mem_cons, List.not_mem_nil, or_false] at hl5
        rcases hl5 with rfl | rfl | rfl | rfl <;> omega
      have hc5 : S5 c = some (.lst (D.int (if i0 < 0 then -i0 else i0) :: List.map D.int is)) := by (repeat (first | assumption | exact up_same | refine up_get (by assumption) ?_ | refine Nx.get (by assumption) (by assumption) ?_))
      intro u hu
      refine ⟨_, by (repeat (first | assumption | exact up_same | refine up_get (by assumption) ?_ | refine Nx.get (by assumption) (by assumption) ?_)), by simp at hl ⊢; omega, fun v hv => ?_⟩
      have e : ((D.int (if i0 < 0 then -i0 else i0) :: List.map D.int is) ++ [D.int l]) = List.map D.int ((if i0 < 0 then -i0 else i0) :: (is ++ [l])) := by simp
      have k2 := k ((if i0 < 0 then -i0 else i0) :: (is ++ [l])) (up (up S5 u (.lst [D.int l])) v (.lst ((D.int (if i0 < 0 then -i0 else i0) :: List.map D.int is) ++ [D.int l]))) ⟨_, is, l, rfl, by split <;> omega, hlast.1, hlast.2, by simp at hl; omega⟩
        ((((((n1.trans n2).trans hb0).trans n3).trans n4).trans n5).trans ((Nx.new n5.bx hu).trans (Nx.new (n5.bx.up hu) hv)))
      rw [← e] at k2
      exact k2


def sp_law_beside : Sq := fun ds S Q _ => ∃ b ns, ds = [.ref b, .tup (ns.map D.int)] ∧ Fig ns ∧ Bx S b ∧ ∀ ms S', Fig ms → Nx b S S' → Q (.tup (ms.map D.int)) S'
theorem ln_law_beside : ∀ ds S Q E, sp_law_beside ds S Q E → ds.length = 2 := by rintro _ _ _ _ ⟨b, n, rfl, _⟩; rfl
theorem nx_law_beside : ∀ ds S Q E, sp_law_beside ds S Q E → sp_law_beside ds S Q NoX := fun _ _ _ _ h => h
theorem beside_of {b : Addr} {ns : List Int} {S : Hq} {Q : Qv} (hf : Fig ns) (hb : Bx S b) (q : ∀ ns S', Fig ns → Nx b S S' → Q (.tup (ns.map D.int)) S') : sp_law_beside [.ref b, .tup (ns.map D.int)] S Q NoX := ⟨b, ns, rfl, hf, hb, q⟩

def rd_law_beside : RSt :=
 (rSeq (rSet (rCall sp_law_take (rCons (rVar 0) (rCons (rC (.int 6)) rNil))) (gNm 2))
 (rSeq (rSet (rFn lstF (rCons (rVar 1) rNil)) (gNm 3))
 (rSeq (rIfS (rTst (rBin (eqD id) (rVar 2) (rC (.int 0))))
 (rRet (rFn tupF (rCons (rVar 3) rNil)))
 rNext)
 (rSeq (rIfS (rTst (rBin (eqD id) (rVar 2) (rC (.int 1))))
 (rRet (rFn tupF (rCons (rBin addD (rBin addD (rSl (rVar 3) rNoP (rPrt (rC (.int 11)))) (rLc (iRg1 (rCons (rCall sp_law_take (rCons (rVar 0) (rCons (rC (.int 3)) rNil))) rNil)) (gNm 5) rYes (rCall sp_law_entry (rCons (rVar 0) rNil)) [5])) (rLst (rCons (rCall sp_law_take (rCons (rVar 0) (rCons (rC (.int 32)) rNil))) rNil))) rNil)))
 rNext)
 (rSeq (rIfS (rTst (rBin (eqD id) (rVar 2) (rC (.int 2))))
 (rSeq (rSet (rCall sp_law_take (rCons (rVar 0) (rCons (rBin subD (rFn lenD (rCons (rVar 3) rNil)) (rC (.int 1))) rNil))) (gNm 4))
 (rSeq (rSet (rFn maxD (rCons (rIf (rTst (rBin (eqD id) (rVar 4) (rC (.int 0)))) (rC (.int 0)) (rBin subD (rC (.int 0)) (rBin powD (rC (.int 10)) (rC (.int 12))))) (rCons (rBin addD (rBin ixD (rVar 3) (rVar 4)) (rCall sp_law_pick (rCons (rVar 0) (rCons (rLst (rCons (rBin subD (rC (.int 0)) (rC (.int 1))) (rCons (rC (.int 1)) rNil))) rNil)))) rNil))) (gSb (rVar 3) (rVar 4)))
 (rRet (rFn tupF (rCons (rVar 3) rNil)))))
 rNext)
 (rSeq (rIfS (rTst (rBin (eqD id) (rVar 2) (rC (.int 3))))
 (rRet (rFn tupF (rCons (rBin addD (rSl (rVar 3) rNoP (rPrt (rBin subD (rFn lenD (rCons (rVar 3) rNil)) (rC (.int 1))))) (rLst (rCons (rCall sp_law_take (rCons (rVar 0) (rCons (rC (.int 32)) rNil))) rNil))) rNil)))
 rNext)
 (rSeq (rIfS (rTst (rBin (eqD id) (rVar 2) (rC (.int 4))))
 (rRet (rFn tupF (rCons (rBin addD (rSl (rVar 3) rNoP (rPrt (rBin addD (rC (.int 1)) (rCall sp_law_take (rCons (rVar 0) (rCons (rBin subD (rFn lenD (rCons (rVar 3) rNil)) (rC (.int 1))) rNil)))))) (rLst (rCons (rCall sp_law_take (rCons (rVar 0) (rCons (rC (.int 32)) rNil))) rNil))) rNil)))
 rNext)
 (rRet (rCall sp_law_figure (rCons (rVar 0) rNil))))))))))

theorem pu_law_beside : ∀ ds S Q, sp_law_beside ds S Q NoX → rd_law_beside { nx := fun _ S => Q .non S, rt := Q } (start' 6 ds) S := by

  rintro _ S Q ⟨b, ns, rfl, hf, hb, k⟩
  obtain ⟨h, m, l, hN, hh, hl0, hl1, hm⟩ := id hf
  have hlen : (ns.length : Int) = m.length + 2 := by rw [hN]; simp; omega
  unfold rd_law_beside
  simp only [rVar, rC, rBin, rUn, rTst, rChn, rTru, rAnd, rOr, rNot, rAndV, rOrV, rNotV, rIf, rNil, rCons, rTup, rLst, rFn, rCall, rCallK, rSl, rPrt, rNoP, rMt, gNm, q_gN, q_gC, q_gTp, gSb, rNext, rSeq, rDrop, rRet, rRetN, rBrk, rCnt, rIfS, rSet, rPar, rFor, iSeq, iLst, iRg1, iRg2, iZp, rLc, rYes, En.x, wipeD, start', List.getElem?_cons_zero, List.getElem?_cons_succ, List.set_cons_zero, List.set_cons_succ, List.map_cons, List.map_nil, List.length_cons, List.length_nil, List.cons_append, List.nil_append, List.replicate_succ, List.replicate_zero, id, q_asB, q_asI, q_add, q_addS, q_addT, q_addL, q_int, q_sub, q_mul, q_fdiv, q_mod, q_pow, q_neg, q_le, q_ge, q_gt, q_lt, q_ltT, q_isN, q_isB, q_isBi, q_isBs, q_isBn, q_isBt, q_isnt, n_non, n_bl, n_int, n_str, n_tup, n_ref, q_eq, q_eqS, q_eqB, q_ixT, q_ixK, q_ixL, q_ixS, q_slT, q_slL, q_slS, q_set, q_lenT, q_lenK, q_lenS, q_lenL, q_abs, q_intF, q_max, q_min, q_tupT, q_tupL, q_lstT, q_lstL, q_app, q_ext, q_joinL, q_stw, q_seq, q_lst, q_rng, q_rng2, q_zpT, q_zpL, q_truN, q_truB, q_truI, q_truT, q_truL, t_non, t_bl, t_int, t_str, t_tup, q_isiN, q_isiB, q_isiI, q_isiS, q_isiT, i_NoneType_int, i_NoneType_bool, i_NoneType_tuple, i_NoneType_list, i_NoneType_str, i_bool_int, i_bool_bool, i_bool_tuple, i_bool_list, i_bool_str, i_int_int, i_int_bool, i_int_tuple, i_int_list, i_int_str, i_str_int, i_str_bool, i_str_tuple, i_str_list, i_str_str, i_tuple_int, i_tuple_bool, i_tuple_tuple, i_tuple_list, i_tuple_str, i_list_int, i_list_bool, i_list_tuple, i_list_list, i_list_str, i_dict_int, i_dict_bool, i_dict_tuple, i_dict_list, i_dict_str, up_same, g_02, g_02', g_01, g_11, at_0, at_1, ix_0, ix_1, Option.some.injEq, HQ.lst.injEq, exists_eq_left', exists_eq_left, exists_and_left, exists_eq', exists_eq, decide_eq_true_eq, if_true, if_false, ite_true, ite_false, Bool.false_eq_true, reduceIte, reduceCtorEq, Bool.not_true, Bool.not_false, Nat.zero_add, Nat.reduceAdd, Nat.reduceSub, Nat.reduceLeDiff, Nat.reduceLT, Int.reduceLT, Int.reduceLE, Int.reduceEq, Int.reduceNe, Nat.reduceEqDiff, Int.reduceToNat, Int.reducePow, Int.reduceMul, Int.reduceAdd, Int.reduceSub, Int.reduceNeg, and_true, true_and, decide_true, decide_false]
  refine take_of hb (by decide) (by decide) fun way S1 hw0 hw1 n1 => ?_
  intro c hc
  have hcb : c ≠ b := n1.bx.ne hc
  have n2 : Nx b S (up S1 c (.lst (List.map D.int ns))) := n1.trans (Nx.new n1.bx hc)
  have hc2 : up S1 c (.lst (List.map D.int ns)) c = some (.lst (List.map D.int ns)) := up_same
  generalize up S1 c (.lst (List.map D.int ns)) = S2 at n2 hc2 ⊢
  have tail : ∀ (S3 : Hq) (p : Addr) (h' : Int) (m' : List Int), Nx b S S3 → p ≠ b → S3 p = some (.lst (List.map D.int (h' :: m'))) → 0 ≤ h' → m'.length ≤ 13 →
      sp_law_take [.ref b, .int 32] S3 (fun x S1 => ∀ p_1, S1 p_1 = none → ∃ xs, up S1 p_1 (.lst [x]) p = some (.lst xs) ∧ xs.length ≤ 999999 ∧
        ∀ p_2, up S1 p_1 (.lst [x]) p_2 = none → Q (.tup (xs ++ [x])) (up (up S1 p_1 (.lst [x])) p_2 (.lst (xs ++ [x])))) NoX := by
    intro S3 p h' m' n3 hpb hp3 hh' hm'
    refine take_of n3.bx (by decide) (by decide) fun z S5 hz0 hz1 n4 => ?_
    intro w hw
    refine ⟨_, up_get hw (n4.get hpb hp3), by simp; omega, fun x hx => ?_⟩
    have n5 := n3.trans n4
    have n6 := n5.trans (Nx.new (q := .lst [D.int z]) n5.bx hw)
    have k2 := k (h' :: (m' ++ [z])) _ ⟨_, m', z, rfl, hh', hz0, hz1, hm'⟩ (n6.trans (Nx.new (q := .lst (List.map D.int (h' :: m') ++ [D.int z])) n6.bx hx))
    have e : List.map D.int (h' :: (m' ++ [z])) = List.map D.int (h' :: m') ++ [D.int z] := by simp
    rw [e] at k2
    exact k2
  by_cases c0 : way = 0
  · simp only [rVar, rC, rBin, rUn, rTst, rChn, rTru, rAnd, rOr, rNot, rAndV, rOrV, rNotV, rIf, rNil, rCons, rTup, rLst, rFn, rCall, rCallK, rSl, rPrt, rNoP, rMt, gNm, q_gN, q_gC, q_gTp, gSb, rNext, rSeq, rDrop, rRet, rRetN, rBrk, rCnt, rIfS, rSet, rPar, rFor, iSeq, iLst, iRg1, iRg2, iZp, rLc, rYes, En.x, wipeD, start', List.getElem?_cons_zero, List.getElem?_cons_succ, List.set_cons_zero, List.set_cons_succ, List.map_cons, List.map_nil, List.length_cons, List.length_nil, List.cons_append, List.nil_append, List.replicate_succ, List.replicate_zero, id, q_asB, q_asI, q_add, q_addS, q_addT, q_addL, q_int, q_sub, q_mul, q_fdiv, q_mod, q_pow, q_neg, q_le, q_ge, q_gt, q_lt, q_ltT, q_isN, q_isB, q_isBi, q_isBs, q_isBn, q_isBt, q_isnt, n_non, n_bl, n_int, n_str, n_tup, n_ref, q_eq, q_eqS, q_eqB, q_ixT, q_ixK, q_ixL, q_ixS, q_slT, q_slL, q_slS, q_set, q_lenT, q_lenK, q_lenS, q_lenL, q_abs, q_intF, q_max, q_min, q_tupT, q_tupL, q_lstT, q_lstL, q_app, q_ext, q_joinL, q_stw, q_seq, q_lst, q_rng, q_rng2, q_zpT, q_zpL, q_truN, q_truB, q_truI, q_truT, q_truL, t_non, t_bl, t_int, t_str, t_tup, q_isiN, q_isiB, q_isiI, q_isiS, q_isiT, i_NoneType_int, i_NoneType_bool, i_NoneType_tuple, i_NoneType_list, i_NoneType_str, i_bool_int, i_bool_bool, i_bool_tuple, i_bool_list, i_bool_str, i_int_int, i_int_bool, i_int_tuple, i_int_list, i_int_str, i_str_int, i_str_bool, i_str_tuple, i_str_list, i_str_str, i_tuple_int, i_tuple_bool, i_tuple_tuple, i_tuple_list, i_tuple_str, i_list_int, i_list_bool, i_list_tuple, i_list_list, i_list_str, i_dict_int, i_dict_bool, i_dict_tuple, i_dict_list, i_dict_str, up_same, g_02, g_02', g_01, g_11, at_0, at_1, ix_0, ix_1, Option.some.injEq, HQ.lst.injEq, exists_eq_left', exists_eq_left, exists_and_left, exists_eq', exists_eq, decide_eq_true_eq, if_true, if_false, ite_true, ite_false, Bool.false_eq_true, reduceIte, reduceCtorEq, Bool.not_true, Bool.not_false, Nat.zero_add, Nat.reduceAdd, Nat.reduceSub, Nat.reduceLeDiff, Nat.reduceLT, Int.reduceLT, Int.reduceLE, Int.reduceEq, Int.reduceNe, Nat.reduceEqDiff, Int.reduceToNat, Int.reducePow, Int.reduceMul, Int.reduceAdd, Int.reduceSub, Int.reduceNeg, and_true, true_and, decide_true, decide_false, c0, hc2]
    exact k _ _ hf n2
  by_cases c1 : way = 1
  · simp only [rVar, rC, rBin, rUn, rTst, rChn, rTru, rAnd, rOr, rNot, rAndV, rOrV, rNotV, rIf, rNil, rCons, rTup, rLst, rFn, rCall, rCallK, rSl, rPrt, rNoP, rMt, gNm, q_gN, q_gC, q_gTp, gSb, rNext, rSeq, rDrop, rRet, rRetN, rBrk, rCnt, rIfS, rSet, rPar, rFor, iSeq, iLst, iRg1, iRg2, iZp, rLc, rYes, En.x, wipeD, start', List.getElem?_cons_zero, List.getElem?_cons_succ, List.set_cons_zero, List.set_cons_succ, List.map_cons, List.map_nil, List.length_cons, List.length_nil, List.cons_append, List.nil_append, List.replicate_succ, List.replicate_zero, id, q_asB, q_asI, q_add, q_addS, q_addT, q_addL, q_int, q_sub, q_mul, q_fdiv, q_mod, q_pow, q_neg, q_le, q_ge, q_gt, q_lt, q_ltT, q_isN, q_isB, q_isBi, q_isBs, q_isBn, q_isBt, q_isnt, n_non, n_bl, n_int, n_str, n_tup, n_ref, q_eq, q_eqS, q_eqB, q_ixT, q_ixK, q_ixL, q_ixS, q_slT, q_slL, q_slS, q_set, q_lenT, q_lenK, q_lenS, q_lenL, q_abs, q_intF, q_max, q_min, q_tupT, q_tupL, q_lstT, q_lstL, q_app, q_ext, q_joinL, q_stw, q_seq, q_lst, q_rng, q_rng2, q_zpT, q_zpL, q_truN, q_truB, q_truI, q_truT, q_truL, t_non, t_bl, t_int, t_str, t_tup, q_isiN, q_isiB, q_isiI, q_isiS, q_isiT, i_NoneType_int, i_NoneType_bool, i_NoneType_tuple, i_NoneType_list, i_NoneType_str, i_bool_int, i_bool_bool, i_bool_tuple, i_bool_list, i_bool_str, i_int_int, i_int_bool, i_int_tuple, i_int_list, i_int_str, i_str_int, i_str_bool, i_str_tuple, i_str_list, i_str_str, i_tuple_int, i_tuple_bool, i_tuple_tuple, i_tuple_list, i_tuple_str, i_list_int, i_list_bool, i_list_tuple, i_list_list, i_list_str, i_dict_int, i_dict_bool, i_dict_tuple, i_dict_list, i_dict_str, up_same, g_02, g_02', g_01, g_11, at_0, at_1, ix_0, ix_1, Option.some.injEq, HQ.lst.injEq, exists_eq_left', exists_eq_left, exists_and_left, exists_eq', exists_eq, decide_eq_true_eq, if_true, if_false, ite_true, ite_false, Bool.false_eq_true, reduceIte, reduceCtorEq, Bool.not_true, Bool.not_false, Nat.zero_add, Nat.reduceAdd, Nat.reduceSub, Nat.reduceLeDiff, Nat.reduceLT, Int.reduceLT, Int.reduceLE, Int.reduceEq, Int.reduceNe, Nat.reduceEqDiff, Int.reduceToNat, Int.reducePow, Int.reduceMul, Int.reduceAdd, Int.reduceSub, Int.reduceNeg, and_true, true_and, decide_true, decide_false, c1, hc2, up_same]
    intro p hp
    have n3 := n2.trans (Nx.new (q := .lst (cutL (List.map D.int ns) none (some 11))) n2.bx hp)
    refine take_of n3.bx (by decide) (by decide) fun r S3 hr0 hr1 n4 => ?_
    simp only [rVar, rC, rBin, rUn, rTst, rChn, rTru, rAnd, rOr, rNot, rAndV, rOrV, rNotV, rIf, rNil, rCons, rTup, rLst, rFn, rCall, rCallK, rSl, rPrt, rNoP, rMt, gNm, q_gN, q_gC, q_gTp, gSb, rNext, rSeq, rDrop, rRet, rRetN, rBrk, rCnt, rIfS, rSet, rPar, rFor, iSeq, iLst, iRg1, iRg2, iZp, rLc, rYes, En.x, wipeD, start', List.getElem?_cons_zero, List.getElem?_cons_succ, List.set_cons_zero, List.set_cons_succ, List.map_cons, List.map_nil, List.length_cons, List.length_nil, List.cons_append, List.nil_append, List.replicate_succ, List.replicate_zero, id, q_asB, q_asI, q_add, q_addS, q_addT, q_addL, q_int, q_sub, q_mul, q_fdiv, q_mod, q_pow, q_neg, q_le, q_ge, q_gt, q_lt, q_ltT, q_isN, q_isB, q_isBi, q_isBs, q_isBn, q_isBt, q_isnt, n_non, n_bl, n_int, n_str, n_tup, n_ref, q_eq, q_eqS, q_eqB, q_ixT, q_ixK, q_ixL, q_ixS, q_slT, q_slL, q_slS, q_set, q_lenT, q_lenK, q_lenS, q_lenL, q_abs, q_intF, q_max, q_min, q_tupT, q_tupL, q_lstT, q_lstL, q_app, q_ext, q_joinL, q_stw, q_seq, q_lst, q_rng, q_rng2, q_zpT, q_zpL, q_truN, q_truB, q_truI, q_truT, q_truL, t_non, t_bl, t_int, t_str, t_tup, q_isiN, q_isiB, q_isiI, q_isiS, q_isiT, i_NoneType_int, i_NoneType_bool, i_NoneType_tuple, i_NoneType_list, i_NoneType_str, i_bool_int, i_bool_bool, i_bool_tuple, i_bool_list, i_bool_str, i_int_int, i_int_bool, i_int_tuple, i_int_list, i_int_str, i_str_int, i_str_bool, i_str_tuple, i_str_list, i_str_str, i_tuple_int, i_tuple_bool, i_tuple_tuple, i_tuple_list, i_tuple_str, i_list_int, i_list_bool, i_list_tuple, i_list_list, i_list_str, i_dict_int, i_dict_bool, i_dict_tuple, i_dict_list, i_dict_str, up_same, g_02, g_02', g_01, g_11, at_0, at_1, ix_0, ix_1, Option.some.injEq, HQ.lst.injEq, exists_eq_left', exists_eq_left, exists_and_left, exists_eq', exists_eq, decide_eq_true_eq, if_true, if_false, ite_true, ite_false, Bool.false_eq_true, reduceIte, reduceCtorEq, Bool.not_true, Bool.not_false, Nat.zero_add, Nat.reduceAdd, Nat.reduceSub, Nat.reduceLeDiff, Nat.reduceLT, Int.reduceLT, Int.reduceLE, Int.reduceEq, Int.reduceNe, Nat.reduceEqDiff, Int.reduceToNat, Int.reducePow, Int.reduceMul, Int.reduceAdd, Int.reduceSub, Int.reduceNeg, and_true, true_and, decide_true, decide_false]
    refine ⟨⟨by omega, by omega⟩, ?_⟩
    have hp3 : S3 p = some (.lst (cutL (List.map D.int ns) none (some 11))) := Nx.get n4 (n2.bx.ne hp) up_same
    have n5 := n3.trans n4
    refine lc_draw (fun S' => Nx b S3 S') (fun d => ∃ i, d = .int i) (fun _ _ => trivial) _ _ _ (fun x _ S' Q' hi q => ?_) (by rw [rangeD_len]; simp; omega) (by simp) (Nx.refl n5.bx) (fun acc S4 hl ha n6 => ?_)
    · simp only [rVar, rC, rBin, rUn, rTst, rChn, rTru, rAnd, rOr, rNot, rAndV, rOrV, rNotV, rIf, rNil, rCons, rTup, rLst, rFn, rCall, rCallK, rSl, rPrt, rNoP, rMt, gNm, q_gN, q_gC, q_gTp, gSb, rNext, rSeq, rDrop, rRet, rRetN, rBrk, rCnt, rIfS, rSet, rPar, rFor, iSeq, iLst, iRg1, iRg2, iZp, rLc, rYes, En.x, wipeD, start', List.getElem?_cons_zero, List.getElem?_cons_succ, List.set_cons_zero, List.set_cons_succ, List.map_cons, List.map_nil, List.length_cons, List.length_nil, List.cons_append, List.nil_append, List.replicate_succ, List.replicate_zero, id, q_asB, q_asI, q_add, q_addS, q_addT, q_addL, q_int, q_sub, q_mul, q_fdiv, q_mod, q_pow, q_neg, q_le, q_ge, q_gt, q_lt, q_ltT, q_isN, q_isB, q_isBi, q_isBs, q_isBn, q_isBt, q_isnt, n_non, n_bl, n_int, n_str, n_tup, n_ref, q_eq, q_eqS, q_eqB, q_ixT, q_ixK, q_ixL, q_ixS, q_slT, q_slL, q_slS, q_set, q_lenT, q_lenK, q_lenS, q_lenL, q_abs, q_intF, q_max, q_min, q_tupT, q_tupL, q_lstT, q_lstL, q_app, q_ext, q_joinL, q_stw, q_seq, q_lst, q_rng, q_rng2, q_zpT, q_zpL, q_truN, q_truB, q_truI, q_truT, q_truL, t_non, t_bl, t_int, t_str, t_tup, q_isiN, q_isiB, q_isiI, q_isiS, q_isiT, i_NoneType_int, i_NoneType_bool, i_NoneType_tuple, i_NoneType_list, i_NoneType_str, i_bool_int, i_bool_bool, i_bool_tuple, i_bool_list, i_bool_str, i_int_int, i_int_bool, i_int_tuple, i_int_list, i_int_str, i_str_int, i_str_bool, i_str_tuple, i_str_list, i_str_str, i_tuple_int, i_tuple_bool, i_tuple_tuple, i_tuple_list, i_tuple_str, i_list_int, i_list_bool, i_list_tuple, i_list_list, i_list_str, i_dict_int, i_dict_bool, i_dict_tuple, i_dict_list, i_dict_str, up_same, g_02, g_02', g_01, g_11, at_0, at_1, ix_0, ix_1, Option.some.injEq, HQ.lst.injEq, exists_eq_left', exists_eq_left, exists_and_left, exists_eq', exists_eq, decide_eq_true_eq, if_true, if_false, ite_true, ite_false, Bool.false_eq_true, reduceIte, reduceCtorEq, Bool.not_true, Bool.not_false, Nat.zero_add, Nat.reduceAdd, Nat.reduceSub, Nat.reduceLeDiff, Nat.reduceLT, Int.reduceLT, Int.reduceLE, Int.reduceEq, Int.reduceNe, Nat.reduceEqDiff, Int.reduceToNat, Int.reducePow, Int.reduceMul, Int.reduceAdd, Int.reduceSub, Int.reduceNeg, and_true, true_and, decide_true, decide_false]
      refine entry_of hi.bx fun i S'' n => q _ _ ⟨i, rfl⟩ (hi.trans n)
    · rw [rangeD_len] at hl
      obtain ⟨is, rfl⟩ := ints_of ha
      rw [List.length_map] at hl
      simp only [List.length_nil] at hl
      have hp4 := n6.get (n2.bx.ne hp) hp3
      have n7 := n5.trans n6
      intro q hq
      rw [cutL_map, cutL_to _ (by decide)] at hp4
      have e11 : List.take (Int.toNat 11) ns = h :: List.take 10 (m ++ [l]) := by rw [hN]; rfl
      rw [e11] at hp4
      have hlen10 : (List.take 10 (m ++ [l])).length ≤ 10 := by rw [List.length_take]; omega
      refine ⟨_, up_get hq hp4, by simp at hlen10 ⊢; omega, fun u hu => ?_⟩
      have n8 := (n7.trans (Nx.new (q := .lst (List.map D.int is)) n7.bx hq))
      have n9 := n8.trans (Nx.new (q := .lst (List.map D.int (h :: List.take 10 (m ++ [l])) ++ List.map D.int is)) n8.bx hu)
      have hu9 : up (up S4 q (.lst (List.map D.int is))) u (.lst (List.map D.int (h :: List.take 10 (m ++ [l])) ++ List.map D.int is)) u = some (.lst (List.map D.int (h :: (List.take 10 (m ++ [l]) ++ is)))) := by rw [up_same]; simp
      exact tail _ u h _ n9 (n8.bx.ne hu) hu9 hh (by rw [List.length_append]; omega)
  by_cases c2 : way = 2
  · simp only [rVar, rC, rBin, rUn, rTst, rChn, rTru, rAnd, rOr, rNot, rAndV, rOrV, rNotV, rIf, rNil, rCons, rTup, rLst, rFn, rCall, rCallK, rSl, rPrt, rNoP, rMt, gNm, q_gN, q_gC, q_gTp, gSb, rNext, rSeq, rDrop, rRet, rRetN, rBrk, rCnt, rIfS, rSet, rPar, rFor, iSeq, iLst, iRg1, iRg2, iZp, rLc, rYes, En.x, wipeD, start', List.getElem?_cons_zero, List.getElem?_cons_succ, List.set_cons_zero, List.set_cons_succ, List.map_cons, List.map_nil, List.length_cons, List.length_nil, List.cons_append, List.nil_append, List.replicate_succ, List.replicate_zero, id, q_asB, q_asI, q_add, q_addS, q_addT, q_addL, q_int, q_sub, q_mul, q_fdiv, q_mod, q_pow, q_neg, q_le, q_ge, q_gt, q_lt, q_ltT, q_isN, q_isB, q_isBi, q_isBs, q_isBn, q_isBt, q_isnt, n_non, n_bl, n_int, n_str, n_tup, n_ref, q_eq, q_eqS, q_eqB, q_ixT, q_ixK, q_ixL, q_ixS, q_slT, q_slL, q_slS, q_set, q_lenT, q_lenK, q_lenS, q_lenL, q_abs, q_intF, q_max, q_min, q_tupT, q_tupL, q_lstT, q_lstL, q_app, q_ext, q_joinL, q_stw, q_seq, q_lst, q_rng, q_rng2, q_zpT, q_zpL, q_truN, q_truB, q_truI, q_truT, q_truL, t_non, t_bl, t_int, t_str, t_tup, q_isiN, q_isiB, q_isiI, q_isiS, q_isiT, i_NoneType_int, i_NoneType_bool, i_NoneType_tuple, i_NoneType_list, i_NoneType_str, i_bool_int, i_bool_bool, i_bool_tuple, i_bool_list, i_bool_str, i_int_int, i_int_bool, i_int_tuple, i_int_list, i_int_str, i_str_int, i_str_bool, i_str_tuple, i_str_list, i_str_str, i_tuple_int, i_tuple_bool, i_tuple_tuple, i_tuple_list, i_tuple_str, i_list_int, i_list_bool, i_list_tuple, i_list_list, i_list_str, i_dict_int, i_dict_bool, i_dict_tuple, i_dict_list, i_dict_str, up_same, g_02, g_02', g_01, g_11, at_0, at_1, ix_0, ix_1, Option.some.injEq, HQ.lst.injEq, exists_eq_left', exists_eq_left, exists_and_left, exists_eq', exists_eq, decide_eq_true_eq, if_true, if_false, ite_true, ite_false, Bool.false_eq_true, reduceIte, reduceCtorEq, Bool.not_true, Bool.not_false, Nat.zero_add, Nat.reduceAdd, Nat.reduceSub, Nat.reduceLeDiff, Nat.reduceLT, Int.reduceLT, Int.reduceLE, Int.reduceEq, Int.reduceNe, Nat.reduceEqDiff, Int.reduceToNat, Int.reducePow, Int.reduceMul, Int.reduceAdd, Int.reduceSub, Int.reduceNeg, and_true, true_and, decide_true, decide_false, c2, hc2, List.length_map, hlen]
    refine take_of n2.bx (by omega) (by omega) fun spot S3 hs0 hs1 n3 => ?_
    have hc3 := n3.get hcb hc2
    have n4 := n2.trans n3
    obtain ⟨x, _, ex, _⟩ := at_ints (ns := ns) hs0 (by omega)
    have fin : ∀ (v : Int) (S' : Hq), (spot = 0 → 0 ≤ v) → Nx b S3 S' → ∃ xs, S' c = some (HQ.lst xs) ∧ ∃ x_1, ixN xs.length spot = some x_1 ∧ Q (D.tup (xs.set x_1 (D.int v))) (up S' c (HQ.lst (xs.set x_1 (D.int v)))) := by
      intro v S' hv n5
      have hc5 := n5.get hcb hc3
      refine ⟨_, hc5, spot.toNat, ix_in hs0 (by rw [List.length_map]; omega), ?_⟩
      rw [← List.map_set]
      refine k _ _ ?_ ⟨(n4.trans n5).bx.put hcb, fun a o ne ha => ?_⟩
      · rw [hN]
        by_cases hz : spot = 0
        · subst hz
          exact ⟨v, m, l, rfl, hv rfl, hl0, hl1, hm⟩
        · obtain ⟨j, hj⟩ : ∃ j : Nat, spot.toNat = j + 1 := ⟨spot.toNat - 1, by omega⟩
          rw [hj, List.set_cons_succ, List.set_append_left _ _ (by omega)]
          exact ⟨h, m.set j v, l, rfl, hh, hl0, hl1, by rw [List.length_set]; exact hm⟩
      · rw [up_ne (ne_get (n1.old a o ne ha) hc)]
        exact (n4.trans n5).old a o ne ha
    by_cases hz : spot = 0
    · simp only [rVar, rC, rBin, rUn, rTst, rChn, rTru, rAnd, rOr, rNot, rAndV, rOrV, rNotV, rIf, rNil, rCons, rTup, rLst, rFn, rCall, rCallK, rSl, rPrt, rNoP, rMt, gNm, q_gN, q_gC, q_gTp, gSb, rNext, rSeq, rDrop, rRet, rRetN, rBrk, rCnt, rIfS, rSet, rPar, rFor, iSeq, iLst, iRg1, iRg2, iZp, rLc, rYes, En.x, wipeD, start', List.getElem?_cons_zero, List.getElem?_cons_succ, List.set_cons_zero, List.set_cons_succ, List.map_cons, List.map_nil, List.length_cons, List.length_nil, List.cons_append, List.nil_append, List.replicate_succ, List.replicate_zero, id, q_asB, q_asI, q_add, q_addS, q_addT, q_addL, q_int, q_sub, q_mul, q_fdiv, q_mod, q_pow, q_neg, q_le, q_ge, q_gt, q_lt, q_ltT, q_isN, q_isB, q_isBi, q_isBs, q_isBn, q_isBt, q_isnt, n_non, n_bl, n_int, n_str, n_tup, n_ref, q_eq, q_eqS, q_eqB, q_ixT, q_ixK, q_ixL, q_ixS, q_slT, q_slL, q_slS, q_set, q_lenT, q_lenK, q_lenS, q_lenL, q_abs, q_intF, q_max, q_min, q_tupT, q_tupL, q_lstT, q_lstL, q_app, q_ext, q_joinL, q_stw, q_seq, q_lst, q_rng, q_rng2, q_zpT, q_zpL, q_truN, q_truB, q_truI, q_truT, q_truL, t_non, t_bl, t_int, t_str, t_tup, q_isiN, q_isiB, q_isiI, q_isiS, q_isiT, i_NoneType_int, i_NoneType_bool, i_NoneType_tuple, i_NoneType_list, i_NoneType_str, i_bool_int, i_bool_bool, i_bool_tuple, i_bool_list, i_bool_str, i_int_int, i_int_bool, i_int_tuple, i_int_list, i_int_str, i_str_int, i_str_bool, i_str_tuple, i_str_list, i_str_str, i_tuple_int, i_tuple_bool, i_tuple_tuple, i_tuple_list, i_tuple_str, i_list_int, i_list_bool, i_list_tuple, i_list_list, i_list_str, i_dict_int, i_dict_bool, i_dict_tuple, i_dict_list, i_dict_str, up_same, g_02, g_02', g_01, g_11, at_0, at_1, ix_0, ix_1, Option.some.injEq, HQ.lst.injEq, exists_eq_left', exists_eq_left, exists_and_left, exists_eq', exists_eq, decide_eq_true_eq, if_true, if_false, ite_true, ite_false, Bool.false_eq_true, reduceIte, reduceCtorEq, Bool.not_true, Bool.not_false, Nat.zero_add, Nat.reduceAdd, Nat.reduceSub, Nat.reduceLeDiff, Nat.reduceLT, Int.reduceLT, Int.reduceLE, Int.reduceEq, Int.reduceNe, Nat.reduceEqDiff, Int.reduceToNat, Int.reducePow, Int.reduceMul, Int.reduceAdd, Int.reduceSub, Int.reduceNeg, and_true, true_and, decide_true, decide_false, hz]
      refine ⟨_, hc3, _, by rw [hz] at ex; exact ex, fun p hp => ?_⟩
      refine pick_of n3.bx hp (by simp) (by simp) fun d S4 hd n5 => ?_
      obtain ⟨i, _, rfl⟩ := mem_ints (l := [_, _]) hd
      simp only [rVar, rC, rBin, rUn, rTst, rChn, rTru, rAnd, rOr, rNot, rAndV, rOrV, rNotV, rIf, rNil, rCons, rTup, rLst, rFn, rCall, rCallK, rSl, rPrt, rNoP, rMt, gNm, q_gN, q_gC, q_gTp, gSb, rNext, rSeq, rDrop, rRet, rRetN, rBrk, rCnt, rIfS, rSet, rPar, rFor, iSeq, iLst, iRg1, iRg2, iZp, rLc, rYes, En.x, wipeD, start', List.getElem?_cons_zero, List.getElem?_cons_succ, List.set_cons_zero, List.set_cons_succ, List.map_cons, List.map_nil, List.length_cons, List.length_nil, List.cons_append, List.nil_append, List.replicate_succ, List.replicate_zero, id, q_asB, q_asI, q_add, q_addS, q_addT, q_addL, q_int, q_sub, q_mul, q_fdiv, q_mod, q_pow, q_neg, q_le, q_ge, q_gt, q_lt, q_ltT, q_isN, q_isB, q_isBi, q_isBs, q_isBn, q_isBt, q_isnt, n_non, n_bl, n_int, n_str, n_tup, n_ref, q_eq, q_eqS, q_eqB, q_ixT, q_ixK, q_ixL, q_ixS, q_slT, q_slL, q_slS, q_set, q_lenT, q_lenK, q_lenS, q_lenL, q_abs, q_intF, q_max, q_min, q_tupT, q_tupL, q_lstT, q_lstL, q_app, q_ext, q_joinL, q_stw, q_seq, q_lst, q_rng, q_rng2, q_zpT, q_zpL, q_truN, q_truB, q_truI, q_truT, q_truL, t_non, t_bl, t_int, t_str, t_tup, q_isiN, q_isiB, q_isiI, q_isiS, q_isiT, i_NoneType_int, i_NoneType_bool, i_NoneType_tuple, i_NoneType_list, i_NoneType_str, i_bool_int, i_bool_bool, i_bool_tuple, i_bool_list, i_bool_str, i_int_int, i_int_bool, i_int_tuple, i_int_list, i_int_str, i_str_int, i_str_bool, i_str_tuple, i_str_list, i_str_str, i_tuple_int, i_tuple_bool, i_tuple_tuple, i_tuple_list, i_tuple_str, i_list_int, i_list_bool, i_list_tuple, i_list_list, i_list_str, i_dict_int, i_dict_bool, i_dict_tuple, i_dict_list, i_dict_str, up_same, g_02, g_02', g_01, g_11, at_0, at_1, ix_0, ix_1, Option.some.injEq, HQ.lst.injEq, exists_eq_left', exists_eq_left, exists_and_left, exists_eq', exists_eq, decide_eq_true_eq, if_true, if_false, ite_true, ite_false, Bool.false_eq_true, reduceIte, reduceCtorEq, Bool.not_true, Bool.not_false, Nat.zero_add, Nat.reduceAdd, Nat.reduceSub, Nat.reduceLeDiff, Nat.reduceLT, Int.reduceLT, Int.reduceLE, Int.reduceEq, Int.reduceNe, Nat.reduceEqDiff, Int.reduceToNat, Int.reducePow, Int.reduceMul, Int.reduceAdd, Int.reduceSub, Int.reduceNeg, and_true, true_and, decide_true, decide_false]
      rw [← hz]
      refine fin _ _ (fun _ => ?_) n5
      split <;> omega
    · simp only [rVar, rC, rBin, rUn, rTst, rChn, rTru, rAnd, rOr, rNot, rAndV, rOrV, rNotV, rIf, rNil, rCons, rTup, rLst, rFn, rCall, rCallK, rSl, rPrt, rNoP, rMt, gNm, q_gN, q_gC, q_gTp, gSb, rNext, rSeq, rDrop, rRet, rRetN, rBrk, rCnt, rIfS, rSet, rPar, rFor, iSeq, iLst, iRg1, iRg2, iZp, rLc, rYes, En.x, wipeD, start', List.getElem?_cons_zero, List.getElem?_cons_succ, List.set_cons_zero, List.set_cons_succ, List.map_cons, List.map_nil, List.length_cons, List.length_nil, List.cons_append, List.nil_append, List.replicate_succ, List.replicate_zero, id, q_asB, q_asI, q_add, q_addS, q_addT, q_addL, q_int, q_sub, q_mul, q_fdiv, q_mod, q_pow, q_neg, q_le, q_ge, q_gt, q_lt, q_ltT, q_isN, q_isB, q_isBi, q_isBs, q_isBn, q_isBt, q_isnt, n_non, n_bl, n_int, n_str, n_tup, n_ref, q_eq, q_eqS, q_eqB, q_ixT, q_ixK, q_ixL, q_ixS, q_slT, q_slL, q_slS, q_set, q_lenT, q_lenK, q_lenS, q_lenL, q_abs, q_intF, q_max, q_min, q_tupT, q_tupL, q_lstT, q_lstL, q_app, q_ext, q_joinL, q_stw, q_seq, q_lst, q_rng, q_rng2, q_zpT, q_zpL, q_truN, q_truB, q_truI, q_truT, q_truL, t_non, t_bl, t_int, t_str, t_tup, q_isiN, q_isiB, q_isiI, q_isiS, q_isiT, i_NoneType_int, i_NoneType_bool, i_NoneType_tuple, i_NoneType_list, i_NoneType_str, i_bool_int, i_bool_bool, i_bool_tuple, i_bool_list, i_bool_str, i_int_int, i_int_bool, i_int_tuple, i_int_list, i_int_str, i_str_int, i_str_bool, i_str_tuple, i_str_list, i_str_str, i_tuple_int, i_tuple_bool, i_tuple_tuple, i_tuple_list, i_tuple_str, i_list_int, i_list_bool, i_list_tuple, i_list_list, i_list_str, i_dict_int, i_dict_bool, i_dict_tuple, i_dict_list, i_dict_str, up_same, g_02, g_02', g_01, g_11, at_0, at_1, ix_0, ix_1, Option.some.injEq, HQ.lst.injEq, exists_eq_left', exists_eq_left, exists_and_left, exists_eq', exists_eq, decide_eq_true_eq, if_true, if_false, ite_true, ite_false, Bool.false_eq_true, reduceIte, reduceCtorEq, Bool.not_true, Bool.not_false, Nat.zero_add, Nat.reduceAdd, Nat.reduceSub, Nat.reduceLeDiff, Nat.reduceLT, Int.reduceLT, Int.reduceLE, Int.reduceEq, Int.reduceNe, Nat.reduceEqDiff, Int.reduceToNat, Int.reducePow, Int.reduceMul, Int.reduceAdd, Int.reduceSub, Int.reduceNeg, and_true, true_and, decide_true, decide_false, hz]
      refine ⟨⟨by decide, by decide, by decide, by decide⟩, _, hc3, _, ex, fun p hp => ?_⟩
      refine pick_of n3.bx hp (by simp) (by simp) fun d S4 hd n5 => ?_
      obtain ⟨i, _, rfl⟩ := mem_ints (l := [_, _]) hd
      simp only [rVar, rC, rBin, rUn, rTst, rChn, rTru, rAnd, rOr, rNot, rAndV, rOrV, rNotV, rIf, rNil, rCons, rTup, rLst, rFn, rCall, rCallK, rSl, rPrt, rNoP, rMt, gNm, q_gN, q_gC, q_gTp, gSb, rNext, rSeq, rDrop, rRet, rRetN, rBrk, rCnt, rIfS, rSet, rPar, rFor, iSeq, iLst, iRg1, iRg2, iZp, rLc, rYes, En.x, wipeD, start', List.getElem?_cons_zero, List.getElem?_cons_succ, List.set_cons_zero, List.set_cons_succ, List.map_cons, List.map_nil, List.length_cons, List.length_nil, List.cons_append, List.nil_append, List.replicate_succ, List.replicate_zero, id, q_asB, q_asI, q_add, q_addS, q_addT, q_addL, q_int, q_sub, q_mul, q_fdiv, q_mod, q_pow, q_neg, q_le, q_ge, q_gt, q_lt, q_ltT, q_isN, q_isB, q_isBi, q_isBs, q_isBn, q_isBt, q_isnt, n_non, n_bl, n_int, n_str, n_tup, n_ref, q_eq, q_eqS, q_eqB, q_ixT, q_ixK, q_ixL, q_ixS, q_slT, q_slL, q_slS, q_set, q_lenT, q_lenK, q_lenS, q_lenL, q_abs, q_intF, q_max, q_min, q_tupT, q_tupL, q_lstT, q_lstL, q_app, q_ext, q_joinL, q_stw, q_seq, q_lst, q_rng, q_rng2, q_zpT, q_zpL, q_truN, q_truB, q_truI, q_truT, q_truL, t_non, t_bl, t_int, t_str, t_tup, q_isiN, q_isiB, q_isiI, q_isiS, q_isiT, i_NoneType_int, i_NoneType_bool, i_NoneType_tuple, i_NoneType_list, i_NoneType_str, i_bool_int, i_bool_bool, i_bool_tuple, i_bool_list, i_bool_str, i_int_int, i_int_bool, i_int_tuple, i_int_list, i_int_str, i_str_int, i_str_bool, i_str_tuple, i_str_list, i_str_str, i_tuple_int, i_tuple_bool, i_tuple_tuple, i_tuple_list, i_tuple_str, i_list_int, i_list_bool, i_list_tuple, i_list_list, i_list_str, i_dict_int, i_dict_bool, i_dict_tuple, i_dict_list, i_dict_str, up_same, g_02, g_02', g_01, g_11, at_0, at_1, ix_0, ix_1, Option.some.injEq, HQ.lst.injEq, exists_eq_left', exists_eq_left, exists_and_left, exists_eq', exists_eq, decide_eq_true_eq, if_true, if_false, ite_true, ite_false, Bool.false_eq_true, reduceIte, reduceCtorEq, Bool.not_true, Bool.not_false, Nat.zero_add, Nat.reduceAdd, Nat.reduceSub, Nat.reduceLeDiff, Nat.reduceLT, Int.reduceLT, Int.reduceLE, Int.reduceEq, Int.reduceNe, Nat.reduceEqDiff, Int.reduceToNat, Int.reducePow, Int.reduceMul, Int.reduceAdd, Int.reduceSub, Int.reduceNeg, and_true, true_and, decide_true, decide_false]
      exact fin _ _ (fun z => absurd z hz) n5
  by_cases c3 : way = 3
  · simp only [rVar, rC, rBin, rUn, rTst, rChn, rTru, rAnd, rOr, rNot, rAndV, rOrV, rNotV, rIf, rNil, rCons, rTup, rLst, rFn, rCall, rCallK, rSl, rPrt, rNoP, rMt, gNm, q_gN, q_gC, q_gTp, gSb, rNext, rSeq, rDrop, rRet, rRetN, rBrk, rCnt, rIfS, rSet, rPar, rFor, iSeq, iLst, iRg1, iRg2, iZp, rLc, rYes, En.x, wipeD, start', List.getElem?_cons_zero, List.getElem?_cons_succ, List.set_cons_zero, List.set_cons_succ, List.map_cons, List.map_nil, List.length_cons, List.length_nil, List.cons_append, List.nil_append, List.replicate_succ, List.replicate_zero, id, q_asB, q_asI, q_add, q_addS, q_addT, q_addL, q_int, q_sub, q_mul, q_fdiv, q_mod, q_pow, q_neg, q_le, q_ge, q_gt, q_lt, q_ltT, q_isN, q_isB, q_isBi, q_isBs, q_isBn, q_isBt, q_isnt, n_non, n_bl, n_int, n_str, n_tup, n_ref, q_eq, q_eqS, q_eqB, q_ixT, q_ixK, q_ixL, q_ixS, q_slT, q_slL, q_slS, q_set, q_lenT, q_lenK, q_lenS, q_lenL, q_abs, q_intF, q_max, q_min, q_tupT, q_tupL, q_lstT, q_lstL, q_app, q_ext, q_joinL, q_stw, q_seq, q_lst, q_rng, q_rng2, q_zpT, q_zpL, q_truN, q_truB, q_truI, q_truT, q_truL, t_non, t_bl, t_int, t_str, t_tup, q_isiN, q_isiB, q_isiI, q_isiS, q_isiT, i_NoneType_int, i_NoneType_bool, i_NoneType_tuple, i_NoneType_list, i_NoneType_str, i_bool_int, i_bool_bool, i_bool_tuple, i_bool_list, i_bool_str, i_int_int, i_int_bool, i_int_tuple, i_int_list, i_int_str, i_str_int, i_str_bool, i_str_tuple, i_str_list, i_str_str, i_tuple_int, i_tuple_bool, i_tuple_tuple, i_tuple_list, i_tuple_str, i_list_int, i_list_bool, i_list_tuple, i_list_list, i_list_str, i_dict_int, i_dict_bool, i_dict_tuple, i_dict_list, i_dict_str, up_same, g_02, g_02', g_01, g_11, at_0, at_1, ix_0, ix_1, Option.some.injEq, HQ.lst.injEq, exists_eq_left', exists_eq_left, exists_and_left, exists_eq', exists_eq, decide_eq_true_eq, if_true, if_false, ite_true, ite_false, Bool.false_eq_true, reduceIte, reduceCtorEq, Bool.not_true, Bool.not_false, Nat.zero_add, Nat.reduceAdd, Nat.reduceSub, Nat.reduceLeDiff, Nat.reduceLT, Int.reduceLT, Int.reduceLE, Int.reduceEq, Int.reduceNe, Nat.reduceEqDiff, Int.reduceToNat, Int.reducePow, Int.reduceMul, Int.reduceAdd, Int.reduceSub, Int.reduceNeg, and_true, true_and, decide_true, decide_false, c3, hc2, List.length_map, hlen, up_same]
    intro p hp
    have e3 : cutL (List.map D.int ns) none (some ((m.length : Int) + 2 - 1)) = List.map D.int (h :: m) := by
      rw [cutL_map, cutL_to _ (by omega), hN]
      have e : ((m.length : Int) + 2 - 1).toNat = m.length + 1 := by omega
      rw [e, List.take_succ_cons, List.take_left']
      rfl
    rw [e3]
    exact tail _ p h m (n2.trans (Nx.new n2.bx hp)) (n2.bx.ne hp) up_same hh hm
  by_cases c4 : way = 4
  · simp only [rVar, rC, rBin, rUn, rTst, rChn, rTru, rAnd, rOr, rNot, rAndV, rOrV, rNotV, rIf, rNil, rCons, rTup, rLst, rFn, rCall, rCallK, rSl, rPrt, rNoP, rMt, gNm, q_gN, q_gC, q_gTp, gSb, rNext, rSeq, rDrop, rRet, rRetN, rBrk, rCnt, rIfS, rSet, rPar, rFor, iSeq, iLst, iRg1, iRg2, iZp, rLc, rYes, En.x, wipeD, start', List.getElem?_cons_zero, List.getElem?_cons_succ, List.set_cons_zero, List.set_cons_succ, List.map_cons, List.map_nil, List.length_cons, List.length_nil, List.cons_append, List.nil_append, List.replicate_succ, List.replicate_zero, id, q_asB, q_asI, q_add, q_addS, q_addT, q_addL, q_int, q_sub, q_mul, q_fdiv, q_mod, q_pow, q_neg, q_le, q_ge, q_gt, q_lt, q_ltT, q_isN, q_isB, q_isBi, q_isBs, q_isBn, q_isBt, q_isnt, n_non, n_bl, n_int, n_str, n_tup, n_ref, q_eq, q_eqS, q_eqB, q_ixT, q_ixK, q_ixL, q_ixS, q_slT, q_slL, q_slS, q_set, q_lenT, q_lenK, q_lenS, q_lenL, q_abs, q_intF, q_max, q_min, q_tupT, q_tupL, q_lstT, q_lstL, q_app, q_ext, q_joinL, q_stw, q_seq, q_lst, q_rng, q_rng2, q_zpT, q_zpL, q_truN, q_truB, q_truI, q_truT, q_truL, t_non, t_bl, t_int, t_str, t_tup, q_isiN, q_isiB, q_isiI, q_isiS, q_isiT, i_NoneType_int, i_NoneType_bool, i_NoneType_tuple, i_NoneType_list, i_NoneType_str, i_bool_int, i_bool_bool, i_bool_tuple, i_bool_list, i_bool_str, i_int_int, i_int_bool, i_int_tuple, i_int_list, i_int_str, i_str_int, i_str_bool, i_str_tuple, i_str_list, i_str_str, i_tuple_int, i_tuple_bool, i_tuple_tuple, i_tuple_list, i_tuple_str, i_list_int, i_list_bool, i_list_tuple, i_list_list, i_list_str, i_dict_int, i_dict_bool, i_dict_tuple, i_dict_list, i_dict_str, up_same, g_02, g_02', g_01, g_11, at_0, at_1, ix_0, ix_1, Option.some.injEq, HQ.lst.injEq, exists_eq_left', exists_eq_left, exists_and_left, exists_eq', exists_eq, decide_eq_true_eq, if_true, if_false, ite_true, ite_false, Bool.false_eq_true, reduceIte, reduceCtorEq, Bool.not_true, Bool.not_false, Nat.zero_add, Nat.reduceAdd, Nat.reduceSub, Nat.reduceLeDiff, Nat.reduceLT, Int.reduceLT, Int.reduceLE, Int.reduceEq, Int.reduceNe, Nat.reduceEqDiff, Int.reduceToNat, Int.reducePow, Int.reduceMul, Int.reduceAdd, Int.reduceSub, Int.reduceNeg, and_true, true_and, decide_true, decide_false, c4, hc2, List.length_map, hlen, up_same]
    refine take_of n2.bx (by omega) (by omega) fun spot S3 hs0 hs1 n3 => ?_
    have n4 := n2.trans n3
    simp only [rVar, rC, rBin, rUn, rTst, rChn, rTru, rAnd, rOr, rNot, rAndV, rOrV, rNotV, rIf, rNil, rCons, rTup, rLst, rFn, rCall, rCallK, rSl, rPrt, rNoP, rMt, gNm, q_gN, q_gC, q_gTp, gSb, rNext, rSeq, rDrop, rRet, rRetN, rBrk, rCnt, rIfS, rSet, rPar, rFor, iSeq, iLst, iRg1, iRg2, iZp, rLc, rYes, En.x, wipeD, start', List.getElem?_cons_zero, List.getElem?_cons_succ, List.set_cons_zero, List.set_cons_succ, List.map_cons, List.map_nil, List.length_cons, List.length_nil, List.cons_append, List.nil_append, List.replicate_succ, List.replicate_zero, id, q_asB, q_asI, q_add, q_addS, q_addT, q_addL, q_int, q_sub, q_mul, q_fdiv, q_mod, q_pow, q_neg, q_le, q_ge, q_gt, q_lt, q_ltT, q_isN, q_isB, q_isBi, q_isBs, q_isBn, q_isBt, q_isnt, n_non, n_bl, n_int, n_str, n_tup, n_ref, q_eq, q_eqS, q_eqB, q_ixT, q_ixK, q_ixL, q_ixS, q_slT, q_slL, q_slS, q_set, q_lenT, q_lenK, q_lenS, q_lenL, q_abs, q_intF, q_max, q_min, q_tupT, q_tupL, q_lstT, q_lstL, q_app, q_ext, q_joinL, q_stw, q_seq, q_lst, q_rng, q_rng2, q_zpT, q_zpL, q_truN, q_truB, q_truI, q_truT, q_truL, t_non, t_bl, t_int, t_str, t_tup, q_isiN, q_isiB, q_isiI, q_isiS, q_isiT, i_NoneType_int, i_NoneType_bool, i_NoneType_tuple, i_NoneType_list, i_NoneType_str, i_bool_int, i_bool_bool, i_bool_tuple, i_bool_list, i_bool_str, i_int_int, i_int_bool, i_int_tuple, i_int_list, i_int_str, i_str_int, i_str_bool, i_str_tuple, i_str_list, i_str_str, i_tuple_int, i_tuple_bool, i_tuple_tuple, i_tuple_list, i_tuple_str, i_list_int, i_list_bool, i_list_tuple, i_list_list, i_list_str, i_dict_int, i_dict_bool, i_dict_tuple, i_dict_list, i_dict_str, up_same, g_02, g_02', g_01, g_11, at_0, at_1, ix_0, ix_1, Option.some.injEq, HQ.lst.injEq, exists_eq_left', exists_eq_left, exists_and_left, exists_eq', exists_eq, decide_eq_true_eq, if_true, if_false, ite_true, ite_false, Bool.false_eq_true, reduceIte, reduceCtorEq, Bool.not_true, Bool.not_false, Nat.zero_add, Nat.reduceAdd, Nat.reduceSub, Nat.reduceLeDiff, Nat.reduceLT, Int.reduceLT, Int.reduceLE, Int.reduceEq, Int.reduceNe, Nat.reduceEqDiff, Int.reduceToNat, Int.reducePow, Int.reduceMul, Int.reduceAdd, Int.reduceSub, Int.reduceNeg, and_true, true_and, decide_true, decide_false, n3.get hcb hc2]
    intro p hp
    have e4 : cutL (List.map D.int ns) none (some (1 + spot)) = List.map D.int (h :: (m ++ [l]).take spot.toNat) := by
      rw [cutL_map, cutL_to _ (by omega), hN]
      have e : (1 + spot).toNat = spot.toNat + 1 := by omega
      rw [e, List.take_succ_cons]
    rw [e4]
    exact tail _ p h _ (n4.trans (Nx.new n4.bx hp)) (n4.bx.ne hp) up_same hh (by rw [List.length_take]; simp; omega)
  simp only [rVar, rC, rBin, rUn, rTst, rChn, rTru, rAnd, rOr, rNot, rAndV, rOrV, rNotV, rIf, rNil, rCons, rTup, rLst, rFn, rCall, rCallK, rSl, rPrt, rNoP, rMt, gNm, q_gN, q_gC, q_gTp, gSb, rNext, rSeq, rDrop, rRet, rRetN, rBrk, rCnt, rIfS, rSet, rPar, rFor, iSeq, iLst, iRg1, iRg2, iZp, rLc, rYes, En.x, wipeD, start', List.getElem?_cons_zero, List.getElem?_cons_succ, List.set_cons_zero, List.set_cons_succ, List.map_cons, List.map_nil, List.length_cons, List.length_nil, List.cons_append, List.nil_append, List.replicate_succ, List.replicate_zero, id, q_asB, q_asI, q_add, q_addS, q_addT, q_addL, q_int, q_sub, q_mul, q_fdiv, q_mod, q_pow, q_neg, q_le, q_ge, q_gt, q_lt, q_ltT, q_isN, q_isB, q_isBi, q_isBs, q_isBn, q_isBt, q_isnt, n_non, n_bl, n_int, n_str, n_tup, n_ref, q_eq, q_eqS, q_eqB, q_ixT, q_ixK, q_ixL, q_ixS, q_slT, q_slL, q_slS, q_set, q_lenT, q_lenK, q_lenS, q_lenL, q_abs, q_intF, q_max, q_min, q_tupT, q_tupL, q_lstT, q_lstL, q_app, q_ext, q_joinL, q_stw, q_seq, q_lst, q_rng, q_rng2, q_zpT, q_zpL, q_truN, q_truB, q_truI, q_truT, q_truL, t_non, t_bl, t_int, t_str, t_tup, q_isiN, q_isiB, q_isiI, q_isiS, q_isiT, i_NoneType_int, i_NoneType_bool, i_NoneType_tuple, i_NoneType_list, i_NoneType_str, i_bool_int, i_bool_bool, i_bool_tuple, i_bool_list, i_bool_str, i_int_int, i_int_bool, i_int_tuple, i_int_list, i_int_str, i_str_int, i_str_bool, i_str_tuple, i_str_list, i_str_str, i_tuple_int, i_tuple_bool, i_tuple_tuple, i_tuple_list, i_tuple_str, i_list_int, i_list_bool, i_list_tuple, i_list_list, i_list_str, i_dict_int, i_dict_bool, i_dict_tuple, i_dict_list, i_dict_str, up_same, g_02, g_02', g_01, g_11, at_0, at_1, ix_0, ix_1, Option.some.injEq, HQ.lst.injEq, exists_eq_left', exists_eq_left, exists_and_left, exists_eq', exists_eq, decide_eq_true_eq, if_true, if_false, ite_true, ite_false, Bool.false_eq_true, reduceIte, reduceCtorEq, Bool.not_true, Bool.not_false, Nat.zero_add, Nat.reduceAdd, Nat.reduceSub, Nat.reduceLeDiff, Nat.reduceLT, Int.reduceLT, Int.reduceLE, Int.reduceEq, Int.reduceNe, Nat.reduceEqDiff, Int.reduceToNat, Int.reducePow, Int.reduceMul, Int.reduceAdd, Int.reduceSub, Int.reduceNeg, and_true, true_and, decide_true, decide_false, c0, c1, c2, c3, c4]
  refine figure_of n2.bx fun ms S3 hF n3 => k _ _ hF (n2.trans n3)


def sp_law_row : Sq := fun ds S Q _ => ∃ b z many, ds = [.ref b, .str z, .int many] ∧ z.length ≤ 1000 ∧ 0 ≤ many ∧ many ≤ 100 ∧ Bx S b ∧ ∀ p S' (ls : List Rw), S' p = some (.lst (ls.map rowD)) → (∀ l ∈ ls, OkR l) → ls.length ≤ 100 → Q (.ref p) S'
theorem ln_law_row : ∀ ds S Q E, sp_law_row ds S Q E → ds.length = 3 := by rintro _ _ _ _ ⟨b, n, m, rfl, _⟩; rfl
theorem nx_law_row : ∀ ds S Q E, sp_law_row ds S Q E → sp_law_row ds S Q NoX := fun _ _ _ _ h => h

def rd_law_row : RSt :=
 (rSeq (rPar 4 5 (rCons (rCall sp_law_figure (rCons (rVar 0) rNil)) (rCons (rLst rNil) rNil)))
 (rSeq (rFor (iRg1 (rCons (rVar 2) rNil)) (gNm 3)
 (rSeq (rSet (rSl (rVar 1) rNoP (rPrt (rCall sp_law_pick (rCons (rVar 0) (rCons (rLst (rCons (rC (.int 0)) (rCons (rC (.int 1)) (rCons (rC (.int 2)) (rCons (rC (.int 3)) (rCons (rC (.int 4)) (rCons (rC (.int 5)) (rCons (rC (.int 6)) (rCons (rC (.int 6)) (rCons (rC (.int 5)) (rCons (rC (.int 0)) rNil))))))))))) rNil))))) (gNm 6))
 (rDrop (rMt "list" appD (rVar 5) (rCons (rTup (rCons (rVar 6) (rCons (rCall sp_law_pick (rCons (rVar 0) (rCons (rLst (rCons (rC .non) (rCons (rVar 4) (rCons (rCall sp_law_beside (rCons (rVar 0) (rCons (rVar 4) rNil))) (rCons (rCall sp_law_beside (rCons (rVar 0) (rCons (rVar 4) rNil))) rNil))))) rNil))) rNil))) rNil)))))
 (rRet (rVar 5))))

theorem pu_law_row : ∀ ds S Q, sp_law_row ds S Q NoX → rd_law_row { nx := fun _ S => Q .non S, rt := Q } (start' 7 ds) S := by

  rintro _ S Q ⟨b, z, many, rfl, hz, hm0, hm1, hb, k⟩
  unfold rd_law_row
  simp only [rVar, rC, rBin, rUn, rTst, rChn, rTru, rAnd, rOr, rNot, rAndV, rOrV, rNotV, rIf, rNil, rCons, rTup, rLst, rFn, rCall, rCallK, rSl, rPrt, rNoP, rMt, gNm, q_gN, q_gC, q_gTp, gSb, rNext, rSeq, rDrop, rRet, rRetN, rBrk, rCnt, rIfS, rSet, rPar, rFor, iSeq, iLst, iRg1, iRg2, iZp, rLc, rYes, En.x, wipeD, start', List.getElem?_cons_zero, List.getElem?_cons_succ, List.set_cons_zero, List.set_cons_succ, List.map_cons, List.map_nil, List.length_cons, List.length_nil, List.cons_append, List.nil_append, List.replicate_succ, List.replicate_zero, id, q_asB, q_asI, q_add, q_addS, q_addT, q_addL, q_int, q_sub, q_mul, q_fdiv, q_mod, q_pow, q_neg, q_le, q_ge, q_gt, q_lt, q_ltT, q_isN, q_isB, q_isBi, q_isBs, q_isBn, q_isBt, q_isnt, n_non, n_bl, n_int, n_str, n_tup, n_ref, q_eq, q_eqS, q_eqB, q_ixT, q_ixK, q_ixL, q_ixS, q_slT, q_slL, q_slS, q_set, q_lenT, q_lenK, q_lenS, q_lenL, q_abs, q_intF, q_max, q_min, q_tupT, q_tupL, q_lstT, q_lstL, q_app, q_ext, q_joinL, q_stw, q_seq, q_lst, q_rng, q_rng2, q_zpT, q_zpL, q_truN, q_truB, q_truI, q_truT, q_truL, t_non, t_bl, t_int, t_str, t_tup, q_isiN, q_isiB, q_isiI, q_isiS, q_isiT, i_NoneType_int, i_NoneType_bool, i_NoneType_tuple, i_NoneType_list, i_NoneType_str, i_bool_int, i_bool_bool, i_bool_tuple, i_bool_list, i_bool_str, i_int_int, i_int_bool, i_int_tuple, i_int_list, i_int_str, i_str_int, i_str_bool, i_str_tuple, i_str_list, i_str_str, i_tuple_int, i_tuple_bool, i_tuple_tuple, i_tuple_list, i_tuple_str, i_list_int, i_list_bool, i_list_tuple, i_list_list, i_list_str, i_dict_int, i_dict_bool, i_dict_tuple, i_dict_list, i_dict_str, up_same, g_02, g_02', g_01, g_11, at_0, at_1, ix_0, ix_1, Option.some.injEq, HQ.lst.injEq, exists_eq_left', exists_eq_left, exists_and_left, exists_eq', exists_eq, decide_eq_true_eq, if_true, if_false, ite_true, ite_false, Bool.false_eq_true, reduceIte, reduceCtorEq, Bool.not_true, Bool.not_false, Nat.zero_add, Nat.reduceAdd, Nat.reduceSub, Nat.reduceLeDiff, Nat.reduceLT, Int.reduceLT, Int.reduceLE, Int.reduceEq, Int.reduceNe, Nat.reduceEqDiff, Int.reduceToNat, Int.reducePow, Int.reduceMul, Int.reduceAdd, Int.reduceSub, Int.reduceNeg, and_true, true_and, decide_true, decide_false]
  refine figure_of hb fun ns S1 hf n1 => ?_
  intro f hf0
  refine ⟨⟨by omega, by omega⟩, ?_⟩
  have hfb : f ≠ b := n1.bx.ne hf0
  refine loop_idx (fun i σ S' => Bx S' b ∧ i ≤ many.toNat ∧ ∃ (ls : List Rw) (y w : Option D), σ = [some (.ref b), some (.str z), some (.int many), y, some (.tup (ns.map D.int)), some (.ref f), w] ∧ S' f = some (.lst (ls.map rowD)) ∧ (∀ l ∈ ls, OkR l) ∧ ls.length = i)
    (fun _ _ _ _ _ => trivial) (fun i x σ S' hx hp N hN => ?_) (fun σ S' hp => ?_) ⟨n1.bx.up hf0, by omega, [], _, _, rfl, up_same, by simp, rfl⟩
  · obtain ⟨bx, hi, ls, y, w, rfl, hS, hok, hl⟩ := hp
    obtain ⟨hi2, rfl⟩ := rangeD_get hx
    simp only [rVar, rC, rBin, rUn, rTst, rChn, rTru, rAnd, rOr, rNot, rAndV, rOrV, rNotV, rIf, rNil, rCons, rTup, rLst, rFn, rCall, rCallK, rSl, rPrt, rNoP, rMt, gNm, q_gN, q_gC, q_gTp, gSb, rNext, rSeq, rDrop, rRet, rRetN, rBrk, rCnt, rIfS, rSet, rPar, rFor, iSeq, iLst, iRg1, iRg2, iZp, rLc, rYes, En.x, wipeD, start', List.getElem?_cons_zero, List.getElem?_cons_succ, List.set_cons_zero, List.set_cons_succ, List.map_cons, List.map_nil, List.length_cons, List.length_nil, List.cons_append, List.nil_append, List.replicate_succ, List.replicate_zero, id, q_asB, q_asI, q_add, q_addS, q_addT, q_addL, q_int, q_sub, q_mul, q_fdiv, q_mod, q_pow, q_neg, q_le, q_ge, q_gt, q_lt, q_ltT, q_isN, q_isB, q_isBi, q_isBs, q_isBn, q_isBt, q_isnt, n_non, n_bl, n_int, n_str, n_tup, n_ref, q_eq, q_eqS, q_eqB, q_ixT, q_ixK, q_ixL, q_ixS, q_slT, q_slL, q_slS, q_set, q_lenT, q_lenK, q_lenS, q_lenL, q_abs, q_intF, q_max, q_min, q_tupT, q_tupL, q_lstT, q_lstL, q_app, q_ext, q_joinL, q_stw, q_seq, q_lst, q_rng, q_rng2, q_zpT, q_zpL, q_truN, q_truB, q_truI, q_truT, q_truL, t_non, t_bl, t_int, t_str, t_tup, q_isiN, q_isiB, q_isiI, q_isiS, q_isiT, i_NoneType_int, i_NoneType_bool, i_NoneType_tuple, i_NoneType_list, i_NoneType_str, i_bool_int, i_bool_bool, i_bool_tuple, i_bool_list, i_bool_str, i_int_int, i_int_bool, i_int_tuple, i_int_list, i_int_str, i_str_int, i_str_bool, i_str_tuple, i_str_list, i_str_str, i_tuple_int, i_tuple_bool, i_tuple_tuple, i_tuple_list, i_tuple_str, i_list_int, i_list_bool, i_list_tuple, i_list_list, i_list_str, i_dict_int, i_dict_bool, i_dict_tuple, i_dict_list, i_dict_str, up_same, g_02, g_02', g_01, g_11, at_0, at_1, ix_0, ix_1, Option.some.injEq, HQ.lst.injEq, exists_eq_left', exists_eq_left, exists_and_left, exists_eq', exists_eq, decide_eq_true_eq, if_true, if_false, ite_true, ite_false, Bool.false_eq_true, reduceIte, reduceCtorEq, Bool.not_true, Bool.not_false, Nat.zero_add, Nat.reduceAdd, Nat.reduceSub, Nat.reduceLeDiff, Nat.reduceLT, Int.reduceLT, Int.reduceLE, Int.reduceEq, Int.reduceNe, Nat.reduceEqDiff, Int.reduceToNat, Int.reducePow, Int.reduceMul, Int.reduceAdd, Int.reduceSub, Int.reduceNeg, and_true, true_and, decide_true, decide_false]
    intro p hp
    refine pick_of bx hp (by simp) (by simp) fun d S2 hd n2 => ?_
    obtain ⟨c, hc, rfl⟩ := mem_ints (l := [_, _, _, _, _, _, _, _, _, _]) hd
    have hc' : 0 ≤ c ∧ c ≤ 6 := by
      have : ∀ i ∈ ([0, 1, 2, 3, 4, 5, 6, 6, 5, 0] : List Int), 0 ≤ i ∧ i ≤ 6 := by decide
      exact this c hc
    simp only [rVar, rC, rBin, rUn, rTst, rChn, rTru, rAnd, rOr, rNot, rAndV, rOrV, rNotV, rIf, rNil, rCons, rTup, rLst, rFn, rCall, rCallK, rSl, rPrt, rNoP, rMt, gNm, q_gN, q_gC, q_gTp, gSb, rNext, rSeq, rDrop, rRet, rRetN, rBrk, rCnt, rIfS, rSet, rPar, rFor, iSeq, iLst, iRg1, iRg2, iZp, rLc, rYes, En.x, wipeD, start', List.getElem?_cons_zero, List.getElem?_cons_succ, List.set_cons_zero, List.set_cons_succ, List.map_cons, List.map_nil, List.length_cons, List.length_nil, List.cons_append, List.nil_append, List.replicate_succ, List.replicate_zero, id, q_asB, q_asI, q_add, q_addS, q_addT, q_addL, q_int, q_sub, q_mul, q_fdiv, q_mod, q_pow, q_neg, q_le, q_ge, q_gt, q_lt, q_ltT, q_isN, q_isB, q_isBi, q_isBs, q_isBn, q_isBt, q_isnt, n_non, n_bl, n_int, n_str, n_tup, n_ref, q_eq, q_eqS, q_eqB, q_ixT, q_ixK, q_ixL, q_ixS, q_slT, q_slL, q_slS, q_set, q_lenT, q_lenK, q_lenS, q_lenL, q_abs, q_intF, q_max, q_min, q_tupT, q_tupL, q_lstT, q_lstL, q_app, q_ext, q_joinL, q_stw, q_seq, q_lst, q_rng, q_rng2, q_zpT, q_zpL, q_truN, q_truB, q_truI, q_truT, q_truL, t_non, t_bl, t_int, t_str, t_tup, q_isiN, q_isiB, q_isiI, q_isiS, q_isiT, i_NoneType_int, i_NoneType_bool, i_NoneType_tuple, i_NoneType_list, i_NoneType_str, i_bool_int, i_bool_bool, i_bool_tuple, i_bool_list, i_bool_str, i_int_int, i_int_bool, i_int_tuple, i_int_list, i_int_str, i_str_int, i_str_bool, i_str_tuple, i_str_list, i_str_str, i_tuple_int, i_tuple_bool, i_tuple_tuple, i_tuple_list, i_tuple_str, i_list_int, i_list_bool, i_list_tuple, i_list_list, i_list_str, i_dict_int, i_dict_bool, i_dict_tuple, i_dict_list, i_dict_str, up_same, g_02, g_02', g_01, g_11, at_0, at_1, ix_0, ix_1, Option.some.injEq, HQ.lst.injEq, exists_eq_left', exists_eq_left, exists_and_left, exists_eq', exists_eq, decide_eq_true_eq, if_true, if_false, ite_true, ite_false, Bool.false_eq_true, reduceIte, reduceCtorEq, Bool.not_true, Bool.not_false, Nat.zero_add, Nat.reduceAdd, Nat.reduceSub, Nat.reduceLeDiff, Nat.reduceLT, Int.reduceLT, Int.reduceLE, Int.reduceEq, Int.reduceNe, Nat.reduceEqDiff, Int.reduceToNat, Int.reducePow, Int.reduceMul, Int.reduceAdd, Int.reduceSub, Int.reduceNeg, and_true, true_and, decide_true, decide_false]
    refine ⟨by omega, t_lst (n2.get hfb hS), ?_⟩
    refine ⟨b, ns, rfl, hf, n2.bx, fun ms S3 hms n3 => ?_⟩
    refine ⟨b, ns, rfl, hf, n3.bx, fun ms2 S4 hms2 n4 => ?_⟩
    intro q hq
    refine pick_of n4.bx hq (by simp) (by simp) fun d S5 hd5 n5 => ?_
    have hf5 : S5 f = some (.lst (ls.map rowD)) := n5.get hfb (n4.get hfb (n3.get hfb (n2.get hfb hS)))
    have fl : ∀ {ns : List Int}, Fig ns → ns.length ≤ 1000 := fun {ns} hF => by obtain ⟨h, m, l, rfl, _, _, _, hm⟩ := hF; simp; omega
    have ho : ∃ o : Option (List Int), d = ofO o ∧ ∀ ns, o = some ns → ns.length ≤ 1000 := by
      simp only [List.mem_cons, List.not_mem_nil, or_false] at hd5
      rcases hd5 with rfl | rfl | rfl | rfl
      · exact ⟨none, rfl, fun _ h => by cases h⟩
      · exact ⟨some ns, rfl, fun _ h => by cases h; exact fl hf⟩
      · exact ⟨some ms, rfl, fun _ h => by cases h; exact fl hms⟩
      · exact ⟨some ms2, rfl, fun _ h => by cases h; exact fl hms2⟩
    obtain ⟨o, rfl, ho⟩ := ho
    have hcut : (cutS z none (some c)).length ≤ 6 := by
      unfold cutS Str.length
      rw [HT.sIx_none]
      simp only [List.size_toArray, List.length_take]
      obtain ⟨j, rfl⟩ := Int.eq_ofNat_of_zero_le hc'.1
      rw [HT.sIx_nat]
      omega
    simp only [rVar, rC, rBin, rUn, rTst, rChn, rTru, rAnd, rOr, rNot, rAndV, rOrV, rNotV, rIf, rNil, rCons, rTup, rLst, rFn, rCall, rCallK, rSl, rPrt, rNoP, rMt, gNm, q_gN, q_gC, q_gTp, gSb, rNext, rSeq, rDrop, rRet, rRetN, rBrk, rCnt, rIfS, rSet, rPar, rFor, iSeq, iLst, iRg1, iRg2, iZp, rLc, rYes, En.x, wipeD, start', List.getElem?_cons_zero, List.getElem?_cons_succ, List.set_cons_zero, List.set_cons_succ, List.map_cons, List.map_nil, List.length_cons, List.length_nil, List.cons_append, List.nil_append, List.replicate_succ, List.replicate_zero, id, q_asB, q_asI, q_add, q_addS, q_addT, q_addL, q_int, q_sub, q_mul, q_fdiv, q_mod, q_pow, q_neg, q_le, q_ge, q_gt, q_lt, q_ltT, q_isN, q_isB, q_isBi, q_isBs, q_isBn, q_isBt, q_isnt, n_non, n_bl, n_int, n_str, n_tup, n_ref, q_eq, q_eqS, q_eqB, q_ixT, q_ixK, q_ixL, q_ixS, q_slT, q_slL, q_slS, q_set, q_lenT, q_lenK, q_lenS, q_lenL, q_abs, q_intF, q_max, q_min, q_tupT, q_tupL, q_lstT, q_lstL, q_app, q_ext, q_joinL, q_stw, q_seq, q_lst, q_rng, q_rng2, q_zpT, q_zpL, q_truN, q_truB, q_truI, q_truT, q_truL, t_non, t_bl, t_int, t_str, t_tup, q_isiN, q_isiB, q_isiI, q_isiS, q_isiT, i_NoneType_int, i_NoneType_bool, i_NoneType_tuple, i_NoneType_list, i_NoneType_str, i_bool_int, i_bool_bool, i_bool_tuple, i_bool_list, i_bool_str, i_int_int, i_int_bool, i_int_tuple, i_int_list, i_int_str, i_str_int, i_str_bool, i_str_tuple, i_str_list, i_str_str, i_tuple_int, i_tuple_bool, i_tuple_tuple, i_tuple_list, i_tuple_str, i_list_int, i_list_bool, i_list_tuple, i_list_list, i_list_str, i_dict_int, i_dict_bool, i_dict_tuple, i_dict_list, i_dict_str, up_same, g_02, g_02', g_01, g_11, at_0, at_1, ix_0, ix_1, Option.some.injEq, HQ.lst.injEq, exists_eq_left', exists_eq_left, exists_and_left, exists_eq', exists_eq, decide_eq_true_eq, if_true, if_false, ite_true, ite_false, Bool.false_eq_true, reduceIte, reduceCtorEq, Bool.not_true, Bool.not_false, Nat.zero_add, Nat.reduceAdd, Nat.reduceSub, Nat.reduceLeDiff, Nat.reduceLT, Int.reduceLT, Int.reduceLE, Int.reduceEq, Int.reduceNe, Nat.reduceEqDiff, Int.reduceToNat, Int.reducePow, Int.reduceMul, Int.reduceAdd, Int.reduceSub, Int.reduceNeg, and_true, true_and, decide_true, decide_false, hf5]
    refine ⟨by simp; omega, hN _ _ ⟨n5.bx.put hfb, by omega, ls ++ [(cutS z none (some c), o)], _, _, rfl, ?_, ?_, by simp [hl]⟩⟩
    · rw [up_same]; simp [rowD]
    · intro l hl
      rcases List.mem_append.mp hl with h | h
      · exact hok l h
      · rw [List.mem_singleton] at h; subst h; exact ⟨hcut, ho⟩
  · obtain ⟨bx, hi, ls, y, w, rfl, hS, hok, hl⟩ := hp
    simp only [rVar, rC, rBin, rUn, rTst, rChn, rTru, rAnd, rOr, rNot, rAndV, rOrV, rNotV, rIf, rNil, rCons, rTup, rLst, rFn, rCall, rCallK, rSl, rPrt, rNoP, rMt, gNm, q_gN, q_gC, q_gTp, gSb, rNext, rSeq, rDrop, rRet, rRetN, rBrk, rCnt, rIfS, rSet, rPar, rFor, iSeq, iLst, iRg1, iRg2, iZp, rLc, rYes, En.x, wipeD, start', List.getElem?_cons_zero, List.getElem?_cons_succ, List.set_cons_zero, List.set_cons_succ, List.map_cons, List.map_nil, List.length_cons, List.length_nil, List.cons_append, List.nil_append, List.replicate_succ, List.replicate_zero, id, q_asB, q_asI, q_add, q_addS, q_addT, q_addL, q_int, q_sub, q_mul, q_fdiv, q_mod, q_pow, q_neg, q_le, q_ge, q_gt, q_lt, q_ltT, q_isN, q_isB, q_isBi, q_isBs, q_isBn, q_isBt, q_isnt, n_non, n_bl, n_int, n_str, n_tup, n_ref, q_eq, q_eqS, q_eqB, q_ixT, q_ixK, q_ixL, q_ixS, q_slT, q_slL, q_slS, q_set, q_lenT, q_lenK, q_lenS, q_lenL, q_abs, q_intF, q_max, q_min, q_tupT, q_tupL, q_lstT, q_lstL, q_app, q_ext, q_joinL, q_stw, q_seq, q_lst, q_rng, q_rng2, q_zpT, q_zpL, q_truN, q_truB, q_truI, q_truT, q_truL, t_non, t_bl, t_int, t_str, t_tup, q_isiN, q_isiB, q_isiI, q_isiS, q_isiT, i_NoneType_int, i_NoneType_bool, i_NoneType_tuple, i_NoneType_list, i_NoneType_str, i_bool_int, i_bool_bool, i_bool_tuple, i_bool_list, i_bool_str, i_int_int, i_int_bool, i_int_tuple, i_int_list, i_int_str, i_str_int, i_str_bool, i_str_tuple, i_str_list, i_str_str, i_tuple_int, i_tuple_bool, i_tuple_tuple, i_tuple_list, i_tuple_str, i_list_int, i_list_bool, i_list_tuple, i_list_list, i_list_str, i_dict_int, i_dict_bool, i_dict_tuple, i_dict_list, i_dict_str, up_same, g_02, g_02', g_01, g_11, at_0, at_1, ix_0, ix_1, Option.some.injEq, HQ.lst.injEq, exists_eq_left', exists_eq_left, exists_and_left, exists_eq', exists_eq, decide_eq_true_eq, if_true, if_false, ite_true, ite_false, Bool.false_eq_true, reduceIte, reduceCtorEq, Bool.not_true, Bool.not_false, Nat.zero_add, Nat.reduceAdd, Nat.reduceSub, Nat.reduceLeDiff, Nat.reduceLT, Int.reduceLT, Int.reduceLE, Int.reduceEq, Int.reduceNe, Nat.reduceEqDiff, Int.reduceToNat, Int.reducePow, Int.reduceMul, Int.reduceAdd, Int.reduceSub, Int.reduceNeg, and_true, true_and, decide_true, decide_false]
    rw [rangeD_len] at hl
    exact k f S' ls hS hok (by omega)

def sp_is_below : Sq := fun ds S Q _ => ∃ a b, ds = [ofO a, ofO b] ∧ Q (.bl (blw a b)) S
theorem ln_is_below : ∀ ds S Q E, sp_is_below ds S Q E → ds.length = 2 := by rintro _ _ _ _ ⟨b, n, rfl, _⟩; rfl
theorem nx_is_below : ∀ ds S Q E, sp_is_below ds S Q E → sp_is_below ds S Q NoX := fun _ _ _ _ h => h

def rd_is_below : RSt :=
 (rRet (rAndV (rBin isntD (rVar 0) (rC .non)) (rOrV (rBin isD (rVar 1) (rC .non)) (rBin ltD (rVar 0) (rVar 1)))))

theorem pu_is_below : ∀ ds S Q, sp_is_below ds S Q NoX → rd_is_below { nx := fun _ S => Q .non S, rt := Q } (start' 2 ds) S := by

  rintro _ S Q ⟨a, b, rfl, k⟩
  unfold rd_is_below
  cases a with
  | none => simp only [rVar, rC, rBin, rUn, rTst, rChn, rTru, rAnd, rOr, rNot, rAndV, rOrV, rNotV, rIf, rNil, rCons, rTup, rLst, rFn, rCall, rCallK, rSl, rPrt, rNoP, rMt, gNm, q_gN, q_gC, q_gTp, gSb, rNext, rSeq, rDrop, rRet, rRetN, rBrk, rCnt, rIfS, rSet, rPar, rFor, iSeq, iLst, iRg1, iRg2, iZp, rLc, rYes, En.x, wipeD, start', List.getElem?_cons_zero, List.getElem?_cons_succ, List.set_cons_zero, List.set_cons_succ, List.map_cons, List.map_nil, List.length_cons, List.length_nil, List.cons_append, List.nil_append, List.replicate_succ, List.replicate_zero, id, q_asB, q_asI, q_add, q_addS, q_addT, q_addL, q_int, q_sub, q_mul, q_fdiv, q_mod, q_pow, q_neg, q_le, q_ge, q_gt, q_lt, q_ltT, q_isN, q_isB, q_isBi, q_isBs, q_isBn, q_isBt, q_isnt, n_non, n_bl, n_int, n_str, n_tup, n_ref, q_eq, q_eqS, q_eqB, q_ixT, q_ixK, q_ixL, q_ixS, q_slT, q_slL, q_slS, q_set, q_lenT, q_lenK, q_lenS, q_lenL, q_abs, q_intF, q_max, q_min, q_tupT, q_tupL, q_lstT, q_lstL, q_app, q_ext, q_joinL, q_stw, q_seq, q_lst, q_rng, q_rng2, q_zpT, q_zpL, q_truN, q_truB, q_truI, q_truT, q_truL, t_non, t_bl, t_int, t_str, t_tup, q_isiN, q_isiB, q_isiI, q_isiS, q_isiT, i_NoneType_int, i_NoneType_bool, i_NoneType_tuple, i_NoneType_list, i_NoneType_str, i_bool_int, i_bool_bool, i_bool_tuple, i_bool_list, i_bool_str, i_int_int, i_int_bool, i_int_tuple, i_int_list, i_int_str, i_str_int, i_str_bool, i_str_tuple, i_str_list, i_str_str, i_tuple_int, i_tuple_bool, i_tuple_tuple, i_tuple_list, i_tuple_str, i_list_int, i_list_bool, i_list_tuple, i_list_list, i_list_str, i_dict_int, i_dict_bool, i_dict_tuple, i_dict_list, i_dict_str, up_same, g_02, g_02', g_01, g_11, at_0, at_1, ix_0, ix_1, Option.some.injEq, HQ.lst.injEq, exists_eq_left', exists_eq_left, exists_and_left, exists_eq', exists_eq, decide_eq_true_eq, if_true, if_false, ite_true, ite_false, Bool.false_eq_true, reduceIte, reduceCtorEq, Bool.not_true, Bool.not_false, Nat.zero_add, Nat.reduceAdd, Nat.reduceSub, Nat.reduceLeDiff, Nat.reduceLT, Int.reduceLT, Int.reduceLE, Int.reduceEq, Int.reduceNe, Nat.reduceEqDiff, Int.reduceToNat, Int.reducePow, Int.reduceMul, Int.reduceAdd, Int.reduceSub, Int.reduceNeg, and_true, true_and, decide_true, decide_false, ofO]; exact k
  | some a =>
    cases b with
    | none => simp only [rVar, rC, rBin, rUn, rTst, rChn, rTru, rAnd, rOr, rNot, rAndV, rOrV, rNotV, rIf, rNil, rCons, rTup, rLst, rFn, rCall, rCallK, rSl, rPrt, rNoP, rMt, gNm, q_gN, q_gC, q_gTp, gSb, rNext, rSeq, rDrop, rRet, rRetN, rBrk, rCnt, rIfS, rSet, rPar, rFor, iSeq, iLst, iRg1, iRg2, iZp, rLc, rYes, En.x, wipeD, start', List.getElem?_cons_zero, List.getElem?_cons_succ, List.set_cons_zero, List.set_cons_succ, List.map_cons, List.map_nil, List.length_cons, List.length_nil, List.cons_append, List.nil_append, List.replicate_succ, List.replicate_zero, id, q_asB, q_asI, q_add, q_addS, q_addT, q_addL, q_int, q_sub, q_mul, q_fdiv, q_mod, q_pow, q_neg, q_le, q_ge, q_gt, q_lt, q_ltT, q_isN, q_isB, q_isBi, q_isBs, q_isBn, q_isBt, q_isnt, n_non, n_bl, n_int, n_str, n_tup, n_ref, q_eq, q_eqS, q_eqB, q_ixT, q_ixK, q_ixL, q_ixS, q_slT, q_slL, q_slS, q_set, q_lenT, q_lenK, q_lenS, q_lenL, q_abs, q_intF, q_max, q_min, q_tupT, q_tupL, q_lstT, q_lstL, q_app, q_ext, q_joinL, q_stw, q_seq, q_lst, q_rng, q_rng2, q_zpT, q_zpL, q_truN, q_truB, q_truI, q_truT, q_truL, t_non, t_bl, t_int, t_str, t_tup, q_isiN, q_isiB, q_isiI, q_isiS, q_isiT, i_NoneType_int, i_NoneType_bool, i_NoneType_tuple, i_NoneType_list, i_NoneType_str, i_bool_int, i_bool_bool, i_bool_tuple, i_bool_list, i_bool_str, i_int_int, i_int_bool, i_int_tuple, i_int_list, i_int_str, i_str_int, i_str_bool, i_str_tuple, i_str_list, i_str_str, i_tuple_int, i_tuple_bool, i_tuple_tuple, i_tuple_list, i_tuple_str, i_list_int, i_list_bool, i_list_tuple, i_list_list, i_list_str, i_dict_int, i_dict_bool, i_dict_tuple, i_dict_list, i_dict_str, up_same, g_02, g_02', g_01, g_11, at_0, at_1, ix_0, ix_1, Option.some.injEq, HQ.lst.injEq, exists_eq_left', exists_eq_left, exists_and_left, exists_eq', exists_eq, decide_eq_true_eq, if_true, if_false, ite_true, ite_false, Bool.false_eq_true, reduceIte, reduceCtorEq, Bool.not_true, Bool.not_false, Nat.zero_add, Nat.reduceAdd, Nat.reduceSub, Nat.reduceLeDiff, Nat.reduceLT, Int.reduceLT, Int.reduceLE, Int.reduceEq, Int.reduceNe, Nat.reduceEqDiff, Int.reduceToNat, Int.reducePow, Int.reduceMul, Int.reduceAdd, Int.reduceSub, Int.reduceNeg, and_true, true_and, decide_true, decide_false, ofO]; exact k
    | some b => simp only [rVar, rC, rBin, rUn, rTst, rChn, rTru, rAnd, rOr, rNot, rAndV, rOrV, rNotV, rIf, rNil, rCons, rTup, rLst, rFn, rCall, rCallK, rSl, rPrt, rNoP, rMt, gNm, q_gN, q_gC, q_gTp, gSb, rNext, rSeq, rDrop, rRet, rRetN, rBrk, rCnt, rIfS, rSet, rPar, rFor, iSeq, iLst, iRg1, iRg2, iZp, rLc, rYes, En.x, wipeD, start', List.getElem?_cons_zero, List.getElem?_cons_succ, List.set_cons_zero, List.set_cons_succ, List.map_cons, List.map_nil, List.length_cons, List.length_nil, List.cons_append, List.nil_append, List.replicate_succ, List.replicate_zero, id, q_asB, q_asI, q_add, q_addS, q_addT, q_addL, q_int, q_sub, q_mul, q_fdiv, q_mod, q_pow, q_neg, q_le, q_ge, q_gt, q_lt, q_ltT, q_isN, q_isB, q_isBi, q_isBs, q_isBn, q_isBt, q_isnt, n_non, n_bl, n_int, n_str, n_tup, n_ref, q_eq, q_eqS, q_eqB, q_ixT, q_ixK, q_ixL, q_ixS, q_slT, q_slL, q_slS, q_set, q_lenT, q_lenK, q_lenS, q_lenL, q_abs, q_intF, q_max, q_min, q_tupT, q_tupL, q_lstT, q_lstL, q_app, q_ext, q_joinL, q_stw, q_seq, q_lst, q_rng, q_rng2, q_zpT, q_zpL, q_truN, q_truB, q_truI, q_truT, q_truL, t_non, t_bl, t_int, t_str, t_tup, q_isiN, q_isiB, q_isiI, q_isiS, q_isiT, i_NoneType_int, i_NoneType_bool, i_NoneType_tuple, i_NoneType_list, i_NoneType_str, i_bool_int, i_bool_bool, i_bool_tuple, i_bool_list, i_bool_str, i_int_int, i_int_bool, i_int_tuple, i_int_list, i_int_str, i_str_int, i_str_bool, i_str_tuple, i_str_list, i_str_str, i_tuple_int, i_tuple_bool, i_tuple_tuple, i_tuple_list, i_tuple_str, i_list_int, i_list_bool, i_list_tuple, i_list_list, i_list_str, i_dict_int, i_dict_bool, i_dict_tuple, i_dict_list, i_dict_str, up_same, g_02, g_02', g_01, g_11, at_0, at_1, ix_0, ix_1, Option.some.injEq, HQ.lst.injEq, exists_eq_left', exists_eq_left, exists_and_left, exists_eq', exists_eq, decide_eq_true_eq, if_true, if_false, ite_true, ite_false, Bool.false_eq_true, reduceIte, reduceCtorEq, Bool.not_true, Bool.not_false, Nat.zero_add, Nat.reduceAdd, Nat.reduceSub, Nat.reduceLeDiff, Nat.reduceLT, Int.reduceLT, Int.reduceLE, Int.reduceEq, Int.reduceNe, Nat.reduceEqDiff, Int.reduceToNat, Int.reducePow, Int.reduceMul, Int.reduceAdd, Int.reduceSub, Int.reduceNeg, and_true, true_and, decide_true, decide_false, ofO]; exact ⟨a, rfl, b, rfl, k⟩

def sp_least_of : Sq := fun ds S Q _ => ∃ os, ds = [.tup (os.map ofO)] ∧ Q (ofO (lst_of os)) S
theorem ln_least_of : ∀ ds S Q E, sp_least_of ds S Q E → ds.length = 1 := by rintro _ _ _ _ ⟨b, rfl, _⟩; rfl
theorem nx_least_of : ∀ ds S Q E, sp_least_of ds S Q E → sp_least_of ds S Q NoX := fun _ _ _ _ h => h

def rd_least_of : RSt :=
 (rSeq (rSet (rC .non) (gNm 1))
 (rSeq (rFor (iSeq (rVar 0)) (gNm 2)
 (rIfS (rTst (rCall sp_is_below (rCons (rVar 2) (rCons (rVar 1) rNil))))
 (rSet (rVar 2) (gNm 1))
 rNext))
 (rRet (rVar 1))))

theorem pu_least_of : ∀ ds S Q, sp_least_of ds S Q NoX → rd_least_of { nx := fun _ S => Q .non S, rt := Q } (start' 3 ds) S := by

  rintro _ S Q ⟨os, rfl, k⟩
  unfold rd_least_of
  simp only [rVar, rC, rBin, rUn, rTst, rChn, rTru, rAnd, rOr, rNot, rAndV, rOrV, rNotV, rIf, rNil, rCons, rTup, rLst, rFn, rCall, rCallK, rSl, rPrt, rNoP, rMt, gNm, q_gN, q_gC, q_gTp, gSb, rNext, rSeq, rDrop, rRet, rRetN, rBrk, rCnt, rIfS, rSet, rPar, rFor, iSeq, iLst, iRg1, iRg2, iZp, rLc, rYes, En.x, wipeD, start', List.getElem?_cons_zero, List.getElem?_cons_succ, List.set_cons_zero, List.set_cons_succ, List.map_cons, List.map_nil, List.length_cons, List.length_nil, List.cons_append, List.nil_append, List.replicate_succ, List.replicate_zero, id, q_asB, q_asI, q_add, q_addS, q_addT, q_addL, q_int, q_sub, q_mul, q_fdiv, q_mod, q_pow, q_neg, q_le, q_ge, q_gt, q_lt, q_ltT, q_isN, q_isB, q_isBi, q_isBs, q_isBn, q_isBt, q_isnt, n_non, n_bl, n_int, n_str, n_tup, n_ref, q_eq, q_eqS, q_eqB, q_ixT, q_ixK, q_ixL, q_ixS, q_slT, q_slL, q_slS, q_set, q_lenT, q_lenK, q_lenS, q_lenL, q_abs, q_intF, q_max, q_min, q_tupT, q_tupL, q_lstT, q_lstL, q_app, q_ext, q_joinL, q_stw, q_seq, q_lst, q_rng, q_rng2, q_zpT, q_zpL, q_truN, q_truB, q_truI, q_truT, q_truL, t_non, t_bl, t_int, t_str, t_tup, q_isiN, q_isiB, q_isiI, q_isiS, q_isiT, i_NoneType_int, i_NoneType_bool, i_NoneType_tuple, i_NoneType_list, i_NoneType_str, i_bool_int, i_bool_bool, i_bool_tuple, i_bool_list, i_bool_str, i_int_int, i_int_bool, i_int_tuple, i_int_list, i_int_str, i_str_int, i_str_bool, i_str_tuple, i_str_list, i_str_str, i_tuple_int, i_tuple_bool, i_tuple_tuple, i_tuple_list, i_tuple_str, i_list_int, i_list_bool, i_list_tuple, i_list_list, i_list_str, i_dict_int, i_dict_bool, i_dict_tuple, i_dict_list, i_dict_str, up_same, g_02, g_02', g_01, g_11, at_0, at_1, ix_0, ix_1, Option.some.injEq, HQ.lst.injEq, exists_eq_left', exists_eq_left, exists_and_left, exists_eq', exists_eq, decide_eq_true_eq, if_true, if_false, ite_true, ite_false, Bool.false_eq_true, reduceIte, reduceCtorEq, Bool.not_true, Bool.not_false, Nat.zero_add, Nat.reduceAdd, Nat.reduceSub, Nat.reduceLeDiff, Nat.reduceLT, Int.reduceLT, Int.reduceLE, Int.reduceEq, Int.reduceNe, Nat.reduceEqDiff, Int.reduceToNat, Int.reducePow, Int.reduceMul, Int.reduceAdd, Int.reduceSub, Int.reduceNeg, and_true, true_and, decide_true, decide_false]
  refine loop_idx (fun i σ S' => S' = S ∧ ∃ y, σ = [some (.tup (os.map ofO)), some (ofO ((os.take i).foldl (fun acc x => if blw x acc then x else acc) none)), y]) (fun _ _ _ _ _ => trivial) (fun i x σ S' hx hp N hN => ?_) (fun σ S' hp => ?_) ⟨rfl, none, rfl⟩
  · obtain ⟨rfl, y, rfl⟩ := hp
    rw [List.getElem?_map] at hx
    cases ho : os[i]? with
    | none => rw [ho] at hx; cases hx
    | some o =>
      rw [ho] at hx
      cases hx
      simp only [rVar, rC, rBin, rUn, rTst, rChn, rTru, rAnd, rOr, rNot, rAndV, rOrV, rNotV, rIf, rNil, rCons, rTup, rLst, rFn, rCall, rCallK, rSl, rPrt, rNoP, rMt, gNm, q_gN, q_gC, q_gTp, gSb, rNext, rSeq, rDrop, rRet, rRetN, rBrk, rCnt, rIfS, rSet, rPar, rFor, iSeq, iLst, iRg1, iRg2, iZp, rLc, rYes, En.x, wipeD, start', List.getElem?_cons_zero, List.getElem?_cons_succ, List.set_cons_zero, List.set_cons_succ, List.map_cons, List.map_nil, List.length_cons, List.length_nil, List.cons_append, List.nil_append, List.replicate_succ, List.replicate_zero, id, q_asB, q_asI, q_add, q_addS, q_addT, q_addL, q_int, q_sub, q_mul, q_fdiv, q_mod, q_pow, q_neg, q_le, q_ge, q_gt, q_lt, q_ltT, q_isN, q_isB, q_isBi, q_isBs, q_isBn, q_isBt, q_isnt, n_non, n_bl, n_int, n_str, n_tup, n_ref, q_eq, q_eqS, q_eqB, q_ixT, q_ixK, q_ixL, q_ixS, q_slT, q_slL, q_slS, q_set, q_lenT, q_lenK, q_lenS, q_lenL, q_abs, q_intF, q_max, q_min, q_tupT, q_tupL, q_lstT, q_lstL, q_app, q_ext, q_joinL, q_stw, q_seq, q_lst, q_rng, q_rng2, q_zpT, q_zpL, q_truN, q_truB, q_truI, q_truT, q_truL, t_non, t_bl, t_int, t_str, t_tup, q_isiN, q_isiB, q_isiI, q_isiS, q_isiT, i_NoneType_int, i_NoneType_bool, i_NoneType_tuple, i_NoneType_list, i_NoneType_str, i_bool_int, i_bool_bool, i_bool_tuple, i_bool_list, i_bool_str, i_int_int, i_int_bool, i_int_tuple, i_int_list, i_int_str, i_str_int, i_str_bool, i_str_tuple, i_str_list, i_str_str, i_tuple_int, i_tuple_bool, i_tuple_tuple, i_tuple_list, i_tuple_str, i_list_int, i_list_bool, i_list_tuple, i_list_list, i_list_str, i_dict_int, i_dict_bool, i_dict_tuple, i_dict_list, i_dict_str, up_same, g_02, g_02', g_01, g_11, at_0, at_1, ix_0, ix_1, Option.some.injEq, HQ.lst.injEq, exists_eq_left', exists_eq_left, exists_and_left, exists_eq', exists_eq, decide_eq_true_eq, if_true, if_false, ite_true, ite_false, Bool.false_eq_true, reduceIte, reduceCtorEq, Bool.not_true, Bool.not_false, Nat.zero_add, Nat.reduceAdd, Nat.reduceSub, Nat.reduceLeDiff, Nat.reduceLT, Int.reduceLT, Int.reduceLE, Int.reduceEq, Int.reduceNe, Nat.reduceEqDiff, Int.reduceToNat, Int.reducePow, Int.reduceMul, Int.reduceAdd, Int.reduceSub, Int.reduceNeg, and_true, true_and, decide_true, decide_false]
      refine ⟨o, _, rfl, ?_⟩
      have e : os.take (i + 1) = os.take i ++ [o] := by rw [List.take_add_one, ho]; rfl
      simp only [rVar, rC, rBin, rUn, rTst, rChn, rTru, rAnd, rOr, rNot, rAndV, rOrV, rNotV, rIf, rNil, rCons, rTup, rLst, rFn, rCall, rCallK, rSl, rPrt, rNoP, rMt, gNm, q_gN, q_gC, q_gTp, gSb, rNext, rSeq, rDrop, rRet, rRetN, rBrk, rCnt, rIfS, rSet, rPar, rFor, iSeq, iLst, iRg1, iRg2, iZp, rLc, rYes, En.x, wipeD, start', List.getElem?_cons_zero, List.getElem?_cons_succ, List.set_cons_zero, List.set_cons_succ, List.map_cons, List.map_nil, List.length_cons, List.length_nil, List.cons_append, List.nil_append, List.replicate_succ, List.replicate_zero, id, q_asB, q_asI, q_add, q_addS, q_addT, q_addL, q_int, q_sub, q_mul, q_fdiv, q_mod, q_pow, q_neg, q_le, q_ge, q_gt, q_lt, q_ltT, q_isN, q_isB, q_isBi, q_isBs, q_isBn, q_isBt, q_isnt, n_non, n_bl, n_int, n_str, n_tup, n_ref, q_eq, q_eqS, q_eqB, q_ixT, q_ixK, q_ixL, q_ixS, q_slT, q_slL, q_slS, q_set, q_lenT, q_lenK, q_lenS, q_lenL, q_abs, q_intF, q_max, q_min, q_tupT, q_tupL, q_lstT, q_lstL, q_app, q_ext, q_joinL, q_stw, q_seq, q_lst, q_rng, q_rng2, q_zpT, q_zpL, q_truN, q_truB, q_truI, q_truT, q_truL, t_non, t_bl, t_int, t_str, t_tup, q_isiN, q_isiB, q_isiI, q_isiS, q_isiT, i_NoneType_int, i_NoneType_bool, i_NoneType_tuple, i_NoneType_list, i_NoneType_str, i_bool_int, i_bool_bool, i_bool_tuple, i_bool_list, i_bool_str, i_int_int, i_int_bool, i_int_tuple, i_int_list, i_int_str, i_str_int, i_str_bool, i_str_tuple, i_str_list, i_str_str, i_tuple_int, i_tuple_bool, i_tuple_tuple, i_tuple_list, i_tuple_str, i_list_int, i_list_bool, i_list_tuple, i_list_list, i_list_str, i_dict_int, i_dict_bool, i_dict_tuple, i_dict_list, i_dict_str, up_same, g_02, g_02', g_01, g_11, at_0, at_1, ix_0, ix_1, Option.some.injEq, HQ.lst.injEq, exists_eq_left', exists_eq_left, exists_and_left, exists_eq', exists_eq, decide_eq_true_eq, if_true, if_false, ite_true, ite_false, Bool.false_eq_true, reduceIte, reduceCtorEq, Bool.not_true, Bool.not_false, Nat.zero_add, Nat.reduceAdd, Nat.reduceSub, Nat.reduceLeDiff, Nat.reduceLT, Int.reduceLT, Int.reduceLE, Int.reduceEq, Int.reduceNe, Nat.reduceEqDiff, Int.reduceToNat, Int.reducePow, Int.reduceMul, Int.reduceAdd, Int.reduceSub, Int.reduceNeg, and_true, true_and, decide_true, decide_false]
      split
      · rename_i hb
        refine hN _ _ ⟨rfl, some (ofO o), ?_⟩
        rw [e, List.foldl_append, List.foldl_cons, List.foldl_nil, if_pos hb]
      · rename_i hb
        refine hN _ _ ⟨rfl, some (ofO o), ?_⟩
        rw [e, List.foldl_append, List.foldl_cons, List.foldl_nil, if_neg hb]
  · obtain ⟨rfl, y, rfl⟩ := hp
    rw [List.length_map, List.take_length]
    simp only [rVar, rC, rBin, rUn, rTst, rChn, rTru, rAnd, rOr, rNot, rAndV, rOrV, rNotV, rIf, rNil, rCons, rTup, rLst, rFn, rCall, rCallK, rSl, rPrt, rNoP, rMt, gNm, q_gN, q_gC, q_gTp, gSb, rNext, rSeq, rDrop, rRet, rRetN, rBrk, rCnt, rIfS, rSet, rPar, rFor, iSeq, iLst, iRg1, iRg2, iZp, rLc, rYes, En.x, wipeD, start', List.getElem?_cons_zero, List.getElem?_cons_succ, List.set_cons_zero, List.set_cons_succ, List.map_cons, List.map_nil, List.length_cons, List.length_nil, List.cons_append, List.nil_append, List.replicate_succ, List.replicate_zero, id, q_asB, q_asI, q_add, q_addS, q_addT, q_addL, q_int, q_sub, q_mul, q_fdiv, q_mod, q_pow, q_neg, q_le, q_ge, q_gt, q_lt, q_ltT, q_isN, q_isB, q_isBi, q_isBs, q_isBn, q_isBt, q_isnt, n_non, n_bl, n_int, n_str, n_tup, n_ref, q_eq, q_eqS, q_eqB, q_ixT, q_ixK, q_ixL, q_ixS, q_slT, q_slL, q_slS, q_set, q_lenT, q_lenK, q_lenS, q_lenL, q_abs, q_intF, q_max, q_min, q_tupT, q_tupL, q_lstT, q_lstL, q_app, q_ext, q_joinL, q_stw, q_seq, q_lst, q_rng, q_rng2, q_zpT, q_zpL, q_truN, q_truB, q_truI, q_truT, q_truL, t_non, t_bl, t_int, t_str, t_tup, q_isiN, q_isiB, q_isiI, q_isiS, q_isiT, i_NoneType_int, i_NoneType_bool, i_NoneType_tuple, i_NoneType_list, i_NoneType_str, i_bool_int, i_bool_bool, i_bool_tuple, i_bool_list, i_bool_str, i_int_int, i_int_bool, i_int_tuple, i_int_list, i_int_str, i_str_int, i_str_bool, i_str_tuple, i_str_list, i_str_str, i_tuple_int, i_tuple_bool, i_tuple_tuple, i_tuple_list, i_tuple_str, i_list_int, i_list_bool, i_list_tuple, i_list_list, i_list_str, i_dict_int, i_dict_bool, i_dict_tuple, i_dict_list, i_dict_str, up_same, g_02, g_02', g_01, g_11, at_0, at_1, ix_0, ix_1, Option.some.injEq, HQ.lst.injEq, exists_eq_left', exists_eq_left, exists_and_left, exists_eq', exists_eq, decide_eq_true_eq, if_true, if_false, ite_true, ite_false, Bool.false_eq_true, reduceIte, reduceCtorEq, Bool.not_true, Bool.not_false, Nat.zero_add, Nat.reduceAdd, Nat.reduceSub, Nat.reduceLeDiff, Nat.reduceLT, Int.reduceLT, Int.reduceLE, Int.reduceEq, Int.reduceNe, Nat.reduceEqDiff, Int.reduceToNat, Int.reducePow, Int.reduceMul, Int.reduceAdd, Int.reduceSub, Int.reduceNeg, and_true, true_and, decide_true, decide_false]
    exact k

def sp_law_same (n : Nat) : Sq := fun ds S Q _ => ∃ d, ds = [d, d] ∧ Pn n d ∧ Q (.bl true) S
theorem ln_law_same : ∀ n ds S Q E, sp_law_same n ds S Q E → ds.length = 2 := by rintro _ _ _ _ _ ⟨b, rfl, _⟩; rfl
theorem nx_law_same : ∀ n ds S Q E, sp_law_same n ds S Q E → sp_law_same n ds S Q NoX := fun _ _ _ _ _ h => h
theorem zr_law_same : ∀ ds S Q E, sp_law_same 0 ds S Q E → False := by rintro _ _ _ _ ⟨b, rfl, h, _⟩; exact h

def rd_law_same (self : Sq) : RSt :=
 (rSeq (rIfS (rOr (rTst (rFn isiD (rCons (rVar 1) (rCons (rC (.ty "tuple")) rNil)))) (rTst (rFn isiD (rCons (rVar 1) (rCons (rC (.ty "list")) rNil)))))
 (rSeq (rSet (rIf (rTst (rFn isiD (rCons (rVar 1) (rCons (rC (.ty "tuple")) rNil)))) (rFn isiD (rCons (rVar 0) (rCons (rC (.ty "tuple")) rNil))) (rFn isiD (rCons (rVar 0) (rCons (rC (.ty "list")) rNil)))) (gNm 2))
 (rSeq (rIfS (rOr (rNot (rTru (rVar 2))) (rTst (rBin (eqD not) (rFn lenD (rCons (rVar 0) rNil)) (rFn lenD (rCons (rVar 1) rNil)))))
 (rRet (rC (.bl false)))
 rNext)
 (rSeq (rFor (iZp (rCons (rVar 0) (rCons (rVar 1) rNil))) (gTp 2 (gConss (gNm 3) (gConss (gNm 4) gNils)))
 (rIfS (rNot (rTst (rCall self (rCons (rVar 3) (rCons (rVar 4) rNil)))))
 (rRet (rC (.bl false)))
 rNext))
 (rRet (rC (.bl true))))))
 rNext)
 (rSeq (rIfS (rTst (rBin isD (rVar 1) (rC .non)))
 (rRet (rBin isD (rVar 0) (rC .non)))
 rNext)
 (rSeq (rIfS (rOr (rTst (rBin isD (rVar 1) (rC (.bl true)))) (rTst (rBin isD (rVar 1) (rC (.bl false)))))
 (rRet (rAndV (rFn isiD (rCons (rVar 0) (rCons (rC (.ty "bool")) rNil))) (rBin (eqD id) (rVar 0) (rVar 1))))
 rNext)
 (rSeq (rIfS (rTst (rFn isiD (rCons (rVar 1) (rCons (rC (.ty "int")) rNil))))
 (rRet (rAndV (rFn isiD (rCons (rVar 0) (rCons (rC (.ty "int")) rNil))) (rAndV (rNotV (rFn isiD (rCons (rVar 0) (rCons (rC (.ty "bool")) rNil)))) (rBin (eqD id) (rVar 0) (rVar 1)))))
 rNext)
 (rRet (rAndV (rFn isiD (rCons (rVar 0) (rCons (rC (.ty "str")) rNil))) (rAndV (rFn isiD (rCons (rVar 1) (rCons (rC (.ty "str")) rNil))) (rBin (eqD id) (rVar 0) (rVar 1)))))))))

theorem pu_law_same : ∀ n ds S Q, sp_law_same (n + 1) ds S Q NoX → rd_law_same (sp_law_same n) { nx := fun _ S => Q .non S, rt := Q } (start' 5 ds) S := by

  rintro n _ S Q ⟨d, rfl, hp, k⟩
  unfold rd_law_same
  cases d with
  | tup xs =>
    simp only [rVar, rC, rBin, rUn, rTst, rChn, rTru, rAnd, rOr, rNot, rAndV, rOrV, rNotV, rIf, rNil, rCons, rTup, rLst, rFn, rCall, rCallK, rSl, rPrt, rNoP, rMt, gNm, q_gN, q_gC, q_gTp, gSb, rNext, rSeq, rDrop, rRet, rRetN, rBrk, rCnt, rIfS, rSet, rPar, rFor, iSeq, iLst, iRg1, iRg2, iZp, rLc, rYes, En.x, wipeD, start', List.getElem?_cons_zero, List.getElem?_cons_succ, List.set_cons_zero, List.set_cons_succ, List.map_cons, List.map_nil, List.length_cons, List.length_nil, List.cons_append, List.nil_append, List.replicate_succ, List.replicate_zero, id, q_asB, q_asI, q_add, q_addS, q_addT, q_addL, q_int, q_sub, q_mul, q_fdiv, q_mod, q_pow, q_neg, q_le, q_ge, q_gt, q_lt, q_ltT, q_isN, q_isB, q_isBi, q_isBs, q_isBn, q_isBt, q_isnt, n_non, n_bl, n_int, n_str, n_tup, n_ref, q_eq, q_eqS, q_eqB, q_ixT, q_ixK, q_ixL, q_ixS, q_slT, q_slL, q_slS, q_set, q_lenT, q_lenK, q_lenS, q_lenL, q_abs, q_intF, q_max, q_min, q_tupT, q_tupL, q_lstT, q_lstL, q_app, q_ext, q_joinL, q_stw, q_seq, q_lst, q_rng, q_rng2, q_zpT, q_zpL, q_truN, q_truB, q_truI, q_truT, q_truL, t_non, t_bl, t_int, t_str, t_tup, q_isiN, q_isiB, q_isiI, q_isiS, q_isiT, i_NoneType_int, i_NoneType_bool, i_NoneType_tuple, i_NoneType_list, i_NoneType_str, i_bool_int, i_bool_bool, i_bool_tuple, i_bool_list, i_bool_str, i_int_int, i_int_bool, i_int_tuple, i_int_list, i_int_str, i_str_int, i_str_bool, i_str_tuple, i_str_list, i_str_str, i_tuple_int, i_tuple_bool, i_tuple_tuple, i_tuple_list, i_tuple_str, i_list_int, i_list_bool, i_list_tuple, i_list_list, i_list_str, i_dict_int, i_dict_bool, i_dict_tuple, i_dict_list, i_dict_str, up_same, g_02, g_02', g_01, g_11, at_0, at_1, ix_0, ix_1, Option.some.injEq, HQ.lst.injEq, exists_eq_left', exists_eq_left, exists_and_left, exists_eq', exists_eq, decide_eq_true_eq, if_true, if_false, ite_true, ite_false, Bool.false_eq_true, reduceIte, reduceCtorEq, Bool.not_true, Bool.not_false, Nat.zero_add, Nat.reduceAdd, Nat.reduceSub, Nat.reduceLeDiff, Nat.reduceLT, Int.reduceLT, Int.reduceLE, Int.reduceEq, Int.reduceNe, Nat.reduceEqDiff, Int.reduceToNat, Int.reducePow, Int.reduceMul, Int.reduceAdd, Int.reduceSub, Int.reduceNeg, and_true, true_and, decide_true, decide_false, bne_self_eq_false, ne_eq, not_true_eq_false, Bool.not_eq_true]
    refine loop_idx (fun i σ S' => S' = S ∧ ∃ y z w, σ = [some (.tup xs), some (.tup xs), y, z, w]) (fun _ _ _ _ _ => trivial) (fun i x σ S' hx hi N hN => ?_) (fun σ S' hi => ?_) ⟨rfl, _, _, _, rfl⟩
    · obtain ⟨rfl, y, z, w, rfl⟩ := hi
      obtain ⟨a, a', h1, h2, rfl⟩ := zipD_get hx
      rw [h1] at h2; cases h2
      simp only [rVar, rC, rBin, rUn, rTst, rChn, rTru, rAnd, rOr, rNot, rAndV, rOrV, rNotV, rIf, rNil, rCons, rTup, rLst, rFn, rCall, rCallK, rSl, rPrt, rNoP, rMt, gNm, q_gN, q_gC, q_gTp, gSb, rNext, rSeq, rDrop, rRet, rRetN, rBrk, rCnt, rIfS, rSet, rPar, rFor, iSeq, iLst, iRg1, iRg2, iZp, rLc, rYes, En.x, wipeD, start', List.getElem?_cons_zero, List.getElem?_cons_succ, List.set_cons_zero, List.set_cons_succ, List.map_cons, List.map_nil, List.length_cons, List.length_nil, List.cons_append, List.nil_append, List.replicate_succ, List.replicate_zero, id, q_asB, q_asI, q_add, q_addS, q_addT, q_addL, q_int, q_sub, q_mul, q_fdiv, q_mod, q_pow, q_neg, q_le, q_ge, q_gt, q_lt, q_ltT, q_isN, q_isB, q_isBi, q_isBs, q_isBn, q_isBt, q_isnt, n_non, n_bl, n_int, n_str, n_tup, n_ref, q_eq, q_eqS, q_eqB, q_ixT, q_ixK, q_ixL, q_ixS, q_slT, q_slL, q_slS, q_set, q_lenT, q_lenK, q_lenS, q_lenL, q_abs, q_intF, q_max, q_min, q_tupT, q_tupL, q_lstT, q_lstL, q_app, q_ext, q_joinL, q_stw, q_seq, q_lst, q_rng, q_rng2, q_zpT, q_zpL, q_truN, q_truB, q_truI, q_truT, q_truL, t_non, t_bl, t_int, t_str, t_tup, q_isiN, q_isiB, q_isiI, q_isiS, q_isiT, i_NoneType_int, i_NoneType_bool, i_NoneType_tuple, i_NoneType_list, i_NoneType_str, i_bool_int, i_bool_bool, i_bool_tuple, i_bool_list, i_bool_str, i_int_int, i_int_bool, i_int_tuple, i_int_list, i_int_str, i_str_int, i_str_bool, i_str_tuple, i_str_list, i_str_str, i_tuple_int, i_tuple_bool, i_tuple_tuple, i_tuple_list, i_tuple_str, i_list_int, i_list_bool, i_list_tuple, i_list_list, i_list_str, i_dict_int, i_dict_bool, i_dict_tuple, i_dict_list, i_dict_str, up_same, g_02, g_02', g_01, g_11, at_0, at_1, ix_0, ix_1, Option.some.injEq, HQ.lst.injEq, exists_eq_left', exists_eq_left, exists_and_left, exists_eq', exists_eq, decide_eq_true_eq, if_true, if_false, ite_true, ite_false, Bool.false_eq_true, reduceIte, reduceCtorEq, Bool.not_true, Bool.not_false, Nat.zero_add, Nat.reduceAdd, Nat.reduceSub, Nat.reduceLeDiff, Nat.reduceLT, Int.reduceLT, Int.reduceLE, Int.reduceEq, Int.reduceNe, Nat.reduceEqDiff, Int.reduceToNat, Int.reducePow, Int.reduceMul, Int.reduceAdd, Int.reduceSub, Int.reduceNeg, and_true, true_and, decide_true, decide_false]
      refine ⟨a, rfl, hp.2 a (List.mem_of_getElem? h1), ?_⟩
      simp only [rVar, rC, rBin, rUn, rTst, rChn, rTru, rAnd, rOr, rNot, rAndV, rOrV, rNotV, rIf, rNil, rCons, rTup, rLst, rFn, rCall, rCallK, rSl, rPrt, rNoP, rMt, gNm, q_gN, q_gC, q_gTp, gSb, rNext, rSeq, rDrop, rRet, rRetN, rBrk, rCnt, rIfS, rSet, rPar, rFor, iSeq, iLst, iRg1, iRg2, iZp, rLc, rYes, En.x, wipeD, start', List.getElem?_cons_zero, List.getElem?_cons_succ, List.set_cons_zero, List.set_cons_succ, List.map_cons, List.map_nil, List.length_cons, List.length_nil, List.cons_append, List.nil_append, List.replicate_succ, List.replicate_zero, id, q_asB, q_asI, q_add, q_addS, q_addT, q_addL, q_int, q_sub, q_mul, q_fdiv, q_mod, q_pow, q_neg, q_le, q_ge, q_gt, q_lt, q_ltT, q_isN, q_isB, q_isBi, q_isBs, q_isBn, q_isBt, q_isnt, n_non, n_bl, n_int, n_str, n_tup, n_ref, q_eq, q_eqS, q_eqB, q_ixT, q_ixK, q_ixL, q_ixS, q_slT, q_slL, q_slS, q_set, q_lenT, q_lenK, q_lenS, q_lenL, q_abs, q_intF, q_max, q_min, q_tupT, q_tupL, q_lstT, q_lstL, q_app, q_ext, q_joinL, q_stw, q_seq, q_lst, q_rng, q_rng2, q_zpT, q_zpL, q_truN, q_truB, q_truI, q_truT, q_truL, t_non, t_bl, t_int, t_str, t_tup, q_isiN, q_isiB, q_isiI, q_isiS, q_isiT, i_NoneType_int, i_NoneType_bool, i_NoneType_tuple, i_NoneType_list, i_NoneType_str, i_bool_int, i_bool_bool, i_bool_tuple, i_bool_list, i_bool_str, i_int_int, i_int_bool, i_int_tuple, i_int_list, i_int_str, i_str_int, i_str_bool, i_str_tuple, i_str_list, i_str_str, i_tuple_int, i_tuple_bool, i_tuple_tuple, i_tuple_list, i_tuple_str, i_list_int, i_list_bool, i_list_tuple, i_list_list, i_list_str, i_dict_int, i_dict_bool, i_dict_tuple, i_dict_list, i_dict_str, up_same, g_02, g_02', g_01, g_11, at_0, at_1, ix_0, ix_1, Option.some.injEq, HQ.lst.injEq, exists_eq_left', exists_eq_left, exists_and_left, exists_eq', exists_eq, decide_eq_true_eq, if_true, if_false, ite_true, ite_false, Bool.false_eq_true, reduceIte, reduceCtorEq, Bool.not_true, Bool.not_false, Nat.zero_add, Nat.reduceAdd, Nat.reduceSub, Nat.reduceLeDiff, Nat.reduceLT, Int.reduceLT, Int.reduceLE, Int.reduceEq, Int.reduceNe, Nat.reduceEqDiff, Int.reduceToNat, Int.reducePow, Int.reduceMul, Int.reduceAdd, Int.reduceSub, Int.reduceNeg, and_true, true_and, decide_true, decide_false]
      exact hN _ _ ⟨rfl, _, _, _, rfl⟩
    · obtain ⟨rfl, y, z, w, rfl⟩ := hi
      simp only [rVar, rC, rBin, rUn, rTst, rChn, rTru, rAnd, rOr, rNot, rAndV, rOrV, rNotV, rIf, rNil, rCons, rTup, rLst, rFn, rCall, rCallK, rSl, rPrt, rNoP, rMt, gNm, q_gN, q_gC, q_gTp, gSb, rNext, rSeq, rDrop, rRet, rRetN, rBrk, rCnt, rIfS, rSet, rPar, rFor, iSeq, iLst, iRg1, iRg2, iZp, rLc, rYes, En.x, wipeD, start', List.getElem?_cons_zero, List.getElem?_cons_succ, List.set_cons_zero, List.set_cons_succ, List.map_cons, List.map_nil, List.length_cons, List.length_nil, List.cons_append, List.nil_append, List.replicate_succ, List.replicate_zero, id, q_asB, q_asI, q_add, q_addS, q_addT, q_addL, q_int, q_sub, q_mul, q_fdiv, q_mod, q_pow, q_neg, q_le, q_ge, q_gt, q_lt, q_ltT, q_isN, q_isB, q_isBi, q_isBs, q_isBn, q_isBt, q_isnt, n_non, n_bl, n_int, n_str, n_tup, n_ref, q_eq, q_eqS, q_eqB, q_ixT, q_ixK, q_ixL, q_ixS, q_slT, q_slL, q_slS, q_set, q_lenT, q_lenK, q_lenS, q_lenL, q_abs, q_intF, q_max, q_min, q_tupT, q_tupL, q_lstT, q_lstL, q_app, q_ext, q_joinL, q_stw, q_seq, q_lst, q_rng, q_rng2, q_zpT, q_zpL, q_truN, q_truB, q_truI, q_truT, q_truL, t_non, t_bl, t_int, t_str, t_tup, q_isiN, q_isiB, q_isiI, q_isiS, q_isiT, i_NoneType_int, i_NoneType_bool, i_NoneType_tuple, i_NoneType_list, i_NoneType_str, i_bool_int, i_bool_bool, i_bool_tuple, i_bool_list, i_bool_str, i_int_int, i_int_bool, i_int_tuple, i_int_list, i_int_str, i_str_int, i_str_bool, i_str_tuple, i_str_list, i_str_str, i_tuple_int, i_tuple_bool, i_tuple_tuple, i_tuple_list, i_tuple_str, i_list_int, i_list_bool, i_list_tuple, i_list_list, i_list_str, i_dict_int, i_dict_bool, i_dict_tuple, i_dict_list, i_dict_str, up_same, g_02, g_02', g_01, g_11, at_0, at_1, ix_0, ix_1, Option.some.injEq, HQ.lst.injEq, exists_eq_left', exists_eq_left, exists_and_left, exists_eq', exists_eq, decide_eq_true_eq, if_true, if_false, ite_true, ite_false, Bool.false_eq_true, reduceIte, reduceCtorEq, Bool.not_true, Bool.not_false, Nat.zero_add, Nat.reduceAdd, Nat.reduceSub, Nat.reduceLeDiff, Nat.reduceLT, Int.reduceLT, Int.reduceLE, Int.reduceEq, Int.reduceNe, Nat.reduceEqDiff, Int.reduceToNat, Int.reducePow, Int.reduceMul, Int.reduceAdd, Int.reduceSub, Int.reduceNeg, and_true, true_and, decide_true, decide_false]
      exact k
  | non => simp only [rVar, rC, rBin, rUn, rTst, rChn, rTru, rAnd, rOr, rNot, rAndV, rOrV, rNotV, rIf, rNil, rCons, rTup, rLst, rFn, rCall, rCallK, rSl, rPrt, rNoP, rMt, gNm, q_gN, q_gC, q_gTp, gSb, rNext, rSeq, rDrop, rRet, rRetN, rBrk, rCnt, rIfS, rSet, rPar, rFor, iSeq, iLst, iRg1, iRg2, iZp, rLc, rYes, En.x, wipeD, start', List.getElem?_cons_zero, List.getElem?_cons_succ, List.set_cons_zero, List.set_cons_succ, List.map_cons, List.map_nil, List.length_cons, List.length_nil, List.cons_append, List.nil_append, List.replicate_succ, List.replicate_zero, id, q_asB, q_asI, q_add, q_addS, q_addT, q_addL, q_int, q_sub, q_mul, q_fdiv, q_mod, q_pow, q_neg, q_le, q_ge, q_gt, q_lt, q_ltT, q_isN, q_isB, q_isBi, q_isBs, q_isBn, q_isBt, q_isnt, n_non, n_bl, n_int, n_str, n_tup, n_ref, q_eq, q_eqS, q_eqB, q_ixT, q_ixK, q_ixL, q_ixS, q_slT, q_slL, q_slS, q_set, q_lenT, q_lenK, q_lenS, q_lenL, q_abs, q_intF, q_max, q_min, q_tupT, q_tupL, q_lstT, q_lstL, q_app, q_ext, q_joinL, q_stw, q_seq, q_lst, q_rng, q_rng2, q_zpT, q_zpL, q_truN, q_truB, q_truI, q_truT, q_truL, t_non, t_bl, t_int, t_str, t_tup, q_isiN, q_isiB, q_isiI, q_isiS, q_isiT, i_NoneType_int, i_NoneType_bool, i_NoneType_tuple, i_NoneType_list, i_NoneType_str, i_bool_int, i_bool_bool, i_bool_tuple, i_bool_list, i_bool_str, i_int_int, i_int_bool, i_int_tuple, i_int_list, i_int_str, i_str_int, i_str_bool, i_str_tuple, i_str_list, i_str_str, i_tuple_int, i_tuple_bool, i_tuple_tuple, i_tuple_list, i_tuple_str, i_list_int, i_list_bool, i_list_tuple, i_list_list, i_list_str, i_dict_int, i_dict_bool, i_dict_tuple, i_dict_list, i_dict_str, up_same, g_02, g_02', g_01, g_11, at_0, at_1, ix_0, ix_1, Option.some.injEq, HQ.lst.injEq, exists_eq_left', exists_eq_left, exists_and_left, exists_eq', exists_eq, decide_eq_true_eq, if_true, if_false, ite_true, ite_false, Bool.false_eq_true, reduceIte, reduceCtorEq, Bool.not_true, Bool.not_false, Nat.zero_add, Nat.reduceAdd, Nat.reduceSub, Nat.reduceLeDiff, Nat.reduceLT, Int.reduceLT, Int.reduceLE, Int.reduceEq, Int.reduceNe, Nat.reduceEqDiff, Int.reduceToNat, Int.reducePow, Int.reduceMul, Int.reduceAdd, Int.reduceSub, Int.reduceNeg, and_true, true_and, decide_true, decide_false]; exact k
  | bl v => cases v <;> (simp only [rVar, rC, rBin, rUn, rTst, rChn, rTru, rAnd, rOr, rNot, rAndV, rOrV, rNotV, rIf, rNil, rCons, rTup, rLst, rFn, rCall, rCallK, rSl, rPrt, rNoP, rMt, gNm, q_gN, q_gC, q_gTp, gSb, rNext, rSeq, rDrop, rRet, rRetN, rBrk, rCnt, rIfS, rSet, rPar, rFor, iSeq, iLst, iRg1, iRg2, iZp, rLc, rYes, En.x, wipeD, start', List.getElem?_cons_zero, List.getElem?_cons_succ, List.set_cons_zero, List.set_cons_succ, List.map_cons, List.map_nil, List.length_cons, List.length_nil, List.cons_append, List.nil_append, List.replicate_succ, List.replicate_zero, id, q_asB, q_asI, q_add, q_addS, q_addT, q_addL, q_int, q_sub, q_mul, q_fdiv, q_mod, q_pow, q_neg, q_le, q_ge, q_gt, q_lt, q_ltT, q_isN, q_isB, q_isBi, q_isBs, q_isBn, q_isBt, q_isnt, n_non, n_bl, n_int, n_str, n_tup, n_ref, q_eq, q_eqS, q_eqB, q_ixT, q_ixK, q_ixL, q_ixS, q_slT, q_slL, q_slS, q_set, q_lenT, q_lenK, q_lenS, q_lenL, q_abs, q_intF, q_max, q_min, q_tupT, q_tupL, q_lstT, q_lstL, q_app, q_ext, q_joinL, q_stw, q_seq, q_lst, q_rng, q_rng2, q_zpT, q_zpL, q_truN, q_truB, q_truI, q_truT, q_truL, t_non, t_bl, t_int, t_str, t_tup, q_isiN, q_isiB, q_isiI, q_isiS, q_isiT, i_NoneType_int, i_NoneType_bool, i_NoneType_tuple, i_NoneType_list, i_NoneType_str, i_bool_int, i_bool_bool, i_bool_tuple, i_bool_list, i_bool_str, i_int_int, i_int_bool, i_int_tuple, i_int_list, i_int_str, i_str_int, i_str_bool, i_str_tuple, i_str_list, i_str_str, i_tuple_int, i_tuple_bool, i_tuple_tuple, i_tuple_list, i_tuple_str, i_list_int, i_list_bool, i_list_tuple, i_list_list, i_list_str, i_dict_int, i_dict_bool, i_dict_tuple, i_dict_list, i_dict_str, up_same, g_02, g_02', g_01, g_11, at_0, at_1, ix_0, ix_1, Option.some.injEq, HQ.lst.injEq, exists_eq_left', exists_eq_left, exists_and_left, exists_eq', exists_eq, decide_eq_true_eq, if_true, if_false, ite_true, ite_false, Bool.false_eq_true, reduceIte, reduceCtorEq, Bool.not_true, Bool.not_false, Nat.zero_add, Nat.reduceAdd, Nat.reduceSub, Nat.reduceLeDiff, Nat.reduceLT, Int.reduceLT, Int.reduceLE, Int.reduceEq, Int.reduceNe, Nat.reduceEqDiff, Int.reduceToNat, Int.reducePow, Int.reduceMul, Int.reduceAdd, Int.reduceSub, Int.reduceNeg, and_true, true_and, decide_true, decide_false]; exact k)
  | int i => simp only [rVar, rC, rBin, rUn, rTst, rChn, rTru, rAnd, rOr, rNot, rAndV, rOrV, rNotV, rIf, rNil, rCons, rTup, rLst, rFn, rCall, rCallK, rSl, rPrt, rNoP, rMt, gNm, q_gN, q_gC, q_gTp, gSb, rNext, rSeq, rDrop, rRet, rRetN, rBrk, rCnt, rIfS, rSet, rPar, rFor, iSeq, iLst, iRg1, iRg2, iZp, rLc, rYes, En.x, wipeD, start', List.getElem?_cons_zero, List.getElem?_cons_succ, List.set_cons_zero, List.set_cons_succ, List.map_cons, List.map_nil, List.length_cons, List.length_nil, List.cons_append, List.nil_append, List.replicate_succ, List.replicate_zero, id, q_asB, q_asI, q_add, q_addS, q_addT, q_addL, q_int, q_sub, q_mul, q_fdiv, q_mod, q_pow, q_neg, q_le, q_ge, q_gt, q_lt, q_ltT, q_isN, q_isB, q_isBi, q_isBs, q_isBn, q_isBt, q_isnt, n_non, n_bl, n_int, n_str, n_tup, n_ref, q_eq, q_eqS, q_eqB, q_ixT, q_ixK, q_ixL, q_ixS, q_slT, q_slL, q_slS, q_set, q_lenT, q_lenK, q_lenS, q_lenL, q_abs, q_intF, q_max, q_min, q_tupT, q_tupL, q_lstT, q_lstL, q_app, q_ext, q_joinL, q_stw, q_seq, q_lst, q_rng, q_rng2, q_zpT, q_zpL, q_truN, q_truB, q_truI, q_truT, q_truL, t_non, t_bl, t_int, t_str, t_tup, q_isiN, q_isiB, q_isiI, q_isiS, q_isiT, i_NoneType_int, i_NoneType_bool, i_NoneType_tuple, i_NoneType_list, i_NoneType_str, i_bool_int, i_bool_bool, i_bool_tuple, i_bool_list, i_bool_str, i_int_int, i_int_bool, i_int_tuple, i_int_list, i_int_str, i_str_int, i_str_bool, i_str_tuple, i_str_list, i_str_str, i_tuple_int, i_tuple_bool, i_tuple_tuple, i_tuple_list, i_tuple_str, i_list_int, i_list_bool, i_list_tuple, i_list_list, i_list_str, i_dict_int, i_dict_bool, i_dict_tuple, i_dict_list, i_dict_str, up_same, g_02, g_02', g_01, g_11, at_0, at_1, ix_0, ix_1, Option.some.injEq, HQ.lst.injEq, exists_eq_left', exists_eq_left, exists_and_left, exists_eq', exists_eq, decide_eq_true_eq, if_true, if_false, ite_true, ite_false, Bool.false_eq_true, reduceIte, reduceCtorEq, Bool.not_true, Bool.not_false, Nat.zero_add, Nat.reduceAdd, Nat.reduceSub, Nat.reduceLeDiff, Nat.reduceLT, Int.reduceLT, Int.reduceLE, Int.reduceEq, Int.reduceNe, Nat.reduceEqDiff, Int.reduceToNat, Int.reducePow, Int.reduceMul, Int.reduceAdd, Int.reduceSub, Int.reduceNeg, and_true, true_and, decide_true, decide_false]; exact k
  | str z => simp only [rVar, rC, rBin, rUn, rTst, rChn, rTru, rAnd, rOr, rNot, rAndV, rOrV, rNotV, rIf, rNil, rCons, rTup, rLst, rFn, rCall, rCallK, rSl, rPrt, rNoP, rMt, gNm, q_gN, q_gC, q_gTp, gSb, rNext, rSeq, rDrop, rRet, rRetN, rBrk, rCnt, rIfS, rSet, rPar, rFor, iSeq, iLst, iRg1, iRg2, iZp, rLc, rYes, En.x, wipeD, start', List.getElem?_cons_zero, List.getElem?_cons_succ, List.set_cons_zero, List.set_cons_succ, List.map_cons, List.map_nil, List.length_cons, List.length_nil, List.cons_append, List.nil_append, List.replicate_succ, List.replicate_zero, id, q_asB, q_asI, q_add, q_addS, q_addT, q_addL, q_int, q_sub, q_mul, q_fdiv, q_mod, q_pow, q_neg, q_le, q_ge, q_gt, q_lt, q_ltT, q_isN, q_isB, q_isBi, q_isBs, q_isBn, q_isBt, q_isnt, n_non, n_bl, n_int, n_str, n_tup, n_ref, q_eq, q_eqS, q_eqB, q_ixT, q_ixK, q_ixL, q_ixS, q_slT, q_slL, q_slS, q_set, q_lenT, q_lenK, q_lenS, q_lenL, q_abs, q_intF, q_max, q_min, q_tupT, q_tupL, q_lstT, q_lstL, q_app, q_ext, q_joinL, q_stw, q_seq, q_lst, q_rng, q_rng2, q_zpT, q_zpL, q_truN, q_truB, q_truI, q_truT, q_truL, t_non, t_bl, t_int, t_str, t_tup, q_isiN, q_isiB, q_isiI, q_isiS, q_isiT, i_NoneType_int, i_NoneType_bool, i_NoneType_tuple, i_NoneType_list, i_NoneType_str, i_bool_int, i_bool_bool, i_bool_tuple, i_bool_list, i_bool_str, i_int_int, i_int_bool, i_int_tuple, i_int_list, i_int_str, i_str_int, i_str_bool, i_str_tuple, i_str_list, i_str_str, i_tuple_int, i_tuple_bool, i_tuple_tuple, i_tuple_list, i_tuple_str, i_list_int, i_list_bool, i_list_tuple, i_list_list, i_list_str, i_dict_int, i_dict_bool, i_dict_tuple, i_dict_list, i_dict_str, up_same, g_02, g_02', g_01, g_11, at_0, at_1, ix_0, ix_1, Option.some.injEq, HQ.lst.injEq, exists_eq_left', exists_eq_left, exists_and_left, exists_eq', exists_eq, decide_eq_true_eq, if_true, if_false, ite_true, ite_false, Bool.false_eq_true, reduceIte, reduceCtorEq, Bool.not_true, Bool.not_false, Nat.zero_add, Nat.reduceAdd, Nat.reduceSub, Nat.reduceLeDiff, Nat.reduceLT, Int.reduceLT, Int.reduceLE, Int.reduceEq, Int.reduceNe, Nat.reduceEqDiff, Int.reduceToNat, Int.reducePow, Int.reduceMul, Int.reduceAdd, Int.reduceSub, Int.reduceNeg, and_true, true_and, decide_true, decide_false]; exact k
  | _ => exact hp.elim

def sp_key_of : Sq := fun ds S Q _ => ∃ z o, ds = [.str z, ofO o] ∧ z.length ≤ 1000 ∧ (∀ ns, o = some ns → ns.length ≤ 100000) ∧ Q (ofO (keyO z o)) S
theorem ln_key_of : ∀ ds S Q E, sp_key_of ds S Q E → ds.length = 2 := by rintro _ _ _ _ ⟨b, n, rfl, _⟩; rfl
theorem nx_key_of : ∀ ds S Q E, sp_key_of ds S Q E → sp_key_of ds S Q NoX := fun _ _ _ _ h => h

def rd_key_of : RSt :=
 (rSeq (rIfS (rTst (rBin isD (rVar 1) (rC .non)))
 (rRet (rC .non))
 rNext)
 (rRet (rBin addD (rTup (rCons (rBin subD (rC (.int 6)) (rFn lenD (rCons (rVar 0) rNil))) rNil)) (rVar 1))))

theorem pu_key_of : ∀ ds S Q, sp_key_of ds S Q NoX → rd_key_of { nx := fun _ S => Q .non S, rt := Q } (start' 2 ds) S := by

  rintro _ S Q ⟨z, o, rfl, hz, ho, k⟩
  unfold rd_key_of
  cases o with
  | none => simp only [rVar, rC, rBin, rUn, rTst, rChn, rTru, rAnd, rOr, rNot, rAndV, rOrV, rNotV, rIf, rNil, rCons, rTup, rLst, rFn, rCall, rCallK, rSl, rPrt, rNoP, rMt, gNm, q_gN, q_gC, q_gTp, gSb, rNext, rSeq, rDrop, rRet, rRetN, rBrk, rCnt, rIfS, rSet, rPar, rFor, iSeq, iLst, iRg1, iRg2, iZp, rLc, rYes, En.x, wipeD, start', List.getElem?_cons_zero, List.getElem?_cons_succ, List.set_cons_zero, List.set_cons_succ, List.map_cons, List.map_nil, List.length_cons, List.length_nil, List.cons_append, List.nil_append, List.replicate_succ, List.replicate_zero, id, q_asB, q_asI, q_add, q_addS, q_addT, q_addL, q_int, q_sub, q_mul, q_fdiv, q_mod, q_pow, q_neg, q_le, q_ge, q_gt, q_lt, q_ltT, q_isN, q_isB, q_isBi, q_isBs, q_isBn, q_isBt, q_isnt, n_non, n_bl, n_int, n_str, n_tup, n_ref, q_eq, q_eqS, q_eqB, q_ixT, q_ixK, q_ixL, q_ixS, q_slT, q_slL, q_slS, q_set, q_lenT, q_lenK, q_lenS, q_lenL, q_abs, q_intF, q_max, q_min, q_tupT, q_tupL, q_lstT, q_lstL, q_app, q_ext, q_joinL, q_stw, q_seq, q_lst, q_rng, q_rng2, q_zpT, q_zpL, q_truN, q_truB, q_truI, q_truT, q_truL, t_non, t_bl, t_int, t_str, t_tup, q_isiN, q_isiB, q_isiI, q_isiS, q_isiT, i_NoneType_int, i_NoneType_bool, i_NoneType_tuple, i_NoneType_list, i_NoneType_str, i_bool_int, i_bool_bool, i_bool_tuple, i_bool_list, i_bool_str, i_int_int, i_int_bool, i_int_tuple, i_int_list, i_int_str, i_str_int, i_str_bool, i_str_tuple, i_str_list, i_str_str, i_tuple_int, i_tuple_bool, i_tuple_tuple, i_tuple_list, i_tuple_str, i_list_int, i_list_bool, i_list_tuple, i_list_list, i_list_str, i_dict_int, i_dict_bool, i_dict_tuple, i_dict_list, i_dict_str, up_same, g_02, g_02', g_01, g_11, at_0, at_1, ix_0, ix_1, Option.some.injEq, HQ.lst.injEq, exists_eq_left', exists_eq_left, exists_and_left, exists_eq', exists_eq, decide_eq_true_eq, if_true, if_false, ite_true, ite_false, Bool.false_eq_true, reduceIte, reduceCtorEq, Bool.not_true, Bool.not_false, Nat.zero_add, Nat.reduceAdd, Nat.reduceSub, Nat.reduceLeDiff, Nat.reduceLT, Int.reduceLT, Int.reduceLE, Int.reduceEq, Int.reduceNe, Nat.reduceEqDiff, Int.reduceToNat, Int.reducePow, Int.reduceMul, Int.reduceAdd, Int.reduceSub, Int.reduceNeg, and_true, true_and, decide_true, decide_false, ofO]; exact k
  | some ns =>
    simp only [rVar, rC, rBin, rUn, rTst, rChn, rTru, rAnd, rOr, rNot, rAndV, rOrV, rNotV, rIf, rNil, rCons, rTup, rLst, rFn, rCall, rCallK, rSl, rPrt, rNoP, rMt, gNm, q_gN, q_gC, q_gTp, gSb, rNext, rSeq, rDrop, rRet, rRetN, rBrk, rCnt, rIfS, rSet, rPar, rFor, iSeq, iLst, iRg1, iRg2, iZp, rLc, rYes, En.x, wipeD, start', List.getElem?_cons_zero, List.getElem?_cons_succ, List.set_cons_zero, List.set_cons_succ, List.map_cons, List.map_nil, List.length_cons, List.length_nil, List.cons_append, List.nil_append, List.replicate_succ, List.replicate_zero, id, q_asB, q_asI, q_add, q_addS, q_addT, q_addL, q_int, q_sub, q_mul, q_fdiv, q_mod, q_pow, q_neg, q_le, q_ge, q_gt, q_lt, q_ltT, q_isN, q_isB, q_isBi, q_isBs, q_isBn, q_isBt, q_isnt, n_non, n_bl, n_int, n_str, n_tup, n_ref, q_eq, q_eqS, q_eqB, q_ixT, q_ixK, q_ixL, q_ixS, q_slT, q_slL, q_slS, q_set, q_lenT, q_lenK, q_lenS, q_lenL, q_abs, q_intF, q_max, q_min, q_tupT, q_tupL, q_lstT, q_lstL, q_app, q_ext, q_joinL, q_stw, q_seq, q_lst, q_rng, q_rng2, q_zpT, q_zpL, q_truN, q_truB, q_truI, q_truT, q_truL, t_non, t_bl, t_int, t_str, t_tup, q_isiN, q_isiB, q_isiI, q_isiS, q_isiT, i_NoneType_int, i_NoneType_bool, i_NoneType_tuple, i_NoneType_list, i_NoneType_str, i_bool_int, i_bool_bool, i_bool_tuple, i_bool_list, i_bool_str, i_int_int, i_int_bool, i_int_tuple, i_int_list, i_int_str, i_str_int, i_str_bool, i_str_tuple, i_str_list, i_str_str, i_tuple_int, i_tuple_bool, i_tuple_tuple, i_tuple_list, i_tuple_str, i_list_int, i_list_bool, i_list_tuple, i_list_list, i_list_str, i_dict_int, i_dict_bool, i_dict_tuple, i_dict_list, i_dict_str, up_same, g_02, g_02', g_01, g_11, at_0, at_1, ix_0, ix_1, Option.some.injEq, HQ.lst.injEq, exists_eq_left', exists_eq_left, exists_and_left, exists_eq', exists_eq, decide_eq_true_eq, if_true, if_false, ite_true, ite_false, Bool.false_eq_true, reduceIte, reduceCtorEq, Bool.not_true, Bool.not_false, Nat.zero_add, Nat.reduceAdd, Nat.reduceSub, Nat.reduceLeDiff, Nat.reduceLT, Int.reduceLT, Int.reduceLE, Int.reduceEq, Int.reduceNe, Nat.reduceEqDiff, Int.reduceToNat, Int.reducePow, Int.reduceMul, Int.reduceAdd, Int.reduceSub, Int.reduceNeg, and_true, true_and, decide_true, decide_false, ofO]
    refine ⟨by omega, ?_⟩
    have := ho ns rfl
    exact ⟨by rw [List.length_map]; omega, k⟩

def sp_law_less : Sq := fun ds S Q _ => ∃ ns ms : List Int, ds = [.tup (ns.map D.int), .tup (ms.map D.int)] ∧ ns.length ≤ 1000 ∧ ms.length ≤ 1000 ∧ Q (.bl (HT.lexLt ns ms)) S
theorem ln_law_less : ∀ ds S Q E, sp_law_less ds S Q E → ds.length = 2 := by rintro _ _ _ _ ⟨b, n, rfl, _⟩; rfl
theorem nx_law_less : ∀ ds S Q E, sp_law_less ds S Q E → sp_law_less ds S Q NoX := fun _ _ _ _ h => h

def rd_law_less : RSt :=
 (rSeq (rFor (iRg1 (rCons (rFn minD (rCons (rFn lenD (rCons (rVar 0) rNil)) (rCons (rFn lenD (rCons (rVar 1) rNil)) rNil))) rNil)) (gNm 2)
 (rIfS (rTst (rBin (eqD not) (rBin ixD (rVar 0) (rVar 2)) (rBin ixD (rVar 1) (rVar 2))))
 (rRet (rBin ltD (rBin ixD (rVar 0) (rVar 2)) (rBin ixD (rVar 1) (rVar 2))))
 rNext))
 (rRet (rBin ltD (rFn lenD (rCons (rVar 0) rNil)) (rFn lenD (rCons (rVar 1) rNil)))))

theorem pu_law_less : ∀ ds S Q, sp_law_less ds S Q NoX → rd_law_less { nx := fun _ S => Q .non S, rt := Q } (start' 3 ds) S := by

  rintro _ S Q ⟨ns, ms, rfl, hn, hm, k⟩
  unfold rd_law_less
  simp only [rVar, rC, rBin, rUn, rTst, rChn, rTru, rAnd, rOr, rNot, rAndV, rOrV, rNotV, rIf, rNil, rCons, rTup, rLst, rFn, rCall, rCallK, rSl, rPrt, rNoP, rMt, gNm, q_gN, q_gC, q_gTp, gSb, rNext, rSeq, rDrop, rRet, rRetN, rBrk, rCnt, rIfS, rSet, rPar, rFor, iSeq, iLst, iRg1, iRg2, iZp, rLc, rYes, En.x, wipeD, start', List.getElem?_cons_zero, List.getElem?_cons_succ, List.set_cons_zero, List.set_cons_succ, List.map_cons, List.map_nil, List.length_cons, List.length_nil, List.cons_append, List.nil_append, List.replicate_succ, List.replicate_zero, id, q_asB, q_asI, q_add, q_addS, q_addT, q_addL, q_int, q_sub, q_mul, q_fdiv, q_mod, q_pow, q_neg, q_le, q_ge, q_gt, q_lt, q_ltT, q_isN, q_isB, q_isBi, q_isBs, q_isBn, q_isBt, q_isnt, n_non, n_bl, n_int, n_str, n_tup, n_ref, q_eq, q_eqS, q_eqB, q_ixT, q_ixK, q_ixL, q_ixS, q_slT, q_slL, q_slS, q_set, q_lenT, q_lenK, q_lenS, q_lenL, q_abs, q_intF, q_max, q_min, q_tupT, q_tupL, q_lstT, q_lstL, q_app, q_ext, q_joinL, q_stw, q_seq, q_lst, q_rng, q_rng2, q_zpT, q_zpL, q_truN, q_truB, q_truI, q_truT, q_truL, t_non, t_bl, t_int, t_str, t_tup, q_isiN, q_isiB, q_isiI, q_isiS, q_isiT, i_NoneType_int, i_NoneType_bool, i_NoneType_tuple, i_NoneType_list, i_NoneType_str, i_bool_int, i_bool_bool, i_bool_tuple, i_bool_list, i_bool_str, i_int_int, i_int_bool, i_int_tuple, i_int_list, i_int_str, i_str_int, i_str_bool, i_str_tuple, i_str_list, i_str_str, i_tuple_int, i_tuple_bool, i_tuple_tuple, i_tuple_list, i_tuple_str, i_list_int, i_list_bool, i_list_tuple, i_list_list, i_list_str, i_dict_int, i_dict_bool, i_dict_tuple, i_dict_list, i_dict_str, up_same, g_02, g_02', g_01, g_11, at_0, at_1, ix_0, ix_1, Option.some.injEq, HQ.lst.injEq, exists_eq_left', exists_eq_left, exists_and_left, exists_eq', exists_eq, decide_eq_true_eq, if_true, if_false, ite_true, ite_false, Bool.false_eq_true, reduceIte, reduceCtorEq, Bool.not_true, Bool.not_false, Nat.zero_add, Nat.reduceAdd, Nat.reduceSub, Nat.reduceLeDiff, Nat.reduceLT, Int.reduceLT, Int.reduceLE, Int.reduceEq, Int.reduceNe, Nat.reduceEqDiff, Int.reduceToNat, Int.reducePow, Int.reduceMul, Int.reduceAdd, Int.reduceSub, Int.reduceNeg, and_true, true_and, decide_true, decide_false, List.length_map]
  refine ⟨⟨by split <;> omega, by split <;> omega⟩, ?_⟩
  have hmin : (if (ms.length : Int) < ns.length then (ms.length : Int) else ns.length).toNat = min ns.length ms.length := by split <;> omega
  rw [hmin]
  refine loop_idx (fun i σ S' => S' = S ∧ i ≤ min ns.length ms.length ∧ HT.lexLt (ns.drop i) (ms.drop i) = HT.lexLt ns ms ∧ ∃ y, σ = [some (.tup (ns.map D.int)), some (.tup (ms.map D.int)), y]) (fun _ _ _ _ _ => trivial) (fun i x σ S' hx hp N hN => ?_) (fun σ S' hp => ?_) ⟨rfl, by omega, rfl, none, rfl⟩
  · obtain ⟨rfl, _, e, y, rfl⟩ := hp
    obtain ⟨hi, rfl⟩ := rangeD_get hx
    have h1 : i < ns.length := by omega
    have h2 : i < ms.length := by omega
    have a1 : atI (ns.map D.int) (0 + (i : Int)) = some (.int ns[i]) := by rw [Int.zero_add]; exact atI_nat (by rw [List.getElem?_map, List.getElem?_eq_getElem h1]; rfl)
    have a2 : atI (ms.map D.int) (0 + (i : Int)) = some (.int ms[i]) := by rw [Int.zero_add]; exact atI_nat (by rw [List.getElem?_map, List.getElem?_eq_getElem h2]; rfl)
    rw [List.drop_eq_getElem_cons h1, List.drop_eq_getElem_cons h2, HT.lexLt_cons] at e
    simp only [rVar, rC, rBin, rUn, rTst, rChn, rTru, rAnd, rOr, rNot, rAndV, rOrV, rNotV, rIf, rNil, rCons, rTup, rLst, rFn, rCall, rCallK, rSl, rPrt, rNoP, rMt, gNm, q_gN, q_gC, q_gTp, gSb, rNext, rSeq, rDrop, rRet, rRetN, rBrk, rCnt, rIfS, rSet, rPar, rFor, iSeq, iLst, iRg1, iRg2, iZp, rLc, rYes, En.x, wipeD, start', List.getElem?_cons_zero, List.getElem?_cons_succ, List.set_cons_zero, List.set_cons_succ, List.map_cons, List.map_nil, List.length_cons, List.length_nil, List.cons_append, List.nil_append, List.replicate_succ, List.replicate_zero, id, q_asB, q_asI, q_add, q_addS, q_addT, q_addL, q_int, q_sub, q_mul, q_fdiv, q_mod, q_pow, q_neg, q_le, q_ge, q_gt, q_lt, q_ltT, q_isN, q_isB, q_isBi, q_isBs, q_isBn, q_isBt, q_isnt, n_non, n_bl, n_int, n_str, n_tup, n_ref, q_eq, q_eqS, q_eqB, q_ixT, q_ixK, q_ixL, q_ixS, q_slT, q_slL, q_slS, q_set, q_lenT, q_lenK, q_lenS, q_lenL, q_abs, q_intF, q_max, q_min, q_tupT, q_tupL, q_lstT, q_lstL, q_app, q_ext, q_joinL, q_stw, q_seq, q_lst, q_rng, q_rng2, q_zpT, q_zpL, q_truN, q_truB, q_truI, q_truT, q_truL, t_non, t_bl, t_int, t_str, t_tup, q_isiN, q_isiB, q_isiI, q_isiS, q_isiT, i_NoneType_int, i_NoneType_bool, i_NoneType_tuple, i_NoneType_list, i_NoneType_str, i_bool_int, i_bool_bool, i_bool_tuple, i_bool_list, i_bool_str, i_int_int, i_int_bool, i_int_tuple, i_int_list, i_int_str, i_str_int, i_str_bool, i_str_tuple, i_str_list, i_str_str, i_tuple_int, i_tuple_bool, i_tuple_tuple, i_tuple_list, i_tuple_str, i_list_int, i_list_bool, i_list_tuple, i_list_list, i_list_str, i_dict_int, i_dict_bool, i_dict_tuple, i_dict_list, i_dict_str, up_same, g_02, g_02', g_01, g_11, at_0, at_1, ix_0, ix_1, Option.some.injEq, HQ.lst.injEq, exists_eq_left', exists_eq_left, exists_and_left, exists_eq', exists_eq, decide_eq_true_eq, if_true, if_false, ite_true, ite_false, Bool.false_eq_true, reduceIte, reduceCtorEq, Bool.not_true, Bool.not_false, Nat.zero_add, Nat.reduceAdd, Nat.reduceSub, Nat.reduceLeDiff, Nat.reduceLT, Int.reduceLT, Int.reduceLE, Int.reduceEq, Int.reduceNe, Nat.reduceEqDiff, Int.reduceToNat, Int.reducePow, Int.reduceMul, Int.reduceAdd, Int.reduceSub, Int.reduceNeg, and_true, true_and, decide_true, decide_false, a1, a2]
    by_cases c : ns[i] = ms[i]
    · rw [if_pos c] at e
      simp only [c, rVar, rC, rBin, rUn, rTst, rChn, rTru, rAnd, rOr, rNot, rAndV, rOrV, rNotV, rIf, rNil, rCons, rTup, rLst, rFn, rCall, rCallK, rSl, rPrt, rNoP, rMt, gNm, q_gN, q_gC, q_gTp, gSb, rNext, rSeq, rDrop, rRet, rRetN, rBrk, rCnt, rIfS, rSet, rPar, rFor, iSeq, iLst, iRg1, iRg2, iZp, rLc, rYes, En.x, wipeD, start', List.getElem?_cons_zero, List.getElem?_cons_succ, List.set_cons_zero, List.set_cons_succ, List.map_cons, List.map_nil, List.length_cons, List.length_nil, List.cons_append, List.nil_append, List.replicate_succ, List.replicate_zero, id, q_asB, q_asI, q_add, q_addS, q_addT, q_addL, q_int, q_sub, q_mul, q_fdiv, q_mod, q_pow, q_neg, q_le, q_ge, q_gt, q_lt, q_ltT, q_isN, q_isB, q_isBi, q_isBs, q_isBn, q_isBt, q_isnt, n_non, n_bl, n_int, n_str, n_tup, n_ref, q_eq, q_eqS, q_eqB, q_ixT, q_ixK, q_ixL, q_ixS, q_slT, q_slL, q_slS, q_set, q_lenT, q_lenK, q_lenS, q_lenL, q_abs, q_intF, q_max, q_min, q_tupT, q_tupL, q_lstT, q_lstL, q_app, q_ext, q_joinL, q_stw, q_seq, q_lst, q_rng, q_rng2, q_zpT, q_zpL, q_truN, q_truB, q_truI, q_truT, q_truL, t_non, t_bl, t_int, t_str, t_tup, q_isiN, q_isiB, q_isiI, q_isiS, q_isiT, i_NoneType_int, i_NoneType_bool, i_NoneType_tuple, i_NoneType_list, i_NoneType_str, i_bool_int, i_bool_bool, i_bool_tuple, i_bool_list, i_bool_str, i_int_int, i_int_bool, i_int_tuple, i_int_list, i_int_str, i_str_int, i_str_bool, i_str_tuple, i_str_list, i_str_str, i_tuple_int, i_tuple_bool, i_tuple_tuple, i_tuple_list, i_tuple_str, i_list_int, i_list_bool, i_list_tuple, i_list_list, i_list_str, i_dict_int, i_dict_bool, i_dict_tuple, i_dict_list, i_dict_str, up_same, g_02, g_02', g_01, g_11, at_0, at_1, ix_0, ix_1, Option.some.injEq, HQ.lst.injEq, exists_eq_left', exists_eq_left, exists_and_left, exists_eq', exists_eq, decide_eq_true_eq, if_true, if_false, ite_true, ite_false, Bool.false_eq_true, reduceIte, reduceCtorEq, Bool.not_true, Bool.not_false, Nat.zero_add, Nat.reduceAdd, Nat.reduceSub, Nat.reduceLeDiff, Nat.reduceLT, Int.reduceLT, Int.reduceLE, Int.reduceEq, Int.reduceNe, Nat.reduceEqDiff, Int.reduceToNat, Int.reducePow, Int.reduceMul, Int.reduceAdd, Int.reduceSub, Int.reduceNeg, and_true, true_and, decide_true, decide_false]
      exact hN _ _ ⟨rfl, by omega, e, _, rfl⟩
    · rw [if_neg c] at e
      simp only [c, rVar, rC, rBin, rUn, rTst, rChn, rTru, rAnd, rOr, rNot, rAndV, rOrV, rNotV, rIf, rNil, rCons, rTup, rLst, rFn, rCall, rCallK, rSl, rPrt, rNoP, rMt, gNm, q_gN, q_gC, q_gTp, gSb, rNext, rSeq, rDrop, rRet, rRetN, rBrk, rCnt, rIfS, rSet, rPar, rFor, iSeq, iLst, iRg1, iRg2, iZp, rLc, rYes, En.x, wipeD, start', List.getElem?_cons_zero, List.getElem?_cons_succ, List.set_cons_zero, List.set_cons_succ, List.map_cons, List.map_nil, List.length_cons, List.length_nil, List.cons_append, List.nil_append, List.replicate_succ, List.replicate_zero, id, q_asB, q_asI, q_add, q_addS, q_addT, q_addL, q_int, q_sub, q_mul, q_fdiv, q_mod, q_pow, q_neg, q_le, q_ge, q_gt, q_lt, q_ltT, q_isN, q_isB, q_isBi, q_isBs, q_isBn, q_isBt, q_isnt, n_non, n_bl, n_int, n_str, n_tup, n_ref, q_eq, q_eqS, q_eqB, q_ixT, q_ixK, q_ixL, q_ixS, q_slT, q_slL, q_slS, q_set, q_lenT, q_lenK, q_lenS, q_lenL, q_abs, q_intF, q_max, q_min, q_tupT, q_tupL, q_lstT, q_lstL, q_app, q_ext, q_joinL, q_stw, q_seq, q_lst, q_rng, q_rng2, q_zpT, q_zpL, q_truN, q_truB, q_truI, q_truT, q_truL, t_non, t_bl, t_int, t_str, t_tup, q_isiN, q_isiB, q_isiI, q_isiS, q_isiT, i_NoneType_int, i_NoneType_bool, i_NoneType_tuple, i_NoneType_list, i_NoneType_str, i_bool_int, i_bool_bool, i_bool_tuple, i_bool_list, i_bool_str, i_int_int, i_int_bool, i_int_tuple, i_int_list, i_int_str, i_str_int, i_str_bool, i_str_tuple, i_str_list, i_str_str, i_tuple_int, i_tuple_bool, i_tuple_tuple, i_tuple_list, i_tuple_str, i_list_int, i_list_bool, i_list_tuple, i_list_list, i_list_str, i_dict_int, i_dict_bool, i_dict_tuple, i_dict_list, i_dict_str, up_same, g_02, g_02', g_01, g_11, at_0, at_1, ix_0, ix_1, Option.some.injEq, HQ.lst.injEq, exists_eq_left', exists_eq_left, exists_and_left, exists_eq', exists_eq, decide_eq_true_eq, if_true, if_false, ite_true, ite_false, Bool.false_eq_true, reduceIte, reduceCtorEq, Bool.not_true, Bool.not_false, Nat.zero_add, Nat.reduceAdd, Nat.reduceSub, Nat.reduceLeDiff, Nat.reduceLT, Int.reduceLT, Int.reduceLE, Int.reduceEq, Int.reduceNe, Nat.reduceEqDiff, Int.reduceToNat, Int.reducePow, Int.reduceMul, Int.reduceAdd, Int.reduceSub, Int.reduceNeg, and_true, true_and, decide_true, decide_false]
      rw [e]; exact k
  · obtain ⟨rfl, _, e, y, rfl⟩ := hp
    rw [rangeD_len] at e
    simp only [rVar, rC, rBin, rUn, rTst, rChn, rTru, rAnd, rOr, rNot, rAndV, rOrV, rNotV, rIf, rNil, rCons, rTup, rLst, rFn, rCall, rCallK, rSl, rPrt, rNoP, rMt, gNm, q_gN, q_gC, q_gTp, gSb, rNext, rSeq, rDrop, rRet, rRetN, rBrk, rCnt, rIfS, rSet, rPar, rFor, iSeq, iLst, iRg1, iRg2, iZp, rLc, rYes, En.x, wipeD, start', List.getElem?_cons_zero, List.getElem?_cons_succ, List.set_cons_zero, List.set_cons_succ, List.map_cons, List.map_nil, List.length_cons, List.length_nil, List.cons_append, List.nil_append, List.replicate_succ, List.replicate_zero, id, q_asB, q_asI, q_add, q_addS, q_addT, q_addL, q_int, q_sub, q_mul, q_fdiv, q_mod, q_pow, q_neg, q_le, q_ge, q_gt, q_lt, q_ltT, q_isN, q_isB, q_isBi, q_isBs, q_isBn, q_isBt, q_isnt, n_non, n_bl, n_int, n_str, n_tup, n_ref, q_eq, q_eqS, q_eqB, q_ixT, q_ixK, q_ixL, q_ixS, q_slT, q_slL, q_slS, q_set, q_lenT, q_lenK, q_lenS, q_lenL, q_abs, q_intF, q_max, q_min, q_tupT, q_tupL, q_lstT, q_lstL, q_app, q_ext, q_joinL, q_stw, q_seq, q_lst, q_rng, q_rng2, q_zpT, q_zpL, q_truN, q_truB, q_truI, q_truT, q_truL, t_non, t_bl, t_int, t_str, t_tup, q_isiN, q_isiB, q_isiI, q_isiS, q_isiT, i_NoneType_int, i_NoneType_bool, i_NoneType_tuple, i_NoneType_list, i_NoneType_str, i_bool_int, i_bool_bool, i_bool_tuple, i_bool_list, i_bool_str, i_int_int, i_int_bool, i_int_tuple, i_int_list, i_int_str, i_str_int, i_str_bool, i_str_tuple, i_str_list, i_str_str, i_tuple_int, i_tuple_bool, i_tuple_tuple, i_tuple_list, i_tuple_str, i_list_int, i_list_bool, i_list_tuple, i_list_list, i_list_str, i_dict_int, i_dict_bool, i_dict_tuple, i_dict_list, i_dict_str, up_same, g_02, g_02', g_01, g_11, at_0, at_1, ix_0, ix_1, Option.some.injEq, HQ.lst.injEq, exists_eq_left', exists_eq_left, exists_and_left, exists_eq', exists_eq, decide_eq_true_eq, if_true, if_false, ite_true, ite_false, Bool.false_eq_true, reduceIte, reduceCtorEq, Bool.not_true, Bool.not_false, Nat.zero_add, Nat.reduceAdd, Nat.reduceSub, Nat.reduceLeDiff, Nat.reduceLT, Int.reduceLT, Int.reduceLE, Int.reduceEq, Int.reduceNe, Nat.reduceEqDiff, Int.reduceToNat, Int.reducePow, Int.reduceMul, Int.reduceAdd, Int.reduceSub, Int.reduceNeg, and_true, true_and, decide_true, decide_false, List.length_map]
    have e2 : HT.lexLt ns ms = decide ((ns.length : Int) < ms.length) := by
      rw [← e]
      by_cases c : ns.length < ms.length
      · rw [Nat.min_eq_left (by omega), List.drop_length]
        cases hd : ms.drop ns.length with
        | nil => rw [List.drop_eq_nil_iff] at hd; omega
        | cons a r => rw [HT.lexLt_nil_cons]; exact (decide_eq_true (by omega)).symm
      · rw [Nat.min_eq_right (by omega), List.drop_length]
        rw [decide_eq_false (by omega)]
        cases hd : ns.drop ms.length with
        | nil => rfl
        | cons a r => exact HT.lexLt_cons_nil _ _
    rw [← e2]; exact k


def aheadB (a b : Rw) : Bool := blw (keyO a.1 a.2) (keyO b.1 b.2)
def sp_law_ahead : Sq := fun ds S Q _ => ∃ a b : Rw, ds = [rowD a, rowD b] ∧ OkR a ∧ OkR b ∧ Q (.bl (aheadB a b)) S
theorem ln_law_ahead : ∀ ds S Q E, sp_law_ahead ds S Q E → ds.length = 2 := by rintro _ _ _ _ ⟨b, n, rfl, _⟩; rfl
theorem nx_law_ahead : ∀ ds S Q E, sp_law_ahead ds S Q E → sp_law_ahead ds S Q NoX := fun _ _ _ _ h => h

def rd_law_ahead : RSt :=
 (rSeq (rIfS (rOr (rTst (rBin isD (rBin ixD (rVar 0) (rC (.int 1))) (rC .non))) (rTst (rBin isD (rBin ixD (rVar 1) (rC (.int 1))) (rC .non))))
 (rRet (rBin isntD (rBin ixD (rVar 0) (rC (.int 1))) (rC .non)))
 rNext)
 (rSeq (rIfS (rTst (rBin (eqD not) (rFn lenD (rCons (rBin ixD (rVar 0) (rC (.int 0))) rNil)) (rFn lenD (rCons (rBin ixD (rVar 1) (rC (.int 0))) rNil))))
 (rRet (rBin gtD (rFn lenD (rCons (rBin ixD (rVar 0) (rC (.int 0))) rNil)) (rFn lenD (rCons (rBin ixD (rVar 1) (rC (.int 0))) rNil))))
 rNext)
 (rRet (rCall sp_law_less (rCons (rBin ixD (rVar 0) (rC (.int 1))) (rCons (rBin ixD (rVar 1) (rC (.int 1))) rNil))))))

theorem pu_law_ahead : ∀ ds S Q, sp_law_ahead ds S Q NoX → rd_law_ahead { nx := fun _ S => Q .non S, rt := Q } (start' 2 ds) S := by

  rintro _ S Q ⟨⟨z1, o1⟩, ⟨z2, o2⟩, rfl, h1, h2, k⟩
  unfold rd_law_ahead
  cases o1 with
  | none => simp only [rVar, rC, rBin, rUn, rTst, rChn, rTru, rAnd, rOr, rNot, rAndV, rOrV, rNotV, rIf, rNil, rCons, rTup, rLst, rFn, rCall, rCallK, rSl, rPrt, rNoP, rMt, gNm, q_gN, q_gC, q_gTp, gSb, rNext, rSeq, rDrop, rRet, rRetN, rBrk, rCnt, rIfS, rSet, rPar, rFor, iSeq, iLst, iRg1, iRg2, iZp, rLc, rYes, En.x, wipeD, start', List.getElem?_cons_zero, List.getElem?_cons_succ, List.set_cons_zero, List.set_cons_succ, List.map_cons, List.map_nil, List.length_cons, List.length_nil, List.cons_append, List.nil_append, List.replicate_succ, List.replicate_zero, id, q_asB, q_asI, q_add, q_addS, q_addT, q_addL, q_int, q_sub, q_mul, q_fdiv, q_mod, q_pow, q_neg, q_le, q_ge, q_gt, q_lt, q_ltT, q_isN, q_isB, q_isBi, q_isBs, q_isBn, q_isBt, q_isnt, n_non, n_bl, n_int, n_str, n_tup, n_ref, q_eq, q_eqS, q_eqB, q_ixT, q_ixK, q_ixL, q_ixS, q_slT, q_slL, q_slS, q_set, q_lenT, q_lenK, q_lenS, q_lenL, q_abs, q_intF, q_max, q_min, q_tupT, q_tupL, q_lstT, q_lstL, q_app, q_ext, q_joinL, q_stw, q_seq, q_lst, q_rng, q_rng2, q_zpT, q_zpL, q_truN, q_truB, q_truI, q_truT, q_truL, t_non, t_bl, t_int, t_str, t_tup, q_isiN, q_isiB, q_isiI, q_isiS, q_isiT, i_NoneType_int, i_NoneType_bool, i_NoneType_tuple, i_NoneType_list, i_NoneType_str, i_bool_int, i_bool_bool, i_bool_tuple, i_bool_list, i_bool_str, i_int_int, i_int_bool, i_int_tuple, i_int_list, i_int_str, i_str_int, i_str_bool, i_str_tuple, i_str_list, i_str_str, i_tuple_int, i_tuple_bool, i_tuple_tuple, i_tuple_list, i_tuple_str, i_list_int, i_list_bool, i_list_tuple, i_list_list, i_list_str, i_dict_int, i_dict_bool, i_dict_tuple, i_dict_list, i_dict_str, up_same, g_02, g_02', g_01, g_11, at_0, at_1, ix_0, ix_1, Option.some.injEq, HQ.lst.injEq, exists_eq_left', exists_eq_left, exists_and_left, exists_eq', exists_eq, decide_eq_true_eq, if_true, if_false, ite_true, ite_false, Bool.false_eq_true, reduceIte, reduceCtorEq, Bool.not_true, Bool.not_false, Nat.zero_add, Nat.reduceAdd, Nat.reduceSub, Nat.reduceLeDiff, Nat.reduceLT, Int.reduceLT, Int.reduceLE, Int.reduceEq, Int.reduceNe, Nat.reduceEqDiff, Int.reduceToNat, Int.reducePow, Int.reduceMul, Int.reduceAdd, Int.reduceSub, Int.reduceNeg, and_true, true_and, decide_true, decide_false, rowD, ofO]; exact k
  | some n1 =>
    cases o2 with
    | none => simp only [rVar, rC, rBin, rUn, rTst, rChn, rTru, rAnd, rOr, rNot, rAndV, rOrV, rNotV, rIf, rNil, rCons, rTup, rLst, rFn, rCall, rCallK, rSl, rPrt, rNoP, rMt, gNm, q_gN, q_gC, q_gTp, gSb, rNext, rSeq, rDrop, rRet, rRetN, rBrk, rCnt, rIfS, rSet, rPar, rFor, iSeq, iLst, iRg1, iRg2, iZp, rLc, rYes, En.x, wipeD, start', List.getElem?_cons_zero, List.getElem?_cons_succ, List.set_cons_zero, List.set_cons_succ, List.map_cons, List.map_nil, List.length_cons, List.length_nil, List.cons_append, List.nil_append, List.replicate_succ, List.replicate_zero, id, q_asB, q_asI, q_add, q_addS, q_addT, q_addL, q_int, q_sub, q_mul, q_fdiv, q_mod, q_pow, q_neg, q_le, q_ge, q_gt, q_lt, q_ltT, q_isN, q_isB, q_isBi, q_isBs, q_isBn, q_isBt, q_isnt, n_non, n_bl, n_int, n_str, n_tup, n_ref, q_eq, q_eqS, q_eqB, q_ixT, q_ixK, q_ixL, q_ixS, q_slT, q_slL, q_slS, q_set, q_lenT, q_lenK, q_lenS, q_lenL, q_abs, q_intF, q_max, q_min, q_tupT, q_tupL, q_lstT, q_lstL, q_app, q_ext, q_joinL, q_stw, q_seq, q_lst, q_rng, q_rng2, q_zpT, q_zpL, q_truN, q_truB, q_truI, q_truT, q_truL, t_non, t_bl, t_int, t_str, t_tup, q_isiN, q_isiB, q_isiI, q_isiS, q_isiT, i_NoneType_int, i_NoneType_bool, i_NoneType_tuple, i_NoneType_list, i_NoneType_str, i_bool_int, i_bool_bool, i_bool_tuple, i_bool_list, i_bool_str, i_int_int, i_int_bool, i_int_tuple, i_int_list, i_int_str, i_str_int, i_str_bool, i_str_tuple, i_str_list, i_str_str, i_tuple_int, i_tuple_bool, i_tuple_tuple, i_tuple_list, i_tuple_str, i_list_int, i_list_bool, i_list_tuple, i_list_list, i_list_str, i_dict_int, i_dict_bool, i_dict_tuple, i_dict_list, i_dict_str, up_same, g_02, g_02', g_01, g_11, at_0, at_1, ix_0, ix_1, Option.some.injEq, HQ.lst.injEq, exists_eq_left', exists_eq_left, exists_and_left, exists_eq', exists_eq, decide_eq_true_eq, if_true, if_false, ite_true, ite_false, Bool.false_eq_true, reduceIte, reduceCtorEq, Bool.not_true, Bool.not_false, Nat.zero_add, Nat.reduceAdd, Nat.reduceSub, Nat.reduceLeDiff, Nat.reduceLT, Int.reduceLT, Int.reduceLE, Int.reduceEq, Int.reduceNe, Nat.reduceEqDiff, Int.reduceToNat, Int.reducePow, Int.reduceMul, Int.reduceAdd, Int.reduceSub, Int.reduceNeg, and_true, true_and, decide_true, decide_false, rowD, ofO]; exact k
    | some n2 =>
      have l1 := h1.1
      have l2 := h2.1
      simp only at l1 l2
      simp only [rVar, rC, rBin, rUn, rTst, rChn, rTru, rAnd, rOr, rNot, rAndV, rOrV, rNotV, rIf, rNil, rCons, rTup, rLst, rFn, rCall, rCallK, rSl, rPrt, rNoP, rMt, gNm, q_gN, q_gC, q_gTp, gSb, rNext, rSeq, rDrop, rRet, rRetN, rBrk, rCnt, rIfS, rSet, rPar, rFor, iSeq, iLst, iRg1, iRg2, iZp, rLc, rYes, En.x, wipeD, start', List.getElem?_cons_zero, List.getElem?_cons_succ, List.set_cons_zero, List.set_cons_succ, List.map_cons, List.map_nil, List.length_cons, List.length_nil, List.cons_append, List.nil_append, List.replicate_succ, List.replicate_zero, id, q_asB, q_asI, q_add, q_addS, q_addT, q_addL, q_int, q_sub, q_mul, q_fdiv, q_mod, q_pow, q_neg, q_le, q_ge, q_gt, q_lt, q_ltT, q_isN, q_isB, q_isBi, q_isBs, q_isBn, q_isBt, q_isnt, n_non, n_bl, n_int, n_str, n_tup, n_ref, q_eq, q_eqS, q_eqB, q_ixT, q_ixK, q_ixL, q_ixS, q_slT, q_slL, q_slS, q_set, q_lenT, q_lenK, q_lenS, q_lenL, q_abs, q_intF, q_max, q_min, q_tupT, q_tupL, q_lstT, q_lstL, q_app, q_ext, q_joinL, q_stw, q_seq, q_lst, q_rng, q_rng2, q_zpT, q_zpL, q_truN, q_truB, q_truI, q_truT, q_truL, t_non, t_bl, t_int, t_str, t_tup, q_isiN, q_isiB, q_isiI, q_isiS, q_isiT, i_NoneType_int, i_NoneType_bool, i_NoneType_tuple, i_NoneType_list, i_NoneType_str, i_bool_int, i_bool_bool, i_bool_tuple, i_bool_list, i_bool_str, i_int_int, i_int_bool, i_int_tuple, i_int_list, i_int_str, i_str_int, i_str_bool, i_str_tuple, i_str_list, i_str_str, i_tuple_int, i_tuple_bool, i_tuple_tuple, i_tuple_list, i_tuple_str, i_list_int, i_list_bool, i_list_tuple, i_list_list, i_list_str, i_dict_int, i_dict_bool, i_dict_tuple, i_dict_list, i_dict_str, up_same, g_02, g_02', g_01, g_11, at_0, at_1, ix_0, ix_1, Option.some.injEq, HQ.lst.injEq, exists_eq_left', exists_eq_left, exists_and_left, exists_eq', exists_eq, decide_eq_true_eq, if_true, if_false, ite_true, ite_false, Bool.false_eq_true, reduceIte, reduceCtorEq, Bool.not_true, Bool.not_false, Nat.zero_add, Nat.reduceAdd, Nat.reduceSub, Nat.reduceLeDiff, Nat.reduceLT, Int.reduceLT, Int.reduceLE, Int.reduceEq, Int.reduceNe, Nat.reduceEqDiff, Int.reduceToNat, Int.reducePow, Int.reduceMul, Int.reduceAdd, Int.reduceSub, Int.reduceNeg, and_true, true_and, decide_true, decide_false, rowD, ofO]
      have e : aheadB (z1, some n1) (z2, some n2) = if (z1.length : Int) = z2.length then HT.lexLt n1 n2 else decide ((z2.length : Int) < z1.length) := by
        show HT.lexLt ((6 - (z1.length : Int)) :: n1) ((6 - (z2.length : Int)) :: n2) = _
        rw [HT.lexLt_cons]
        by_cases c : (z1.length : Int) = z2.length
        · rw [if_pos (by omega), if_pos c]
        · rw [if_neg (by omega), if_neg c, decide_eq_decide]; omega
      rw [e] at k
      refine ⟨by omega, by omega, ?_⟩
      by_cases c : (z1.length : Int) = z2.length
      · rw [if_pos c] at k
        simp only [c, rVar, rC, rBin, rUn, rTst, rChn, rTru, rAnd, rOr, rNot, rAndV, rOrV, rNotV, rIf, rNil, rCons, rTup, rLst, rFn, rCall, rCallK, rSl, rPrt, rNoP, rMt, gNm, q_gN, q_gC, q_gTp, gSb, rNext, rSeq, rDrop, rRet, rRetN, rBrk, rCnt, rIfS, rSet, rPar, rFor, iSeq, iLst, iRg1, iRg2, iZp, rLc, rYes, En.x, wipeD, start', List.getElem?_cons_zero, List.getElem?_cons_succ, List.set_cons_zero, List.set_cons_succ, List.map_cons, List.map_nil, List.length_cons, List.length_nil, List.cons_append, List.nil_append, List.replicate_succ, List.replicate_zero, id, q_asB, q_asI, q_add, q_addS, q_addT, q_addL, q_int, q_sub, q_mul, q_fdiv, q_mod, q_pow, q_neg, q_le, q_ge, q_gt, q_lt, q_ltT, q_isN, q_isB, q_isBi, q_isBs, q_isBn, q_isBt, q_isnt, n_non, n_bl, n_int, n_str, n_tup, n_ref, q_eq, q_eqS, q_eqB, q_ixT, q_ixK, q_ixL, q_ixS, q_slT, q_slL, q_slS, q_set, q_lenT, q_lenK, q_lenS, q_lenL, q_abs, q_intF, q_max, q_min, q_tupT, q_tupL, q_lstT, q_lstL, q_app, q_ext, q_joinL, q_stw, q_seq, q_lst, q_rng, q_rng2, q_zpT, q_zpL, q_truN, q_truB, q_truI, q_truT, q_truL, t_non, t_bl, t_int, t_str, t_tup, q_isiN, q_isiB, q_isiI, q_isiS, q_isiT, i_NoneType_int, i_NoneType_bool, i_NoneType_tuple, i_NoneType_list, i_NoneType_str, i_bool_int, i_bool_bool, i_bool_tuple, i_bool_list, i_bool_str, i_int_int, i_int_bool, i_int_tuple, i_int_list, i_int_str, i_str_int, i_str_bool, i_str_tuple, i_str_list, i_str_str, i_tuple_int, i_tuple_bool, i_tuple_tuple, i_tuple_list, i_tuple_str, i_list_int, i_list_bool, i_list_tuple, i_list_list, i_list_str, i_dict_int, i_dict_bool, i_dict_tuple, i_dict_list, i_dict_str, up_same, g_02, g_02', g_01, g_11, at_0, at_1, ix_0, ix_1, Option.some.injEq, HQ.lst.injEq, exists_eq_left', exists_eq_left, exists_and_left, exists_eq', exists_eq, decide_eq_true_eq, if_true, if_false, ite_true, ite_false, Bool.false_eq_true, reduceIte, reduceCtorEq, Bool.not_true, Bool.not_false, Nat.zero_add, Nat.reduceAdd, Nat.reduceSub, Nat.reduceLeDiff, Nat.reduceLT, Int.reduceLT, Int.reduceLE, Int.reduceEq, Int.reduceNe, Nat.reduceEqDiff, Int.reduceToNat, Int.reducePow, Int.reduceMul, Int.reduceAdd, Int.reduceSub, Int.reduceNeg, and_true, true_and, decide_true, decide_false]
        exact ⟨n1, n2, rfl, h1.2 n1 rfl, h2.2 n2 rfl, k⟩
      · rw [if_neg c] at k
        simp only [c, rVar, rC, rBin, rUn, rTst, rChn, rTru, rAnd, rOr, rNot, rAndV, rOrV, rNotV, rIf, rNil, rCons, rTup, rLst, rFn, rCall, rCallK, rSl, rPrt, rNoP, rMt, gNm, q_gN, q_gC, q_gTp, gSb, rNext, rSeq, rDrop, rRet, rRetN, rBrk, rCnt, rIfS, rSet, rPar, rFor, iSeq, iLst, iRg1, iRg2, iZp, rLc, rYes, En.x, wipeD, start', List.getElem?_cons_zero, List.getElem?_cons_succ, List.set_cons_zero, List.set_cons_succ, List.map_cons, List.map_nil, List.length_cons, List.length_nil, List.cons_append, List.nil_append, List.replicate_succ, List.replicate_zero, id, q_asB, q_asI, q_add, q_addS, q_addT, q_addL, q_int, q_sub, q_mul, q_fdiv, q_mod, q_pow, q_neg, q_le, q_ge, q_gt, q_lt, q_ltT, q_isN, q_isB, q_isBi, q_isBs, q_isBn, q_isBt, q_isnt, n_non, n_bl, n_int, n_str, n_tup, n_ref, q_eq, q_eqS, q_eqB, q_ixT, q_ixK, q_ixL, q_ixS, q_slT, q_slL, q_slS, q_set, q_lenT, q_lenK, q_lenS, q_lenL, q_abs, q_intF, q_max, q_min, q_tupT, q_tupL, q_lstT, q_lstL, q_app, q_ext, q_joinL, q_stw, q_seq, q_lst, q_rng, q_rng2, q_zpT, q_zpL, q_truN, q_truB, q_truI, q_truT, q_truL, t_non, t_bl, t_int, t_str, t_tup, q_isiN, q_isiB, q_isiI, q_isiS, q_isiT, i_NoneType_int, i_NoneType_bool, i_NoneType_tuple, i_NoneType_list, i_NoneType_str, i_bool_int, i_bool_bool, i_bool_tuple, i_bool_list, i_bool_str, i_int_int, i_int_bool, i_int_tuple, i_int_list, i_int_str, i_str_int, i_str_bool, i_str_tuple, i_str_list, i_str_str, i_tuple_int, i_tuple_bool, i_tuple_tuple, i_tuple_list, i_tuple_str, i_list_int, i_list_bool, i_list_tuple, i_list_list, i_list_str, i_dict_int, i_dict_bool, i_dict_tuple, i_dict_list, i_dict_str, up_same, g_02, g_02', g_01, g_11, at_0, at_1, ix_0, ix_1, Option.some.injEq, HQ.lst.injEq, exists_eq_left', exists_eq_left, exists_and_left, exists_eq', exists_eq, decide_eq_true_eq, if_true, if_false, ite_true, ite_false, Bool.false_eq_true, reduceIte, reduceCtorEq, Bool.not_true, Bool.not_false, Nat.zero_add, Nat.reduceAdd, Nat.reduceSub, Nat.reduceLeDiff, Nat.reduceLT, Int.reduceLT, Int.reduceLE, Int.reduceEq, Int.reduceNe, Nat.reduceEqDiff, Int.reduceToNat, Int.reducePow, Int.reduceMul, Int.reduceAdd, Int.reduceSub, Int.reduceNeg, and_true, true_and, decide_true, decide_false]
        exact ⟨by omega, by omega, k⟩

def sp_law : Sq := fun ds S Q _ => ∃ ns : List Int, ds = [.kl (ns.map D.int)] ∧ ns.length ≤ 63 ∧ ∀ S', Q (.bl true) S'
theorem ln_law : ∀ ds S Q E, sp_law ds S Q E → ds.length = 1 := by rintro _ _ _ _ ⟨b, rfl, _⟩; rfl
theorem nx_law : ∀ ds S Q E, sp_law ds S Q E → sp_law ds S Q NoX := fun _ _ _ _ h => h
theorem law_ok : ∀ (ns : List Int) (S : Hq) (Q' : Qv), ns.length ≤ 63 → (∀ S', Q' (.bl true) S') → sp_law [.kl (ns.map D.int)] S Q' NoX := fun ns S Q h k => ⟨ns, rfl, h, k⟩

def rd_law : RSt :=
 (rSeq (rFor (iRg1 (rCons (rFn maxD (rCons (rC (.int 3)) (rCons (rFn minD (rCons (rFn lenD (rCons (rVar 0) rNil)) (rCons (rC (.int 8)) rNil))) rNil))) rNil)) (gNm 1)
 (rSeq (rSet (rCall sp_law_box (rCons (rVar 0) (rCons (rVar 1) rNil))) (gNm 2))
 (rSeq (rSet (rMt "str" joinD (rC (.str (Str.ofString ""))) (rCons (rLc (iRg1 (rCons (rC (.int 6)) rNil)) (gNm 13) rYes (rCall sp_law_pick (rCons (rVar 2) (rCons (rLst (rCons (rC (.str (Str.ofString "0"))) (rCons (rC (.str (Str.ofString "1"))) rNil))) rNil))) [13]) rNil)) (gNm 3))
 (rSeq (rSet (rCall sp_law_row (rCons (rVar 2) (rCons (rVar 3) (rCons (rBin addD (rC (.int 1)) (rCall sp_law_take (rCons (rVar 2) (rCons (rC (.int 8)) rNil)))) rNil)))) (gNm 4))
 (rSeq (rSet (rLst rNil) (gNm 5))
 (rSeq (rFor (iLst (rVar 4)) (gTp 2 (gConss (gNm 9) (gConss (gNm 10) gNils)))
 (rSeq (rSet (rIf (rTst (rBin isD (rVar 10) (rC .non))) (rC .non) (rFn tupF (rCons (rBin addD (rLst (rCons (rBin subD (rC (.int 6)) (rFn lenD (rCons (rVar 9) rNil))) rNil)) (rFn lstF (rCons (rVar 10) rNil))) rNil))) (gNm 11))
 (rSeq (rIfS (rOr (rNot (rTst (rCall (sp_law_same 4) (rCons (rCall sp_key_of (rCons (rVar 9) (rCons (rVar 10) rNil))) (rCons (rVar 11) rNil))))) (rTst (rBin isntD (rCallK sp_key_of 0 2 [1, 0] rNil (rCons (rC .non) (rCons (rVar 9) rNil))) (rC .non))))
 (rRet (rC (.bl false)))
 rNext)
 (rDrop (rMt "list" appD (rVar 5) (rCons (rVar 11) rNil))))))
 (rSeq (rSet (rC .non) (gNm 6))
 (rSeq (rFor (iRg1 (rCons (rFn lenD (rCons (rVar 4) rNil)) rNil)) (gNm 7)
 (rSeq (rFor (iRg1 (rCons (rFn lenD (rCons (rVar 4) rNil)) rNil)) (gNm 12)
 (rIfS (rNot (rTst (rCall (sp_law_same 4) (rCons (rCall sp_is_below (rCons (rBin ixD (rVar 5) (rVar 7)) (rCons (rBin ixD (rVar 5) (rVar 12)) rNil))) (rCons (rCall sp_law_ahead (rCons (rBin ixD (rVar 4) (rVar 7)) (rCons (rBin ixD (rVar 4) (rVar 12)) rNil))) rNil)))))
 (rRet (rC (.bl false)))
 rNext))
 (rIfS (rAnd (rTst (rBin isntD (rBin ixD (rBin ixD (rVar 4) (rVar 7)) (rC (.int 1))) (rC .non))) (rOr (rTst (rBin isD (rVar 6) (rC .non))) (rTst (rCall sp_law_ahead (rCons (rBin ixD (rVar 4) (rVar 7)) (rCons (rBin ixD (rVar 4) (rVar 6)) rNil))))))
 (rSet (rVar 7) (gNm 6))
 rNext)))
 (rSeq (rSet (rCall sp_least_of (rCons (rFn tupF (rCons (rVar 5) rNil)) rNil)) (gNm 8))
 (rIfS (rTst (rBin isD (rVar 6) (rC .non)))
 (rIfS (rTst (rBin isntD (rVar 8) (rC .non)))
 (rRet (rC (.bl false)))
 rNext)
 (rIfS (rNot (rTst (rCall (sp_law_same 4) (rCons (rVar 8) (rCons (rFn tupF (rCons (rBin addD (rLst (rCons (rBin subD (rC (.int 6)) (rFn lenD (rCons (rBin ixD (rBin ixD (rVar 4) (rVar 6)) (rC (.int 0))) rNil))) rNil)) (rFn lstF (rCons (rBin ixD (rBin ixD (rVar 4) (rVar 6)) (rC (.int 1))) rNil))) rNil)) rNil)))))
 (rRet (rC (.bl false)))
 rNext)))))))))))
 (rRet (rC (.bl true))))

theorem pu_law : ∀ ds S Q, sp_law ds S Q NoX → rd_law { nx := fun _ S => Q .non S, rt := Q } (start' 14 ds) S := by

  rintro _ S Q ⟨ns, rfl, hl, k⟩
  unfold rd_law
  simp only [rVar, rC, rBin, rUn, rTst, rChn, rTru, rAnd, rOr, rNot, rAndV, rOrV, rNotV, rIf, rNil, rCons, rTup, rLst, rFn, rCall, rCallK, rSl, rPrt, rNoP, rMt, gNm, q_gN, q_gC, q_gTp, gSb, rNext, rSeq, rDrop, rRet, rRetN, rBrk, rCnt, rIfS, rSet, rPar, rFor, iSeq, iLst, iRg1, iRg2, iZp, rLc, rYes, En.x, wipeD, start', List.getElem?_cons_zero, List.getElem?_cons_succ, List.set_cons_zero, List.set_cons_succ, List.map_cons, List.map_nil, List.length_cons, List.length_nil, List.cons_append, List.nil_append, List.replicate_succ, List.replicate_zero, id, q_asB, q_asI, q_add, q_addS, q_addT, q_addL, q_int, q_sub, q_mul, q_fdiv, q_mod, q_pow, q_neg, q_le, q_ge, q_gt, q_lt, q_ltT, q_isN, q_isB, q_isBi, q_isBs, q_isBn, q_isBt, q_isnt, n_non, n_bl, n_int, n_str, n_tup, n_ref, q_eq, q_eqS, q_eqB, q_ixT, q_ixK, q_ixL, q_ixS, q_slT, q_slL, q_slS, q_set, q_lenT, q_lenK, q_lenS, q_lenL, q_abs, q_intF, q_max, q_min, q_tupT, q_tupL, q_lstT, q_lstL, q_app, q_ext, q_joinL, q_stw, q_seq, q_lst, q_rng, q_rng2, q_zpT, q_zpL, q_truN, q_truB, q_truI, q_truT, q_truL, t_non, t_bl, t_int, t_str, t_tup, q_isiN, q_isiB, q_isiI, q_isiS, q_isiT, i_NoneType_int, i_NoneType_bool, i_NoneType_tuple, i_NoneType_list, i_NoneType_str, i_bool_int, i_bool_bool, i_bool_tuple, i_bool_list, i_bool_str, i_int_int, i_int_bool, i_int_tuple, i_int_list, i_int_str, i_str_int, i_str_bool, i_str_tuple, i_str_list, i_str_str, i_tuple_int, i_tuple_bool, i_tuple_tuple, i_tuple_list, i_tuple_str, i_list_int, i_list_bool, i_list_tuple, i_list_list, i_list_str, i_dict_int, i_dict_bool, i_dict_tuple, i_dict_list, i_dict_str, up_same, g_02, g_02', g_01, g_11, at_0, at_1, ix_0, ix_1, Option.some.injEq, HQ.lst.injEq, exists_eq_left', exists_eq_left, exists_and_left, exists_eq', exists_eq, decide_eq_true_eq, if_true, if_false, ite_true, ite_false, Bool.false_eq_true, reduceIte, reduceCtorEq, Bool.not_true, Bool.not_false, Nat.zero_add, Nat.reduceAdd, Nat.reduceSub, Nat.reduceLeDiff, Nat.reduceLT, Int.reduceLT, Int.reduceLE, Int.reduceEq, Int.reduceNe, Nat.reduceEqDiff, Int.reduceToNat, Int.reducePow, Int.reduceMul, Int.reduceAdd, Int.reduceSub, Int.reduceNeg, and_true, true_and, decide_true, decide_false, List.length_map]
  generalize hM : (if (if (8 : Int) < ns.length then (8 : Int) else ns.length) > 3 then (if (8 : Int) < ns.length then (8 : Int) else ns.length) else 3) = M
  have hM1 : 0 ≤ M ∧ M ≤ 8 := by subst hM; (repeat' split) <;> omega
  clear hM
  refine ⟨⟨by omega, by omega⟩, ?_⟩
  refine loop_idx (fun i σ S' => ∃ y1 y2 y3 y4 y5 y6 y7 y8 y9 y10 y11 y12 y13 : Option D, σ = [some (.kl (ns.map D.int)), y1, y2, y3, y4, y5, y6, y7, y8, y9, y10, y11, y12, y13]) (fun _ _ _ _ _ => trivial) (fun i0 x σ S' hx hp N hN => ?_) (fun σ S' hp => ?_) ⟨_, _, _, _, _, _, _, _, _, _, _, _, _, rfl⟩
  rotate_left
  · obtain ⟨y1, y2, y3, y4, y5, y6, y7, y8, y9, y10, y11, y12, y13, rfl⟩ := hp
    simp only [rVar, rC, rBin, rUn, rTst, rChn, rTru, rAnd, rOr, rNot, rAndV, rOrV, rNotV, rIf, rNil, rCons, rTup, rLst, rFn, rCall, rCallK, rSl, rPrt, rNoP, rMt, gNm, q_gN, q_gC, q_gTp, gSb, rNext, rSeq, rDrop, rRet, rRetN, rBrk, rCnt, rIfS, rSet, rPar, rFor, iSeq, iLst, iRg1, iRg2, iZp, rLc, rYes, En.x, wipeD, start', List.getElem?_cons_zero, List.getElem?_cons_succ, List.set_cons_zero, List.set_cons_succ, List.map_cons, List.map_nil, List.length_cons, List.length_nil, List.cons_append, List.nil_append, List.replicate_succ, List.replicate_zero, id, q_asB, q_asI, q_add, q_addS, q_addT, q_addL, q_int, q_sub, q_mul, q_fdiv, q_mod, q_pow, q_neg, q_le, q_ge, q_gt, q_lt, q_ltT, q_isN, q_isB, q_isBi, q_isBs, q_isBn, q_isBt, q_isnt, n_non, n_bl, n_int, n_str, n_tup, n_ref, q_eq, q_eqS, q_eqB, q_ixT, q_ixK, q_ixL, q_ixS, q_slT, q_slL, q_slS, q_set, q_lenT, q_lenK, q_lenS, q_lenL, q_abs, q_intF, q_max, q_min, q_tupT, q_tupL, q_lstT, q_lstL, q_app, q_ext, q_joinL, q_stw, q_seq, q_lst, q_rng, q_rng2, q_zpT, q_zpL, q_truN, q_truB, q_truI, q_truT, q_truL, t_non, t_bl, t_int, t_str, t_tup, q_isiN, q_isiB, q_isiI, q_isiS, q_isiT, i_NoneType_int, i_NoneType_bool, i_NoneType_tuple, i_NoneType_list, i_NoneType_str, i_bool_int, i_bool_bool, i_bool_tuple, i_bool_list, i_bool_str, i_int_int, i_int_bool, i_int_tuple, i_int_list, i_int_str, i_str_int, i_str_bool, i_str_tuple, i_str_list, i_str_str, i_tuple_int, i_tuple_bool, i_tuple_tuple, i_tuple_list, i_tuple_str, i_list_int, i_list_bool, i_list_tuple, i_list_list, i_list_str, i_dict_int, i_dict_bool, i_dict_tuple, i_dict_list, i_dict_str, up_same, g_02, g_02', g_01, g_11, at_0, at_1, ix_0, ix_1, Option.some.injEq, HQ.lst.injEq, exists_eq_left', exists_eq_left, exists_and_left, exists_eq', exists_eq, decide_eq_true_eq, if_true, if_false, ite_true, ite_false, Bool.false_eq_true, reduceIte, reduceCtorEq, Bool.not_true, Bool.not_false, Nat.zero_add, Nat.reduceAdd, Nat.reduceSub, Nat.reduceLeDiff, Nat.reduceLT, Int.reduceLT, Int.reduceLE, Int.reduceEq, Int.reduceNe, Nat.reduceEqDiff, Int.reduceToNat, Int.reducePow, Int.reduceMul, Int.reduceAdd, Int.reduceSub, Int.reduceNeg, and_true, true_and, decide_true, decide_false]
    exact k S'
  obtain ⟨y1, y2, y3, y4, y5, y6, y7, y8, y9, y10, y11, y12, y13, rfl⟩ := hp
  obtain ⟨hi, rfl⟩ := rangeD_get hx
  simp only [rVar, rC, rBin, rUn, rTst, rChn, rTru, rAnd, rOr, rNot, rAndV, rOrV, rNotV, rIf, rNil, rCons, rTup, rLst, rFn, rCall, rCallK, rSl, rPrt, rNoP, rMt, gNm, q_gN, q_gC, q_gTp, gSb, rNext, rSeq, rDrop, rRet, rRetN, rBrk, rCnt, rIfS, rSet, rPar, rFor, iSeq, iLst, iRg1, iRg2, iZp, rLc, rYes, En.x, wipeD, start', List.getElem?_cons_zero, List.getElem?_cons_succ, List.set_cons_zero, List.set_cons_succ, List.map_cons, List.map_nil, List.length_cons, List.length_nil, List.cons_append, List.nil_append, List.replicate_succ, List.replicate_zero, id, q_asB, q_asI, q_add, q_addS, q_addT, q_addL, q_int, q_sub, q_mul, q_fdiv, q_mod, q_pow, q_neg, q_le, q_ge, q_gt, q_lt, q_ltT, q_isN, q_isB, q_isBi, q_isBs, q_isBn, q_isBt, q_isnt, n_non, n_bl, n_int, n_str, n_tup, n_ref, q_eq, q_eqS, q_eqB, q_ixT, q_ixK, q_ixL, q_ixS, q_slT, q_slL, q_slS, q_set, q_lenT, q_lenK, q_lenS, q_lenL, q_abs, q_intF, q_max, q_min, q_tupT, q_tupL, q_lstT, q_lstL, q_app, q_ext, q_joinL, q_stw, q_seq, q_lst, q_rng, q_rng2, q_zpT, q_zpL, q_truN, q_truB, q_truI, q_truT, q_truL, t_non, t_bl, t_int, t_str, t_tup, q_isiN, q_isiB, q_isiI, q_isiS, q_isiT, i_NoneType_int, i_NoneType_bool, i_NoneType_tuple, i_NoneType_list, i_NoneType_str, i_bool_int, i_bool_bool, i_bool_tuple, i_bool_list, i_bool_str, i_int_int, i_int_bool, i_int_tuple, i_int_list, i_int_str, i_str_int, i_str_bool, i_str_tuple, i_str_list, i_str_str, i_tuple_int, i_tuple_bool, i_tuple_tuple, i_tuple_list, i_tuple_str, i_list_int, i_list_bool, i_list_tuple, i_list_list, i_list_str, i_dict_int, i_dict_bool, i_dict_tuple, i_dict_list, i_dict_str, up_same, g_02, g_02', g_01, g_11, at_0, at_1, ix_0, ix_1, Option.some.injEq, HQ.lst.injEq, exists_eq_left', exists_eq_left, exists_and_left, exists_eq', exists_eq, decide_eq_true_eq, if_true, if_false, ite_true, ite_false, Bool.false_eq_true, reduceIte, reduceCtorEq, Bool.not_true, Bool.not_false, Nat.zero_add, Nat.reduceAdd, Nat.reduceSub, Nat.reduceLeDiff, Nat.reduceLT, Int.reduceLT, Int.reduceLE, Int.reduceEq, Int.reduceNe, Nat.reduceEqDiff, Int.reduceToNat, Int.reducePow, Int.reduceMul, Int.reduceAdd, Int.reduceSub, Int.reduceNeg, and_true, true_and, decide_true, decide_false]
  refine ⟨ns, _, rfl, hl, by omega, by omega, fun b g s hb => ?_⟩
  have bx0 : Bx (up S' b (.lst [.int g, .int s])) b := ⟨g, s, up_same⟩
  generalize up S' b (.lst [.int g, .int s]) = S0 at bx0 ⊢
  simp only [rVar, rC, rBin, rUn, rTst, rChn, rTru, rAnd, rOr, rNot, rAndV, rOrV, rNotV, rIf, rNil, rCons, rTup, rLst, rFn, rCall, rCallK, rSl, rPrt, rNoP, rMt, gNm, q_gN, q_gC, q_gTp, gSb, rNext, rSeq, rDrop, rRet, rRetN, rBrk, rCnt, rIfS, rSet, rPar, rFor, iSeq, iLst, iRg1, iRg2, iZp, rLc, rYes, En.x, wipeD, start', List.getElem?_cons_zero, List.getElem?_cons_succ, List.set_cons_zero, List.set_cons_succ, List.map_cons, List.map_nil, List.length_cons, List.length_nil, List.cons_append, List.nil_append, List.replicate_succ, List.replicate_zero, id, q_asB, q_asI, q_add, q_addS, q_addT, q_addL, q_int, q_sub, q_mul, q_fdiv, q_mod, q_pow, q_neg, q_le, q_ge, q_gt, q_lt, q_ltT, q_isN, q_isB, q_isBi, q_isBs, q_isBn, q_isBt, q_isnt, n_non, n_bl, n_int, n_str, n_tup, n_ref, q_eq, q_eqS, q_eqB, q_ixT, q_ixK, q_ixL, q_ixS, q_slT, q_slL, q_slS, q_set, q_lenT, q_lenK, q_lenS, q_lenL, q_abs, q_intF, q_max, q_min, q_tupT, q_tupL, q_lstT, q_lstL, q_app, q_ext, q_joinL, q_stw, q_seq, q_lst, q_rng, q_rng2, q_zpT, q_zpL, q_truN, q_truB, q_truI, q_truT, q_truL, t_non, t_bl, t_int, t_str, t_tup, q_isiN, q_isiB, q_isiI, q_isiS, q_isiT, i_NoneType_int, i_NoneType_bool, i_NoneType_tuple, i_NoneType_list, i_NoneType_str, i_bool_int, i_bool_bool, i_bool_tuple, i_bool_list, i_bool_str, i_int_int, i_int_bool, i_int_tuple, i_int_list, i_int_str, i_str_int, i_str_bool, i_str_tuple, i_str_list, i_str_str, i_tuple_int, i_tuple_bool, i_tuple_tuple, i_tuple_list, i_tuple_str, i_list_int, i_list_bool, i_list_tuple, i_list_list, i_list_str, i_dict_int, i_dict_bool, i_dict_tuple, i_dict_list, i_dict_str, up_same, g_02, g_02', g_01, g_11, at_0, at_1, ix_0, ix_1, Option.some.injEq, HQ.lst.injEq, exists_eq_left', exists_eq_left, exists_and_left, exists_eq', exists_eq, decide_eq_true_eq, if_true, if_false, ite_true, ite_false, Bool.false_eq_true, reduceIte, reduceCtorEq, Bool.not_true, Bool.not_false, Nat.zero_add, Nat.reduceAdd, Nat.reduceSub, Nat.reduceLeDiff, Nat.reduceLT, Int.reduceLT, Int.reduceLE, Int.reduceEq, Int.reduceNe, Nat.reduceEqDiff, Int.reduceToNat, Int.reducePow, Int.reduceMul, Int.reduceAdd, Int.reduceSub, Int.reduceNeg, and_true, true_and, decide_true, decide_false]
  refine lc_draw (fun S' => Bx S' b) (fun d => ∃ z : Str, d = .str z ∧ z.length = 1) (fun _ _ => trivial) _ _ _ (fun x _ S' Q' hi q => ?_) (by simp [rangeD_len]) (by simp) bx0 (fun acc S1 hl1 ha bx1 => ?_)
  · simp only [rVar, rC, rBin, rUn, rTst, rChn, rTru, rAnd, rOr, rNot, rAndV, rOrV, rNotV, rIf, rNil, rCons, rTup, rLst, rFn, rCall, rCallK, rSl, rPrt, rNoP, rMt, gNm, q_gN, q_gC, q_gTp, gSb, rNext, rSeq, rDrop, rRet, rRetN, rBrk, rCnt, rIfS, rSet, rPar, rFor, iSeq, iLst, iRg1, iRg2, iZp, rLc, rYes, En.x, wipeD, start', List.getElem?_cons_zero, List.getElem?_cons_succ, List.set_cons_zero, List.set_cons_succ, List.map_cons, List.map_nil, List.length_cons, List.length_nil, List.cons_append, List.nil_append, List.replicate_succ, List.replicate_zero, id, q_asB, q_asI, q_add, q_addS, q_addT, q_addL, q_int, q_sub, q_mul, q_fdiv, q_mod, q_pow, q_neg, q_le, q_ge, q_gt, q_lt, q_ltT, q_isN, q_isB, q_isBi, q_isBs, q_isBn, q_isBt, q_isnt, n_non, n_bl, n_int, n_str, n_tup, n_ref, q_eq, q_eqS, q_eqB, q_ixT, q_ixK, q_ixL, q_ixS, q_slT, q_slL, q_slS, q_set, q_lenT, q_lenK, q_lenS, q_lenL, q_abs, q_intF, q_max, q_min, q_tupT, q_tupL, q_lstT, q_lstL, q_app, q_ext, q_joinL, q_stw, q_seq, q_lst, q_rng, q_rng2, q_zpT, q_zpL, q_truN, q_truB, q_truI, q_truT, q_truL, t_non, t_bl, t_int, t_str, t_tup, q_isiN, q_isiB, q_isiI, q_isiS, q_isiT, i_NoneType_int, i_NoneType_bool, i_NoneType_tuple, i_NoneType_list, i_NoneType_str, i_bool_int, i_bool_bool, i_bool_tuple, i_bool_list, i_bool_str, i_int_int, i_int_bool, i_int_tuple, i_int_list, i_int_str, i_str_int, i_str_bool, i_str_tuple, i_str_list, i_str_str, i_tuple_int, i_tuple_bool, i_tuple_tuple, i_tuple_list, i_tuple_str, i_list_int, i_list_bool, i_list_tuple, i_list_list, i_list_str, i_dict_int, i_dict_bool, i_dict_tuple, i_dict_list, i_dict_str, up_same, g_02, g_02', g_01, g_11, at_0, at_1, ix_0, ix_1, Option.some.injEq, HQ.lst.injEq, exists_eq_left', exists_eq_left, exists_and_left, exists_eq', exists_eq, decide_eq_true_eq, if_true, if_false, ite_true, ite_false, Bool.false_eq_true, reduceIte, reduceCtorEq, Bool.not_true, Bool.not_false, Nat.zero_add, Nat.reduceAdd, Nat.reduceSub, Nat.reduceLeDiff, Nat.reduceLT, Int.reduceLT, Int.reduceLE, Int.reduceEq, Int.reduceNe, Nat.reduceEqDiff, Int.reduceToNat, Int.reducePow, Int.reduceMul, Int.reduceAdd, Int.reduceSub, Int.reduceNeg, and_true, true_and, decide_true, decide_false]
    intro p hp
    refine pick_of hi hp (by simp) (by simp) fun d S2 hd n2 => q _ _ ?_ n2.bx
    simp only [List.mem_cons, List.not_mem_nil, or_false] at hd
    rcases hd with rfl | rfl
    · exact ⟨_, rfl, by decide +kernel⟩
    · exact ⟨_, rfl, by decide +kernel⟩
  have hst : ∀ (ds : List D), (∀ y ∈ ds, ∃ z : Str, y = .str z ∧ z.length = 1) → ∃ zs, strsD ds = some zs ∧ zs.length = ds.length ∧ (zs.map (·.length)).sum = ds.length := by
    intro ds
    induction ds with
    | nil => intro _; exact ⟨[], rfl, rfl, rfl⟩
    | cons d r ih =>
      intro h
      obtain ⟨z, rfl, hz⟩ := h d (by simp)
      obtain ⟨zs, e1, e2, e3⟩ := ih fun y hy => h y (by simp [hy])
      exact ⟨z :: zs, by simp [strsD, e1], by simp [e2], by simp [e3, hz]; omega⟩
  obtain ⟨zs, e1, e2, e3⟩ := hst acc ha
  have hlen : acc.length = 6 := by rw [hl1, rangeD_len]; rfl
  intro p hp
  simp only [rVar, rC, rBin, rUn, rTst, rChn, rTru, rAnd, rOr, rNot, rAndV, rOrV, rNotV, rIf, rNil, rCons, rTup, rLst, rFn, rCall, rCallK, rSl, rPrt, rNoP, rMt, gNm, q_gN, q_gC, q_gTp, gSb, rNext, rSeq, rDrop, rRet, rRetN, rBrk, rCnt, rIfS, rSet, rPar, rFor, iSeq, iLst, iRg1, iRg2, iZp, rLc, rYes, En.x, wipeD, start', List.getElem?_cons_zero, List.getElem?_cons_succ, List.set_cons_zero, List.set_cons_succ, List.map_cons, List.map_nil, List.length_cons, List.length_nil, List.cons_append, List.nil_append, List.replicate_succ, List.replicate_zero, id, q_asB, q_asI, q_add, q_addS, q_addT, q_addL, q_int, q_sub, q_mul, q_fdiv, q_mod, q_pow, q_neg, q_le, q_ge, q_gt, q_lt, q_ltT, q_isN, q_isB, q_isBi, q_isBs, q_isBn, q_isBt, q_isnt, n_non, n_bl, n_int, n_str, n_tup, n_ref, q_eq, q_eqS, q_eqB, q_ixT, q_ixK, q_ixL, q_ixS, q_slT, q_slL, q_slS, q_set, q_lenT, q_lenK, q_lenS, q_lenL, q_abs, q_intF, q_max, q_min, q_tupT, q_tupL, q_lstT, q_lstL, q_app, q_ext, q_joinL, q_stw, q_seq, q_lst, q_rng, q_rng2, q_zpT, q_zpL, q_truN, q_truB, q_truI, q_truT, q_truL, t_non, t_bl, t_int, t_str, t_tup, q_isiN, q_isiB, q_isiI, q_isiS, q_isiT, i_NoneType_int, i_NoneType_bool, i_NoneType_tuple, i_NoneType_list, i_NoneType_str, i_bool_int, i_bool_bool, i_bool_tuple, i_bool_list, i_bool_str, i_int_int, i_int_bool, i_int_tuple, i_int_list, i_int_str, i_str_int, i_str_bool, i_str_tuple, i_str_list, i_str_str, i_tuple_int, i_tuple_bool, i_tuple_tuple, i_tuple_list, i_tuple_str, i_list_int, i_list_bool, i_list_tuple, i_list_list, i_list_str, i_dict_int, i_dict_bool, i_dict_tuple, i_dict_list, i_dict_str, up_same, g_02, g_02', g_01, g_11, at_0, at_1, ix_0, ix_1, Option.some.injEq, HQ.lst.injEq, exists_eq_left', exists_eq_left, exists_and_left, exists_eq', exists_eq, decide_eq_true_eq, if_true, if_false, ite_true, ite_false, Bool.false_eq_true, reduceIte, reduceCtorEq, Bool.not_true, Bool.not_false, Nat.zero_add, Nat.reduceAdd, Nat.reduceSub, Nat.reduceLeDiff, Nat.reduceLT, Int.reduceLT, Int.reduceLE, Int.reduceEq, Int.reduceNe, Nat.reduceEqDiff, Int.reduceToNat, Int.reducePow, Int.reduceMul, Int.reduceAdd, Int.reduceSub, Int.reduceNeg, and_true, true_and, decide_true, decide_false, up_same, e1]
  refine ⟨by rw [e3, e2, hlen]; decide, ?_⟩
  have haddr : (Txt.join (Str.ofString "") zs).length ≤ 1000 := by
    have h := PySem.StrLaws.join_length_le (Str.ofString "") zs
    have e : Txt.join (Str.ofString "") zs = Str.join (Str.ofString "") zs := by first | exact TL.join_eq _ _ | exact L2.join_eq _ _ | exact PySem.Builtin.Str.glued_eq_join _ _
    rw [e]
    rw [e3, hlen] at h
    have : (Str.ofString "").length = 0 := by decide +kernel
    rw [this] at h; omega
  generalize Txt.join (Str.ofString "") zs = address at haddr
  refine take_of (bx1.up hp) (by decide) (by decide) fun r S2 hr0 hr1 n2 => ?_
  simp only [rVar, rC, rBin, rUn, rTst, rChn, rTru, rAnd, rOr, rNot, rAndV, rOrV, rNotV, rIf, rNil, rCons, rTup, rLst, rFn, rCall, rCallK, rSl, rPrt, rNoP, rMt, gNm, q_gN, q_gC, q_gTp, gSb, rNext, rSeq, rDrop, rRet, rRetN, rBrk, rCnt, rIfS, rSet, rPar, rFor, iSeq, iLst, iRg1, iRg2, iZp, rLc, rYes, En.x, wipeD, start', List.getElem?_cons_zero, List.getElem?_cons_succ, List.set_cons_zero, List.set_cons_succ, List.map_cons, List.map_nil, List.length_cons, List.length_nil, List.cons_append, List.nil_append, List.replicate_succ, List.replicate_zero, id, q_asB, q_asI, q_add, q_addS, q_addT, q_addL, q_int, q_sub, q_mul, q_fdiv, q_mod, q_pow, q_neg, q_le, q_ge, q_gt, q_lt, q_ltT, q_isN, q_isB, q_isBi, q_isBs, q_isBn, q_isBt, q_isnt, n_non, n_bl, n_int, n_str, n_tup, n_ref, q_eq, q_eqS, q_eqB, q_ixT, q_ixK, q_ixL, q_ixS, q_slT, q_slL, q_slS, q_set, q_lenT, q_lenK, q_lenS, q_lenL, q_abs, q_intF, q_max, q_min, q_tupT, q_tupL, q_lstT, q_lstL, q_app, q_ext, q_joinL, q_stw, q_seq, q_lst, q_rng, q_rng2, q_zpT, q_zpL, q_truN, q_truB, q_truI, q_truT, q_truL, t_non, t_bl, t_int, t_str, t_tup, q_isiN, q_isiB, q_isiI, q_isiS, q_isiT, i_NoneType_int, i_NoneType_bool, i_NoneType_tuple, i_NoneType_list, i_NoneType_str, i_bool_int, i_bool_bool, i_bool_tuple, i_bool_list, i_bool_str, i_int_int, i_int_bool, i_int_tuple, i_int_list, i_int_str, i_str_int, i_str_bool, i_str_tuple, i_str_list, i_str_str, i_tuple_int, i_tuple_bool, i_tuple_tuple, i_tuple_list, i_tuple_str, i_list_int, i_list_bool, i_list_tuple, i_list_list, i_list_str, i_dict_int, i_dict_bool, i_dict_tuple, i_dict_list, i_dict_str, up_same, g_02, g_02', g_01, g_11, at_0, at_1, ix_0, ix_1, Option.some.injEq, HQ.lst.injEq, exists_eq_left', exists_eq_left, exists_and_left, exists_eq', exists_eq, decide_eq_true_eq, if_true, if_false, ite_true, ite_false, Bool.false_eq_true, reduceIte, reduceCtorEq, Bool.not_true, Bool.not_false, Nat.zero_add, Nat.reduceAdd, Nat.reduceSub, Nat.reduceLeDiff, Nat.reduceLT, Int.reduceLT, Int.reduceLE, Int.reduceEq, Int.reduceNe, Nat.reduceEqDiff, Int.reduceToNat, Int.reducePow, Int.reduceMul, Int.reduceAdd, Int.reduceSub, Int.reduceNeg, and_true, true_and, decide_true, decide_false]
  refine ⟨b, address, _, rfl, haddr, by omega, by omega, n2.bx, fun ln S3 ls hS3 hok hls => ?_⟩
  simp only [rVar, rC, rBin, rUn, rTst, rChn, rTru, rAnd, rOr, rNot, rAndV, rOrV, rNotV, rIf, rNil, rCons, rTup, rLst, rFn, rCall, rCallK, rSl, rPrt, rNoP, rMt, gNm, q_gN, q_gC, q_gTp, gSb, rNext, rSeq, rDrop, rRet, rRetN, rBrk, rCnt, rIfS, rSet, rPar, rFor, iSeq, iLst, iRg1, iRg2, iZp, rLc, rYes, En.x, wipeD, start', List.getElem?_cons_zero, List.getElem?_cons_succ, List.set_cons_zero, List.set_cons_succ, List.map_cons, List.map_nil, List.length_cons, List.length_nil, List.cons_append, List.nil_append, List.replicate_succ, List.replicate_zero, id, q_asB, q_asI, q_add, q_addS, q_addT, q_addL, q_int, q_sub, q_mul, q_fdiv, q_mod, q_pow, q_neg, q_le, q_ge, q_gt, q_lt, q_ltT, q_isN, q_isB, q_isBi, q_isBs, q_isBn, q_isBt, q_isnt, n_non, n_bl, n_int, n_str, n_tup, n_ref, q_eq, q_eqS, q_eqB, q_ixT, q_ixK, q_ixL, q_ixS, q_slT, q_slL, q_slS, q_set, q_lenT, q_lenK, q_lenS, q_lenL, q_abs, q_intF, q_max, q_min, q_tupT, q_tupL, q_lstT, q_lstL, q_app, q_ext, q_joinL, q_stw, q_seq, q_lst, q_rng, q_rng2, q_zpT, q_zpL, q_truN, q_truB, q_truI, q_truT, q_truL, t_non, t_bl, t_int, t_str, t_tup, q_isiN, q_isiB, q_isiI, q_isiS, q_isiT, i_NoneType_int, i_NoneType_bool, i_NoneType_tuple, i_NoneType_list, i_NoneType_str, i_bool_int, i_bool_bool, i_bool_tuple, i_bool_list, i_bool_str, i_int_int, i_int_bool, i_int_tuple, i_int_list, i_int_str, i_str_int, i_str_bool, i_str_tuple, i_str_list, i_str_str, i_tuple_int, i_tuple_bool, i_tuple_tuple, i_tuple_list, i_tuple_str, i_list_int, i_list_bool, i_list_tuple, i_list_list, i_list_str, i_dict_int, i_dict_bool, i_dict_tuple, i_dict_list, i_dict_str, up_same, g_02, g_02', g_01, g_11, at_0, at_1, ix_0, ix_1, Option.some.injEq, HQ.lst.injEq, exists_eq_left', exists_eq_left, exists_and_left, exists_eq', exists_eq, decide_eq_true_eq, if_true, if_false, ite_true, ite_false, Bool.false_eq_true, reduceIte, reduceCtorEq, Bool.not_true, Bool.not_false, Nat.zero_add, Nat.reduceAdd, Nat.reduceSub, Nat.reduceLeDiff, Nat.reduceLT, Int.reduceLT, Int.reduceLE, Int.reduceEq, Int.reduceNe, Nat.reduceEqDiff, Int.reduceToNat, Int.reducePow, Int.reduceMul, Int.reduceAdd, Int.reduceSub, Int.reduceNeg, and_true, true_and, decide_true, decide_false]
  intro f hf
  have hlf : ln ≠ f := ne_get hS3 hf
  have hln4 : up S3 f (.lst []) ln = some (.lst (ls.map rowD)) := up_get hf hS3
  have hf4 : up S3 f (.lst []) f = some (.lst []) := up_same
  generalize up S3 f (.lst []) = S4 at hln4 hf4 ⊢
  refine ⟨_, hln4, ?_⟩
  refine loop_idx (fun i σ S' => S' ln = some (.lst (ls.map rowD)) ∧ S' f = some (.lst ((ls.take i).map keyR)) ∧ ∃ z7 z8 z9 z10 z11 z12 z13 : Option D, σ = [some (.kl (ns.map D.int)), some (.int (0 + ↑i0)), some (.ref b), some (.str address), some (.ref ln), some (.ref f), y6, z7, z8, z9, z10, z11, z12, z13]) (fun _ _ _ _ h => h.1) (fun i x σ S' hx hp N2 hN2 => ?_) (fun σ S' hp => ?_) ⟨hln4, hf4, _, _, _, _, _, _, _, rfl⟩
  · obtain ⟨hln, hff, z7, z8, z9, z10, z11, z12, z13, rfl⟩ := hp
    rw [List.getElem?_map] at hx
    cases hl : ls[i]? with
    | none => rw [hl] at hx; cases hx
    | some l =>
      rw [hl] at hx
      cases hx
      obtain ⟨z, o⟩ := l
      have hlok := hok _ (List.mem_of_getElem? hl)
      have hz6 : z.length ≤ 6 := hlok.1
      have et : ls.take (i + 1) = ls.take i ++ [(z, o)] := by rw [List.take_add_one, hl]; rfl
      cases o with
      | none =>
        simp only [rVar, rC, rBin, rUn, rTst, rChn, rTru, rAnd, rOr, rNot, rAndV, rOrV, rNotV, rIf, rNil, rCons, rTup, rLst, rFn, rCall, rCallK, rSl, rPrt, rNoP, rMt, gNm, q_gN, q_gC, q_gTp, gSb, rNext, rSeq, rDrop, rRet, rRetN, rBrk, rCnt, rIfS, rSet, rPar, rFor, iSeq, iLst, iRg1, iRg2, iZp, rLc, rYes, En.x, wipeD, start', List.getElem?_cons_zero, List.getElem?_cons_succ, List.set_cons_zero, List.set_cons_succ, List.map_cons, List.map_nil, List.length_cons, List.length_nil, List.cons_append, List.nil_append, List.replicate_succ, List.replicate_zero, id, q_asB, q_asI, q_add, q_addS, q_addT, q_addL, q_int, q_sub, q_mul, q_fdiv, q_mod, q_pow, q_neg, q_le, q_ge, q_gt, q_lt, q_ltT, q_isN, q_isB, q_isBi, q_isBs, q_isBn, q_isBt, q_isnt, n_non, n_bl, n_int, n_str, n_tup, n_ref, q_eq, q_eqS, q_eqB, q_ixT, q_ixK, q_ixL, q_ixS, q_slT, q_slL, q_slS, q_set, q_lenT, q_lenK, q_lenS, q_lenL, q_abs, q_intF, q_max, q_min, q_tupT, q_tupL, q_lstT, q_lstL, q_app, q_ext, q_joinL, q_stw, q_seq, q_lst, q_rng, q_rng2, q_zpT, q_zpL, q_truN, q_truB, q_truI, q_truT, q_truL, t_non, t_bl, t_int, t_str, t_tup, q_isiN, q_isiB, q_isiI, q_isiS, q_isiT, i_NoneType_int, i_NoneType_bool, i_NoneType_tuple, i_NoneType_list, i_NoneType_str, i_bool_int, i_bool_bool, i_bool_tuple, i_bool_list, i_bool_str, i_int_int, i_int_bool, i_int_tuple, i_int_list, i_int_str, i_str_int, i_str_bool, i_str_tuple, i_str_list, i_str_str, i_tuple_int, i_tuple_bool, i_tuple_tuple, i_tuple_list, i_tuple_str, i_list_int, i_list_bool, i_list_tuple, i_list_list, i_list_str, i_dict_int, i_dict_bool, i_dict_tuple, i_dict_list, i_dict_str, up_same, g_02, g_02', g_01, g_11, at_0, at_1, ix_0, ix_1, Option.some.injEq, HQ.lst.injEq, exists_eq_left', exists_eq_left, exists_and_left, exists_eq', exists_eq, decide_eq_true_eq, if_true, if_false, ite_true, ite_false, Bool.false_eq_true, reduceIte, reduceCtorEq, Bool.not_true, Bool.not_false, Nat.zero_add, Nat.reduceAdd, Nat.reduceSub, Nat.reduceLeDiff, Nat.reduceLT, Int.reduceLT, Int.reduceLE, Int.reduceEq, Int.reduceNe, Nat.reduceEqDiff, Int.reduceToNat, Int.reducePow, Int.reduceMul, Int.reduceAdd, Int.reduceSub, Int.reduceNeg, and_true, true_and, decide_true, decide_false, rowD, ofO]
        refine ⟨z, none, rfl, by omega, (fun _ h => nomatch h), ?_⟩
        refine ⟨_, rfl, trivial, ?_⟩
        simp only [rVar, rC, rBin, rUn, rTst, rChn, rTru, rAnd, rOr, rNot, rAndV, rOrV, rNotV, rIf, rNil, rCons, rTup, rLst, rFn, rCall, rCallK, rSl, rPrt, rNoP, rMt, gNm, q_gN, q_gC, q_gTp, gSb, rNext, rSeq, rDrop, rRet, rRetN, rBrk, rCnt, rIfS, rSet, rPar, rFor, iSeq, iLst, iRg1, iRg2, iZp, rLc, rYes, En.x, wipeD, start', List.getElem?_cons_zero, List.getElem?_cons_succ, List.set_cons_zero, List.set_cons_succ, List.map_cons, List.map_nil, List.length_cons, List.length_nil, List.cons_append, List.nil_append, List.replicate_succ, List.replicate_zero, id, q_asB, q_asI, q_add, q_addS, q_addT, q_addL, q_int, q_sub, q_mul, q_fdiv, q_mod, q_pow, q_neg, q_le, q_ge, q_gt, q_lt, q_ltT, q_isN, q_isB, q_isBi, q_isBs, q_isBn, q_isBt, q_isnt, n_non, n_bl, n_int, n_str, n_tup, n_ref, q_eq, q_eqS, q_eqB, q_ixT, q_ixK, q_ixL, q_ixS, q_slT, q_slL, q_slS, q_set, q_lenT, q_lenK, q_lenS, q_lenL, q_abs, q_intF, q_max, q_min, q_tupT, q_tupL, q_lstT, q_lstL, q_app, q_ext, q_joinL, q_stw, q_seq, q_lst, q_rng, q_rng2, q_zpT, q_zpL, q_truN, q_truB, q_truI, q_truT, q_truL, t_non, t_bl, t_int, t_str, t_tup, q_isiN, q_isiB, q_isiI, q_isiS, q_isiT, i_NoneType_int, i_NoneType_bool, i_NoneType_tuple, i_NoneType_list, i_NoneType_str, i_bool_int, i_bool_bool, i_bool_tuple, i_bool_list, i_bool_str, i_int_int, i_int_bool, i_int_tuple, i_int_list, i_int_str, i_str_int, i_str_bool, i_str_tuple, i_str_list, i_str_str, i_tuple_int, i_tuple_bool, i_tuple_tuple, i_tuple_list, i_tuple_str, i_list_int, i_list_bool, i_list_tuple, i_list_list, i_list_str, i_dict_int, i_dict_bool, i_dict_tuple, i_dict_list, i_dict_str, up_same, g_02, g_02', g_01, g_11, at_0, at_1, ix_0, ix_1, Option.some.injEq, HQ.lst.injEq, exists_eq_left', exists_eq_left, exists_and_left, exists_eq', exists_eq, decide_eq_true_eq, if_true, if_false, ite_true, ite_false, Bool.false_eq_true, reduceIte, reduceCtorEq, Bool.not_true, Bool.not_false, Nat.zero_add, Nat.reduceAdd, Nat.reduceSub, Nat.reduceLeDiff, Nat.reduceLT, Int.reduceLT, Int.reduceLE, Int.reduceEq, Int.reduceNe, Nat.reduceEqDiff, Int.reduceToNat, Int.reducePow, Int.reduceMul, Int.reduceAdd, Int.reduceSub, Int.reduceNeg, and_true, true_and, decide_true, decide_false]
        refine ⟨z, none, rfl, by omega, (fun _ h => nomatch h), ?_⟩
        simp only [rVar, rC, rBin, rUn, rTst, rChn, rTru, rAnd, rOr, rNot, rAndV, rOrV, rNotV, rIf, rNil, rCons, rTup, rLst, rFn, rCall, rCallK, rSl, rPrt, rNoP, rMt, gNm, q_gN, q_gC, q_gTp, gSb, rNext, rSeq, rDrop, rRet, rRetN, rBrk, rCnt, rIfS, rSet, rPar, rFor, iSeq, iLst, iRg1, iRg2, iZp, rLc, rYes, En.x, wipeD, start', List.getElem?_cons_zero, List.getElem?_cons_succ, List.set_cons_zero, List.set_cons_succ, List.map_cons, List.map_nil, List.length_cons, List.length_nil, List.cons_append, List.nil_append, List.replicate_succ, List.replicate_zero, id, q_asB, q_asI, q_add, q_addS, q_addT, q_addL, q_int, q_sub, q_mul, q_fdiv, q_mod, q_pow, q_neg, q_le, q_ge, q_gt, q_lt, q_ltT, q_isN, q_isB, q_isBi, q_isBs, q_isBn, q_isBt, q_isnt, n_non, n_bl, n_int, n_str, n_tup, n_ref, q_eq, q_eqS, q_eqB, q_ixT, q_ixK, q_ixL, q_ixS, q_slT, q_slL, q_slS, q_set, q_lenT, q_lenK, q_lenS, q_lenL, q_abs, q_intF, q_max, q_min, q_tupT, q_tupL, q_lstT, q_lstL, q_app, q_ext, q_joinL, q_stw, q_seq, q_lst, q_rng, q_rng2, q_zpT, q_zpL, q_truN, q_truB, q_truI, q_truT, q_truL, t_non, t_bl, t_int, t_str, t_tup, q_isiN, q_isiB, q_isiI, q_isiS, q_isiT, i_NoneType_int, i_NoneType_bool, i_NoneType_tuple, i_NoneType_list, i_NoneType_str, i_bool_int, i_bool_bool, i_bool_tuple, i_bool_list, i_bool_str, i_int_int, i_int_bool, i_int_tuple, i_int_list, i_int_str, i_str_int, i_str_bool, i_str_tuple, i_str_list, i_str_str, i_tuple_int, i_tuple_bool, i_tuple_tuple, i_tuple_list, i_tuple_str, i_list_int, i_list_bool, i_list_tuple, i_list_list, i_list_str, i_dict_int, i_dict_bool, i_dict_tuple, i_dict_list, i_dict_str, up_same, g_02, g_02', g_01, g_11, at_0, at_1, ix_0, ix_1, Option.some.injEq, HQ.lst.injEq, exists_eq_left', exists_eq_left, exists_and_left, exists_eq', exists_eq, decide_eq_true_eq, if_true, if_false, ite_true, ite_false, Bool.false_eq_true, reduceIte, reduceCtorEq, Bool.not_true, Bool.not_false, Nat.zero_add, Nat.reduceAdd, Nat.reduceSub, Nat.reduceLeDiff, Nat.reduceLT, Int.reduceLT, Int.reduceLE, Int.reduceEq, Int.reduceNe, Nat.reduceEqDiff, Int.reduceToNat, Int.reducePow, Int.reduceMul, Int.reduceAdd, Int.reduceSub, Int.reduceNeg, and_true, true_and, decide_true, decide_false, keyO, ofO, hff]
        refine ⟨t_lst hff, by simp; omega, hN2 _ _ ⟨by rw [up_ne hlf]; exact hln, ?_, _, _, _, _, _, _, _, rfl⟩⟩
        rw [up_same, et]; simp [keyR, keyO, ofO]
      | some nl =>
        have hnl := hlok.2 nl rfl
        simp only [rVar, rC, rBin, rUn, rTst, rChn, rTru, rAnd, rOr, rNot, rAndV, rOrV, rNotV, rIf, rNil, rCons, rTup, rLst, rFn, rCall, rCallK, rSl, rPrt, rNoP, rMt, gNm, q_gN, q_gC, q_gTp, gSb, rNext, rSeq, rDrop, rRet, rRetN, rBrk, rCnt, rIfS, rSet, rPar, rFor, iSeq, iLst, iRg1, iRg2, iZp, rLc, rYes, En.x, wipeD, start', List.getElem?_cons_zero, List.getElem?_cons_succ, List.set_cons_zero, List.set_cons_succ, List.map_cons, List.map_nil, List.length_cons, List.length_nil, List.cons_append, List.nil_append, List.replicate_succ, List.replicate_zero, id, q_asB, q_asI, q_add, q_addS, q_addT, q_addL, q_int, q_sub, q_mul, q_fdiv, q_mod, q_pow, q_neg, q_le, q_ge, q_gt, q_lt, q_ltT, q_isN, q_isB, q_isBi, q_isBs, q_isBn, q_isBt, q_isnt, n_non, n_bl, n_int, n_str, n_tup, n_ref, q_eq, q_eqS, q_eqB, q_ixT, q_ixK, q_ixL, q_ixS, q_slT, q_slL, q_slS, q_set, q_lenT, q_lenK, q_lenS, q_lenL, q_abs, q_intF, q_max, q_min, q_tupT, q_tupL, q_lstT, q_lstL, q_app, q_ext, q_joinL, q_stw, q_seq, q_lst, q_rng, q_rng2, q_zpT, q_zpL, q_truN, q_truB, q_truI, q_truT, q_truL, t_non, t_bl, t_int, t_str, t_tup, q_isiN, q_isiB, q_isiI, q_isiS, q_isiT, i_NoneType_int, i_NoneType_bool, i_NoneType_tuple, i_NoneType_list, i_NoneType_str, i_bool_int, i_bool_bool, i_bool_tuple, i_bool_list, i_bool_str, i_int_int, i_int_bool, i_int_tuple, i_int_list, i_int_str, i_str_int, i_str_bool, i_str_tuple, i_str_list, i_str_str, i_tuple_int, i_tuple_bool, i_tuple_tuple, i_tuple_list, i_tuple_str, i_list_int, i_list_bool, i_list_tuple, i_list_list, i_list_str, i_dict_int, i_dict_bool, i_dict_tuple, i_dict_list, i_dict_str, up_same, g_02, g_02', g_01, g_11, at_0, at_1, ix_0, ix_1, Option.some.injEq, HQ.lst.injEq, exists_eq_left', exists_eq_left, exists_and_left, exists_eq', exists_eq, decide_eq_true_eq, if_true, if_false, ite_true, ite_false, Bool.false_eq_true, reduceIte, reduceCtorEq, Bool.not_true, Bool.not_false, Nat.zero_add, Nat.reduceAdd, Nat.reduceSub, Nat.reduceLeDiff, Nat.reduceLT, Int.reduceLT, Int.reduceLE, Int.reduceEq, Int.reduceNe, Nat.reduceEqDiff, Int.reduceToNat, Int.reducePow, Int.reduceMul, Int.reduceAdd, Int.reduceSub, Int.reduceNeg, and_true, true_and, decide_true, decide_false, rowD, ofO]
        refine ⟨by omega, fun p1 hp1 p2 hp2 => ?_⟩
        refine ⟨_, up_get hp2 up_same, by simp; omega, fun p3 hp3 => ?_⟩
        simp only [rVar, rC, rBin, rUn, rTst, rChn, rTru, rAnd, rOr, rNot, rAndV, rOrV, rNotV, rIf, rNil, rCons, rTup, rLst, rFn, rCall, rCallK, rSl, rPrt, rNoP, rMt, gNm, q_gN, q_gC, q_gTp, gSb, rNext, rSeq, rDrop, rRet, rRetN, rBrk, rCnt, rIfS, rSet, rPar, rFor, iSeq, iLst, iRg1, iRg2, iZp, rLc, rYes, En.x, wipeD, start', List.getElem?_cons_zero, List.getElem?_cons_succ, List.set_cons_zero, List.set_cons_succ, List.map_cons, List.map_nil, List.length_cons, List.length_nil, List.cons_append, List.nil_append, List.replicate_succ, List.replicate_zero, id, q_asB, q_asI, q_add, q_addS, q_addT, q_addL, q_int, q_sub, q_mul, q_fdiv, q_mod, q_pow, q_neg, q_le, q_ge, q_gt, q_lt, q_ltT, q_isN, q_isB, q_isBi, q_isBs, q_isBn, q_isBt, q_isnt, n_non, n_bl, n_int, n_str, n_tup, n_ref, q_eq, q_eqS, q_eqB, q_ixT, q_ixK, q_ixL, q_ixS, q_slT, q_slL, q_slS, q_set, q_lenT, q_lenK, q_lenS, q_lenL, q_abs, q_intF, q_max, q_min, q_tupT, q_tupL, q_lstT, q_lstL, q_app, q_ext, q_joinL, q_stw, q_seq, q_lst, q_rng, q_rng2, q_zpT, q_zpL, q_truN, q_truB, q_truI, q_truT, q_truL, t_non, t_bl, t_int, t_str, t_tup, q_isiN, q_isiB, q_isiI, q_isiS, q_isiT, i_NoneType_int, i_NoneType_bool, i_NoneType_tuple, i_NoneType_list, i_NoneType_str, i_bool_int, i_bool_bool, i_bool_tuple, i_bool_list, i_bool_str, i_int_int, i_int_bool, i_int_tuple, i_int_list, i_int_str, i_str_int, i_str_bool, i_str_tuple, i_str_list, i_str_str, i_tuple_int, i_tuple_bool, i_tuple_tuple, i_tuple_list, i_tuple_str, i_list_int, i_list_bool, i_list_tuple, i_list_list, i_list_str, i_dict_int, i_dict_bool, i_dict_tuple, i_dict_list, i_dict_str, up_same, g_02, g_02', g_01, g_11, at_0, at_1, ix_0, ix_1, Option.some.injEq, HQ.lst.injEq, exists_eq_left', exists_eq_left, exists_and_left, exists_eq', exists_eq, decide_eq_true_eq, if_true, if_false, ite_true, ite_false, Bool.false_eq_true, reduceIte, reduceCtorEq, Bool.not_true, Bool.not_false, Nat.zero_add, Nat.reduceAdd, Nat.reduceSub, Nat.reduceLeDiff, Nat.reduceLT, Int.reduceLT, Int.reduceLE, Int.reduceEq, Int.reduceNe, Nat.reduceEqDiff, Int.reduceToNat, Int.reducePow, Int.reduceMul, Int.reduceAdd, Int.reduceSub, Int.reduceNeg, and_true, true_and, decide_true, decide_false, up_same]
        refine ⟨z, some nl, rfl, by omega, (fun _ h => by cases h; omega), ?_⟩
        refine ⟨_, rfl, ?_, ?_⟩
        · exact Pn_ofO (n := 2) (o := keyO z (some nl)) (fun ns h => by cases h; simp; omega)
        simp only [rVar, rC, rBin, rUn, rTst, rChn, rTru, rAnd, rOr, rNot, rAndV, rOrV, rNotV, rIf, rNil, rCons, rTup, rLst, rFn, rCall, rCallK, rSl, rPrt, rNoP, rMt, gNm, q_gN, q_gC, q_gTp, gSb, rNext, rSeq, rDrop, rRet, rRetN, rBrk, rCnt, rIfS, rSet, rPar, rFor, iSeq, iLst, iRg1, iRg2, iZp, rLc, rYes, En.x, wipeD, start', List.getElem?_cons_zero, List.getElem?_cons_succ, List.set_cons_zero, List.set_cons_succ, List.map_cons, List.map_nil, List.length_cons, List.length_nil, List.cons_append, List.nil_append, List.replicate_succ, List.replicate_zero, id, q_asB, q_asI, q_add, q_addS, q_addT, q_addL, q_int, q_sub, q_mul, q_fdiv, q_mod, q_pow, q_neg, q_le, q_ge, q_gt, q_lt, q_ltT, q_isN, q_isB, q_isBi, q_isBs, q_isBn, q_isBt, q_isnt, n_non, n_bl, n_int, n_str, n_tup, n_ref, q_eq, q_eqS, q_eqB, q_ixT, q_ixK, q_ixL, q_ixS, q_slT, q_slL, q_slS, q_set, q_lenT, q_lenK, q_lenS, q_lenL, q_abs, q_intF, q_max, q_min, q_tupT, q_tupL, q_lstT, q_lstL, q_app, q_ext, q_joinL, q_stw, q_seq, q_lst, q_rng, q_rng2, q_zpT, q_zpL, q_truN, q_truB, q_truI, q_truT, q_truL, t_non, t_bl, t_int, t_str, t_tup, q_isiN, q_isiB, q_isiI, q_isiS, q_isiT, i_NoneType_int, i_NoneType_bool, i_NoneType_tuple, i_NoneType_list, i_NoneType_str, i_bool_int, i_bool_bool, i_bool_tuple, i_bool_list, i_bool_str, i_int_int, i_int_bool, i_int_tuple, i_int_list, i_int_str, i_str_int, i_str_bool, i_str_tuple, i_str_list, i_str_str, i_tuple_int, i_tuple_bool, i_tuple_tuple, i_tuple_list, i_tuple_str, i_list_int, i_list_bool, i_list_tuple, i_list_list, i_list_str, i_dict_int, i_dict_bool, i_dict_tuple, i_dict_list, i_dict_str, up_same, g_02, g_02', g_01, g_11, at_0, at_1, ix_0, ix_1, Option.some.injEq, HQ.lst.injEq, exists_eq_left', exists_eq_left, exists_and_left, exists_eq', exists_eq, decide_eq_true_eq, if_true, if_false, ite_true, ite_false, Bool.false_eq_true, reduceIte, reduceCtorEq, Bool.not_true, Bool.not_false, Nat.zero_add, Nat.reduceAdd, Nat.reduceSub, Nat.reduceLeDiff, Nat.reduceLT, Int.reduceLT, Int.reduceLE, Int.reduceEq, Int.reduceNe, Nat.reduceEqDiff, Int.reduceToNat, Int.reducePow, Int.reduceMul, Int.reduceAdd, Int.reduceSub, Int.reduceNeg, and_true, true_and, decide_true, decide_false]
        refine ⟨z, none, rfl, by omega, (fun _ h => nomatch h), ?_⟩
        have hf3 := up_get (q := .lst ([D.int (6 - (z.length : Int))] ++ List.map D.int nl)) hp3 (up_get (q := .lst (List.map D.int nl)) hp2 (up_get (q := .lst [D.int (6 - (z.length : Int))]) hp1 hff))
        have hl3 := up_get (q := .lst ([D.int (6 - (z.length : Int))] ++ List.map D.int nl)) hp3 (up_get (q := .lst (List.map D.int nl)) hp2 (up_get (q := .lst [D.int (6 - (z.length : Int))]) hp1 hln))
        simp only [rVar, rC, rBin, rUn, rTst, rChn, rTru, rAnd, rOr, rNot, rAndV, rOrV, rNotV, rIf, rNil, rCons, rTup, rLst, rFn, rCall, rCallK, rSl, rPrt, rNoP, rMt, gNm, q_gN, q_gC, q_gTp, gSb, rNext, rSeq, rDrop, rRet, rRetN, rBrk, rCnt, rIfS, rSet, rPar, rFor, iSeq, iLst, iRg1, iRg2, iZp, rLc, rYes, En.x, wipeD, start', List.getElem?_cons_zero, List.getElem?_cons_succ, List.set_cons_zero, List.set_cons_succ, List.map_cons, List.map_nil, List.length_cons, List.length_nil, List.cons_append, List.nil_append, List.replicate_succ, List.replicate_zero, id, q_asB, q_asI, q_add, q_addS, q_addT, q_addL, q_int, q_sub, q_mul, q_fdiv, q_mod, q_pow, q_neg, q_le, q_ge, q_gt, q_lt, q_ltT, q_isN, q_isB, q_isBi, q_isBs, q_isBn, q_isBt, q_isnt, n_non, n_bl, n_int, n_str, n_tup, n_ref, q_eq, q_eqS, q_eqB, q_ixT, q_ixK, q_ixL, q_ixS, q_slT, q_slL, q_slS, q_set, q_lenT, q_lenK, q_lenS, q_lenL, q_abs, q_intF, q_max, q_min, q_tupT, q_tupL, q_lstT, q_lstL, q_app, q_ext, q_joinL, q_stw, q_seq, q_lst, q_rng, q_rng2, q_zpT, q_zpL, q_truN, q_truB, q_truI, q_truT, q_truL, t_non, t_bl, t_int, t_str, t_tup, q_isiN, q_isiB, q_isiI, q_isiS, q_isiT, i_NoneType_int, i_NoneType_bool, i_NoneType_tuple, i_NoneType_list, i_NoneType_str, i_bool_int, i_bool_bool, i_bool_tuple, i_bool_list, i_bool_str, i_int_int, i_int_bool, i_int_tuple, i_int_list, i_int_str, i_str_int, i_str_bool, i_str_tuple, i_str_list, i_str_str, i_tuple_int, i_tuple_bool, i_tuple_tuple, i_tuple_list, i_tuple_str, i_list_int, i_list_bool, i_list_tuple, i_list_list, i_list_str, i_dict_int, i_dict_bool, i_dict_tuple, i_dict_list, i_dict_str, up_same, g_02, g_02', g_01, g_11, at_0, at_1, ix_0, ix_1, Option.some.injEq, HQ.lst.injEq, exists_eq_left', exists_eq_left, exists_and_left, exists_eq', exists_eq, decide_eq_true_eq, if_true, if_false, ite_true, ite_false, Bool.false_eq_true, reduceIte, reduceCtorEq, Bool.not_true, Bool.not_false, Nat.zero_add, Nat.reduceAdd, Nat.reduceSub, Nat.reduceLeDiff, Nat.reduceLT, Int.reduceLT, Int.reduceLE, Int.reduceEq, Int.reduceNe, Nat.reduceEqDiff, Int.reduceToNat, Int.reducePow, Int.reduceMul, Int.reduceAdd, Int.reduceSub, Int.reduceNeg, and_true, true_and, decide_true, decide_false, keyO, ofO] at hf3 hl3 ⊢
        simp only [hf3, t_lst hf3, rVar, rC, rBin, rUn, rTst, rChn, rTru, rAnd, rOr, rNot, rAndV, rOrV, rNotV, rIf, rNil, rCons, rTup, rLst, rFn, rCall, rCallK, rSl, rPrt, rNoP, rMt, gNm, q_gN, q_gC, q_gTp, gSb, rNext, rSeq, rDrop, rRet, rRetN, rBrk, rCnt, rIfS, rSet, rPar, rFor, iSeq, iLst, iRg1, iRg2, iZp, rLc, rYes, En.x, wipeD, start', List.getElem?_cons_zero, List.getElem?_cons_succ, List.set_cons_zero, List.set_cons_succ, List.map_cons, List.map_nil, List.length_cons, List.length_nil, List.cons_append, List.nil_append, List.replicate_succ, List.replicate_zero, id, q_asB, q_asI, q_add, q_addS, q_addT, q_addL, q_int, q_sub, q_mul, q_fdiv, q_mod, q_pow, q_neg, q_le, q_ge, q_gt, q_lt, q_ltT, q_isN, q_isB, q_isBi, q_isBs, q_isBn, q_isBt, q_isnt, n_non, n_bl, n_int, n_str, n_tup, n_ref, q_eq, q_eqS, q_eqB, q_ixT, q_ixK, q_ixL, q_ixS, q_slT, q_slL, q_slS, q_set, q_lenT, q_lenK, q_lenS, q_lenL, q_abs, q_intF, q_max, q_min, q_tupT, q_tupL, q_lstT, q_lstL, q_app, q_ext, q_joinL, q_stw, q_seq, q_lst, q_rng, q_rng2, q_zpT, q_zpL, q_truN, q_truB, q_truI, q_truT, q_truL, t_non, t_bl, t_int, t_str, t_tup, q_isiN, q_isiB, q_isiI, q_isiS, q_isiT, i_NoneType_int, i_NoneType_bool, i_NoneType_tuple, i_NoneType_list, i_NoneType_str, i_bool_int, i_bool_bool, i_bool_tuple, i_bool_list, i_bool_str, i_int_int, i_int_bool, i_int_tuple, i_int_list, i_int_str, i_str_int, i_str_bool, i_str_tuple, i_str_list, i_str_str, i_tuple_int, i_tuple_bool, i_tuple_tuple, i_tuple_list, i_tuple_str, i_list_int, i_list_bool, i_list_tuple, i_list_list, i_list_str, i_dict_int, i_dict_bool, i_dict_tuple, i_dict_list, i_dict_str, up_same, g_02, g_02', g_01, g_11, at_0, at_1, ix_0, ix_1, Option.some.injEq, HQ.lst.injEq, exists_eq_left', exists_eq_left, exists_and_left, exists_eq', exists_eq, decide_eq_true_eq, if_true, if_false, ite_true, ite_false, Bool.false_eq_true, reduceIte, reduceCtorEq, Bool.not_true, Bool.not_false, Nat.zero_add, Nat.reduceAdd, Nat.reduceSub, Nat.reduceLeDiff, Nat.reduceLT, Int.reduceLT, Int.reduceLE, Int.reduceEq, Int.reduceNe, Nat.reduceEqDiff, Int.reduceToNat, Int.reducePow, Int.reduceMul, Int.reduceAdd, Int.reduceSub, Int.reduceNeg, and_true, true_and, decide_true, decide_false]
        refine ⟨by simp; omega, hN2 _ _ ⟨by rw [up_ne hlf]; exact hl3, ?_, _, _, _, _, _, _, _, rfl⟩⟩
        rw [up_same, et]; simp [keyR, keyO, ofO]
  · obtain ⟨hln, hff, z7, z8, z9, z10, z11, z12, z13, rfl⟩ := hp
    rw [List.length_map, List.take_length] at hff
    simp only [rVar, rC, rBin, rUn, rTst, rChn, rTru, rAnd, rOr, rNot, rAndV, rOrV, rNotV, rIf, rNil, rCons, rTup, rLst, rFn, rCall, rCallK, rSl, rPrt, rNoP, rMt, gNm, q_gN, q_gC, q_gTp, gSb, rNext, rSeq, rDrop, rRet, rRetN, rBrk, rCnt, rIfS, rSet, rPar, rFor, iSeq, iLst, iRg1, iRg2, iZp, rLc, rYes, En.x, wipeD, start', List.getElem?_cons_zero, List.getElem?_cons_succ, List.set_cons_zero, List.set_cons_succ, List.map_cons, List.map_nil, List.length_cons, List.length_nil, List.cons_append, List.nil_append, List.replicate_succ, List.replicate_zero, id, q_asB, q_asI, q_add, q_addS, q_addT, q_addL, q_int, q_sub, q_mul, q_fdiv, q_mod, q_pow, q_neg, q_le, q_ge, q_gt, q_lt, q_ltT, q_isN, q_isB, q_isBi, q_isBs, q_isBn, q_isBt, q_isnt, n_non, n_bl, n_int, n_str, n_tup, n_ref, q_eq, q_eqS, q_eqB, q_ixT, q_ixK, q_ixL, q_ixS, q_slT, q_slL, q_slS, q_set, q_lenT, q_lenK, q_lenS, q_lenL, q_abs, q_intF, q_max, q_min, q_tupT, q_tupL, q_lstT, q_lstL, q_app, q_ext, q_joinL, q_stw, q_seq, q_lst, q_rng, q_rng2, q_zpT, q_zpL, q_truN, q_truB, q_truI, q_truT, q_truL, t_non, t_bl, t_int, t_str, t_tup, q_isiN, q_isiB, q_isiI, q_isiS, q_isiT, i_NoneType_int, i_NoneType_bool, i_NoneType_tuple, i_NoneType_list, i_NoneType_str, i_bool_int, i_bool_bool, i_bool_tuple, i_bool_list, i_bool_str, i_int_int, i_int_bool, i_int_tuple, i_int_list, i_int_str, i_str_int, i_str_bool, i_str_tuple, i_str_list, i_str_str, i_tuple_int, i_tuple_bool, i_tuple_tuple, i_tuple_list, i_tuple_str, i_list_int, i_list_bool, i_list_tuple, i_list_list, i_list_str, i_dict_int, i_dict_bool, i_dict_tuple, i_dict_list, i_dict_str, up_same, g_02, g_02', g_01, g_11, at_0, at_1, ix_0, ix_1, Option.some.injEq, HQ.lst.injEq, exists_eq_left', exists_eq_left, exists_and_left, exists_eq', exists_eq, decide_eq_true_eq, if_true, if_false, ite_true, ite_false, Bool.false_eq_true, reduceIte, reduceCtorEq, Bool.not_true, Bool.not_false, Nat.zero_add, Nat.reduceAdd, Nat.reduceSub, Nat.reduceLeDiff, Nat.reduceLT, Int.reduceLT, Int.reduceLE, Int.reduceEq, Int.reduceNe, Nat.reduceEqDiff, Int.reduceToNat, Int.reducePow, Int.reduceMul, Int.reduceAdd, Int.reduceSub, Int.reduceNeg, and_true, true_and, decide_true, decide_false, hln, List.length_map]
    refine ⟨⟨by omega, by omega⟩, ?_⟩
    have eK : ls.map keyR = (ls.map fun l => keyO l.1 l.2).map ofO := by rw [List.map_map]; rfl
    have iR : ∀ (j : Nat) (l : Rw), ls[j]? = some l → atI (ls.map rowD) (0 + (j : Int)) = some (rowD l) ∧ atI (ls.map keyR) (0 + (j : Int)) = some (keyR l) := fun j l h => by
      rw [Int.zero_add]
      exact ⟨atI_nat (by rw [List.getElem?_map, h]; rfl), atI_nat (by rw [List.getElem?_map, h]; rfl)⟩
    refine loop_idx (fun i σ S' => S' ln = some (.lst (ls.map rowD)) ∧ S' f = some (.lst (ls.map keyR)) ∧ ∃ (fo : Option Nat) (z7 z8 z9 z10 z11 z12 z13 : Option D),
        σ = [some (.kl (ns.map D.int)), some (.int (0 + ↑i0)), some (.ref b), some (.str address), some (.ref ln), some (.ref f), some (fstD fo), z7, z8, z9, z10, z11, z12, z13] ∧
        (fo = none → lst_of ((ls.take i).map fun l => keyO l.1 l.2) = none) ∧ ∀ j, fo = some j → ∃ z nl, ls[j]? = some (z, some nl) ∧ lst_of ((ls.take i).map fun l => keyO l.1 l.2) = keyO z (some nl))
      (fun _ _ _ _ _ => trivial) (fun i x σ S' hx hp N2 hN2 => ?_) (fun σ S' hp => ?_) ⟨hln, hff, none, _, _, _, _, _, _, _, rfl, fun _ => rfl, fun _ h => nomatch h⟩
    · obtain ⟨hln, hff, fo, z7, z8, z9, z10, z11, z12, z13, rfl, hf0, hf1⟩ := hp
      obtain ⟨hi, rfl⟩ := rangeD_get hx
      obtain ⟨l, hl⟩ : ∃ l, ls[i]? = some l := ⟨_, List.getElem?_eq_getElem (by omega)⟩
      obtain ⟨r1, k1⟩ := iR i l hl
      have okl := hok l (List.mem_of_getElem? hl)
      have et : ls.take (i + 1) = ls.take i ++ [l] := by rw [List.take_add_one, hl]; rfl
      have es : lst_of ((ls.take (i + 1)).map fun l => keyO l.1 l.2) = if blw (keyO l.1 l.2) (lst_of ((ls.take i).map fun l => keyO l.1 l.2)) then keyO l.1 l.2 else lst_of ((ls.take i).map fun l => keyO l.1 l.2) := by
        rw [et, List.map_append]
        unfold lst_of
        rw [List.foldl_append]
        rfl
      simp only [rVar, rC, rBin, rUn, rTst, rChn, rTru, rAnd, rOr, rNot, rAndV, rOrV, rNotV, rIf, rNil, rCons, rTup, rLst, rFn, rCall, rCallK, rSl, rPrt, rNoP, rMt, gNm, q_gN, q_gC, q_gTp, gSb, rNext, rSeq, rDrop, rRet, rRetN, rBrk, rCnt, rIfS, rSet, rPar, rFor, iSeq, iLst, iRg1, iRg2, iZp, rLc, rYes, En.x, wipeD, start', List.getElem?_cons_zero, List.getElem?_cons_succ, List.set_cons_zero, List.set_cons_succ, List.map_cons, List.map_nil, List.length_cons, List.length_nil, List.cons_append, List.nil_append, List.replicate_succ, List.replicate_zero, id, q_asB, q_asI, q_add, q_addS, q_addT, q_addL, q_int, q_sub, q_mul, q_fdiv, q_mod, q_pow, q_neg, q_le, q_ge, q_gt, q_lt, q_ltT, q_isN, q_isB, q_isBi, q_isBs, q_isBn, q_isBt, q_isnt, n_non, n_bl, n_int, n_str, n_tup, n_ref, q_eq, q_eqS, q_eqB, q_ixT, q_ixK, q_ixL, q_ixS, q_slT, q_slL, q_slS, q_set, q_lenT, q_lenK, q_lenS, q_lenL, q_abs, q_intF, q_max, q_min, q_tupT, q_tupL, q_lstT, q_lstL, q_app, q_ext, q_joinL, q_stw, q_seq, q_lst, q_rng, q_rng2, q_zpT, q_zpL, q_truN, q_truB, q_truI, q_truT, q_truL, t_non, t_bl, t_int, t_str, t_tup, q_isiN, q_isiB, q_isiI, q_isiS, q_isiT, i_NoneType_int, i_NoneType_bool, i_NoneType_tuple, i_NoneType_list, i_NoneType_str, i_bool_int, i_bool_bool, i_bool_tuple, i_bool_list, i_bool_str, i_int_int, i_int_bool, i_int_tuple, i_int_list, i_int_str, i_str_int, i_str_bool, i_str_tuple, i_str_list, i_str_str, i_tuple_int, i_tuple_bool, i_tuple_tuple, i_tuple_list, i_tuple_str, i_list_int, i_list_bool, i_list_tuple, i_list_list, i_list_str, i_dict_int, i_dict_bool, i_dict_tuple, i_dict_list, i_dict_str, up_same, g_02, g_02', g_01, g_11, at_0, at_1, ix_0, ix_1, Option.some.injEq, HQ.lst.injEq, exists_eq_left', exists_eq_left, exists_and_left, exists_eq', exists_eq, decide_eq_true_eq, if_true, if_false, ite_true, ite_false, Bool.false_eq_true, reduceIte, reduceCtorEq, Bool.not_true, Bool.not_false, Nat.zero_add, Nat.reduceAdd, Nat.reduceSub, Nat.reduceLeDiff, Nat.reduceLT, Int.reduceLT, Int.reduceLE, Int.reduceEq, Int.reduceNe, Nat.reduceEqDiff, Int.reduceToNat, Int.reducePow, Int.reduceMul, Int.reduceAdd, Int.reduceSub, Int.reduceNeg, and_true, true_and, decide_true, decide_false, hln, List.length_map]
      refine ⟨⟨by omega, by omega⟩, ?_⟩
      refine loop_idx (fun j σ S' => S' ln = some (.lst (ls.map rowD)) ∧ S' f = some (.lst (ls.map keyR)) ∧ ∃ z12 : Option D,
        σ = [some (.kl (ns.map D.int)), some (.int (0 + ↑i0)), some (.ref b), some (.str address), some (.ref ln), some (.ref f), some (fstD fo), some (.int (0 + (i : Int))), z8, z9, z10, z11, z12, z13])
        (fun _ _ _ _ _ => trivial) (fun j x σ S' hx hp N3 hN3 => ?_) (fun σ S' hp => ?_) ⟨hln, hff, _, rfl⟩
      · obtain ⟨hln, hff, z12, rfl⟩ := hp
        obtain ⟨hj, rfl⟩ := rangeD_get hx
        obtain ⟨l2, hl2⟩ : ∃ l, ls[j]? = some l := ⟨_, List.getElem?_eq_getElem (by omega)⟩
        obtain ⟨r2, k2⟩ := iR j l2 hl2
        simp only [rVar, rC, rBin, rUn, rTst, rChn, rTru, rAnd, rOr, rNot, rAndV, rOrV, rNotV, rIf, rNil, rCons, rTup, rLst, rFn, rCall, rCallK, rSl, rPrt, rNoP, rMt, gNm, q_gN, q_gC, q_gTp, gSb, rNext, rSeq, rDrop, rRet, rRetN, rBrk, rCnt, rIfS, rSet, rPar, rFor, iSeq, iLst, iRg1, iRg2, iZp, rLc, rYes, En.x, wipeD, start', List.getElem?_cons_zero, List.getElem?_cons_succ, List.set_cons_zero, List.set_cons_succ, List.map_cons, List.map_nil, List.length_cons, List.length_nil, List.cons_append, List.nil_append, List.replicate_succ, List.replicate_zero, id, q_asB, q_asI, q_add, q_addS, q_addT, q_addL, q_int, q_sub, q_mul, q_fdiv, q_mod, q_pow, q_neg, q_le, q_ge, q_gt, q_lt, q_ltT, q_isN, q_isB, q_isBi, q_isBs, q_isBn, q_isBt, q_isnt, n_non, n_bl, n_int, n_str, n_tup, n_ref, q_eq, q_eqS, q_eqB, q_ixT, q_ixK, q_ixL, q_ixS, q_slT, q_slL, q_slS, q_set, q_lenT, q_lenK, q_lenS, q_lenL, q_abs, q_intF, q_max, q_min, q_tupT, q_tupL, q_lstT, q_lstL, q_app, q_ext, q_joinL, q_stw, q_seq, q_lst, q_rng, q_rng2, q_zpT, q_zpL, q_truN, q_truB, q_truI, q_truT, q_truL, t_non, t_bl, t_int, t_str, t_tup, q_isiN, q_isiB, q_isiI, q_isiS, q_isiT, i_NoneType_int, i_NoneType_bool, i_NoneType_tuple, i_NoneType_list, i_NoneType_str, i_bool_int, i_bool_bool, i_bool_tuple, i_bool_list, i_bool_str, i_int_int, i_int_bool, i_int_tuple, i_int_list, i_int_str, i_str_int, i_str_bool, i_str_tuple, i_str_list, i_str_str, i_tuple_int, i_tuple_bool, i_tuple_tuple, i_tuple_list, i_tuple_str, i_list_int, i_list_bool, i_list_tuple, i_list_list, i_list_str, i_dict_int, i_dict_bool, i_dict_tuple, i_dict_list, i_dict_str, up_same, g_02, g_02', g_01, g_11, at_0, at_1, ix_0, ix_1, Option.some.injEq, HQ.lst.injEq, exists_eq_left', exists_eq_left, exists_and_left, exists_eq', exists_eq, decide_eq_true_eq, if_true, if_false, ite_true, ite_false, Bool.false_eq_true, reduceIte, reduceCtorEq, Bool.not_true, Bool.not_false, Nat.zero_add, Nat.reduceAdd, Nat.reduceSub, Nat.reduceLeDiff, Nat.reduceLT, Int.reduceLT, Int.reduceLE, Int.reduceEq, Int.reduceNe, Nat.reduceEqDiff, Int.reduceToNat, Int.reducePow, Int.reduceMul, Int.reduceAdd, Int.reduceSub, Int.reduceNeg, and_true, true_and, decide_true, decide_false, hln, hff, r1, k1, r2, k2]
        refine ⟨_, _, rfl, ?_⟩
        simp only [rVar, rC, rBin, rUn, rTst, rChn, rTru, rAnd, rOr, rNot, rAndV, rOrV, rNotV, rIf, rNil, rCons, rTup, rLst, rFn, rCall, rCallK, rSl, rPrt, rNoP, rMt, gNm, q_gN, q_gC, q_gTp, gSb, rNext, rSeq, rDrop, rRet, rRetN, rBrk, rCnt, rIfS, rSet, rPar, rFor, iSeq, iLst, iRg1, iRg2, iZp, rLc, rYes, En.x, wipeD, start', List.getElem?_cons_zero, List.getElem?_cons_succ, List.set_cons_zero, List.set_cons_succ, List.map_cons, List.map_nil, List.length_cons, List.length_nil, List.cons_append, List.nil_append, List.replicate_succ, List.replicate_zero, id, q_asB, q_asI, q_add, q_addS, q_addT, q_addL, q_int, q_sub, q_mul, q_fdiv, q_mod, q_pow, q_neg, q_le, q_ge, q_gt, q_lt, q_ltT, q_isN, q_isB, q_isBi, q_isBs, q_isBn, q_isBt, q_isnt, n_non, n_bl, n_int, n_str, n_tup, n_ref, q_eq, q_eqS, q_eqB, q_ixT, q_ixK, q_ixL, q_ixS, q_slT, q_slL, q_slS, q_set, q_lenT, q_lenK, q_lenS, q_lenL, q_abs, q_intF, q_max, q_min, q_tupT, q_tupL, q_lstT, q_lstL, q_app, q_ext, q_joinL, q_stw, q_seq, q_lst, q_rng, q_rng2, q_zpT, q_zpL, q_truN, q_truB, q_truI, q_truT, q_truL, t_non, t_bl, t_int, t_str, t_tup, q_isiN, q_isiB, q_isiI, q_isiS, q_isiT, i_NoneType_int, i_NoneType_bool, i_NoneType_tuple, i_NoneType_list, i_NoneType_str, i_bool_int, i_bool_bool, i_bool_tuple, i_bool_list, i_bool_str, i_int_int, i_int_bool, i_int_tuple, i_int_list, i_int_str, i_str_int, i_str_bool, i_str_tuple, i_str_list, i_str_str, i_tuple_int, i_tuple_bool, i_tuple_tuple, i_tuple_list, i_tuple_str, i_list_int, i_list_bool, i_list_tuple, i_list_list, i_list_str, i_dict_int, i_dict_bool, i_dict_tuple, i_dict_list, i_dict_str, up_same, g_02, g_02', g_01, g_11, at_0, at_1, ix_0, ix_1, Option.some.injEq, HQ.lst.injEq, exists_eq_left', exists_eq_left, exists_and_left, exists_eq', exists_eq, decide_eq_true_eq, if_true, if_false, ite_true, ite_false, Bool.false_eq_true, reduceIte, reduceCtorEq, Bool.not_true, Bool.not_false, Nat.zero_add, Nat.reduceAdd, Nat.reduceSub, Nat.reduceLeDiff, Nat.reduceLT, Int.reduceLT, Int.reduceLE, Int.reduceEq, Int.reduceNe, Nat.reduceEqDiff, Int.reduceToNat, Int.reducePow, Int.reduceMul, Int.reduceAdd, Int.reduceSub, Int.reduceNeg, and_true, true_and, decide_true, decide_false, hln, r1, r2]
        refine ⟨l, l2, rfl, okl, hok l2 (List.mem_of_getElem? hl2), ?_⟩
        refine ⟨_, rfl, trivial, ?_⟩
        simp only [rVar, rC, rBin, rUn, rTst, rChn, rTru, rAnd, rOr, rNot, rAndV, rOrV, rNotV, rIf, rNil, rCons, rTup, rLst, rFn, rCall, rCallK, rSl, rPrt, rNoP, rMt, gNm, q_gN, q_gC, q_gTp, gSb, rNext, rSeq, rDrop, rRet, rRetN, rBrk, rCnt, rIfS, rSet, rPar, rFor, iSeq, iLst, iRg1, iRg2, iZp, rLc, rYes, En.x, wipeD, start', List.getElem?_cons_zero, List.getElem?_cons_succ, List.set_cons_zero, List.set_cons_succ, List.map_cons, List.map_nil, List.length_cons, List.length_nil, List.cons_append, List.nil_append, List.replicate_succ, List.replicate_zero, id, q_asB, q_asI, q_add, q_addS, q_addT, q_addL, q_int, q_sub, q_mul, q_fdiv, q_mod, q_pow, q_neg, q_le, q_ge, q_gt, q_lt, q_ltT, q_isN, q_isB, q_isBi, q_isBs, q_isBn, q_isBt, q_isnt, n_non, n_bl, n_int, n_str, n_tup, n_ref, q_eq, q_eqS, q_eqB, q_ixT, q_ixK, q_ixL, q_ixS, q_slT, q_slL, q_slS, q_set, q_lenT, q_lenK, q_lenS, q_lenL, q_abs, q_intF, q_max, q_min, q_tupT, q_tupL, q_lstT, q_lstL, q_app, q_ext, q_joinL, q_stw, q_seq, q_lst, q_rng, q_rng2, q_zpT, q_zpL, q_truN, q_truB, q_truI, q_truT, q_truL, t_non, t_bl, t_int, t_str, t_tup, q_isiN, q_isiB, q_isiI, q_isiS, q_isiT, i_NoneType_int, i_NoneType_bool, i_NoneType_tuple, i_NoneType_list, i_NoneType_str, i_bool_int, i_bool_bool, i_bool_tuple, i_bool_list, i_bool_str, i_int_int, i_int_bool, i_int_tuple, i_int_list, i_int_str, i_str_int, i_str_bool, i_str_tuple, i_str_list, i_str_str, i_tuple_int, i_tuple_bool, i_tuple_tuple, i_tuple_list, i_tuple_str, i_list_int, i_list_bool, i_list_tuple, i_list_list, i_list_str, i_dict_int, i_dict_bool, i_dict_tuple, i_dict_list, i_dict_str, up_same, g_02, g_02', g_01, g_11, at_0, at_1, ix_0, ix_1, Option.some.injEq, HQ.lst.injEq, exists_eq_left', exists_eq_left, exists_and_left, exists_eq', exists_eq, decide_eq_true_eq, if_true, if_false, ite_true, ite_false, Bool.false_eq_true, reduceIte, reduceCtorEq, Bool.not_true, Bool.not_false, Nat.zero_add, Nat.reduceAdd, Nat.reduceSub, Nat.reduceLeDiff, Nat.reduceLT, Int.reduceLT, Int.reduceLE, Int.reduceEq, Int.reduceNe, Nat.reduceEqDiff, Int.reduceToNat, Int.reducePow, Int.reduceMul, Int.reduceAdd, Int.reduceSub, Int.reduceNeg, and_true, true_and, decide_true, decide_false]
        exact hN3 _ _ ⟨hln, hff, _, rfl⟩
      · obtain ⟨hln, hff, z12, rfl⟩ := hp
        obtain ⟨z, o⟩ := l
        cases o with
        | none =>
          simp only [rVar, rC, rBin, rUn, rTst, rChn, rTru, rAnd, rOr, rNot, rAndV, rOrV, rNotV, rIf, rNil, rCons, rTup, rLst, rFn, rCall, rCallK, rSl, rPrt, rNoP, rMt, gNm, q_gN, q_gC, q_gTp, gSb, rNext, rSeq, rDrop, rRet, rRetN, rBrk, rCnt, rIfS, rSet, rPar, rFor, iSeq, iLst, iRg1, iRg2, iZp, rLc, rYes, En.x, wipeD, start', List.getElem?_cons_zero, List.getElem?_cons_succ, List.set_cons_zero, List.set_cons_succ, List.map_cons, List.map_nil, List.length_cons, List.length_nil, List.cons_append, List.nil_append, List.replicate_succ, List.replicate_zero, id, q_asB, q_asI, q_add, q_addS, q_addT, q_addL, q_int, q_sub, q_mul, q_fdiv, q_mod, q_pow, q_neg, q_le, q_ge, q_gt, q_lt, q_ltT, q_isN, q_isB, q_isBi, q_isBs, q_isBn, q_isBt, q_isnt, n_non, n_bl, n_int, n_str, n_tup, n_ref, q_eq, q_eqS, q_eqB, q_ixT, q_ixK, q_ixL, q_ixS, q_slT, q_slL, q_slS, q_set, q_lenT, q_lenK, q_lenS, q_lenL, q_abs, q_intF, q_max, q_min, q_tupT, q_tupL, q_lstT, q_lstL, q_app, q_ext, q_joinL, q_stw, q_seq, q_lst, q_rng, q_rng2, q_zpT, q_zpL, q_truN, q_truB, q_truI, q_truT, q_truL, t_non, t_bl, t_int, t_str, t_tup, q_isiN, q_isiB, q_isiI, q_isiS, q_isiT, i_NoneType_int, i_NoneType_bool, i_NoneType_tuple, i_NoneType_list, i_NoneType_str, i_bool_int, i_bool_bool, i_bool_tuple, i_bool_list, i_bool_str, i_int_int, i_int_bool, i_int_tuple, i_int_list, i_int_str, i_str_int, i_str_bool, i_str_tuple, i_str_list, i_str_str, i_tuple_int, i_tuple_bool, i_tuple_tuple, i_tuple_list, i_tuple_str, i_list_int, i_list_bool, i_list_tuple, i_list_list, i_list_str, i_dict_int, i_dict_bool, i_dict_tuple, i_dict_list, i_dict_str, up_same, g_02, g_02', g_01, g_11, at_0, at_1, ix_0, ix_1, Option.some.injEq, HQ.lst.injEq, exists_eq_left', exists_eq_left, exists_and_left, exists_eq', exists_eq, decide_eq_true_eq, if_true, if_false, ite_true, ite_false, Bool.false_eq_true, reduceIte, reduceCtorEq, Bool.not_true, Bool.not_false, Nat.zero_add, Nat.reduceAdd, Nat.reduceSub, Nat.reduceLeDiff, Nat.reduceLT, Int.reduceLT, Int.reduceLE, Int.reduceEq, Int.reduceNe, Nat.reduceEqDiff, Int.reduceToNat, Int.reducePow, Int.reduceMul, Int.reduceAdd, Int.reduceSub, Int.reduceNeg, and_true, true_and, decide_true, decide_false, hln, r1, rowD, ofO]
          refine hN2 _ _ ⟨hln, hff, fo, _, _, _, _, _, _, _, rfl, fun h => ?_, fun j h => ?_⟩
          · rw [es]; exact hf0 h
          · obtain ⟨z', nl, e1, e2⟩ := hf1 j h
            exact ⟨z', nl, e1, by rw [es]; exact e2⟩
        | some nl =>
          cases fo with
          | none =>
            simp only [rVar, rC, rBin, rUn, rTst, rChn, rTru, rAnd, rOr, rNot, rAndV, rOrV, rNotV, rIf, rNil, rCons, rTup, rLst, rFn, rCall, rCallK, rSl, rPrt, rNoP, rMt, gNm, q_gN, q_gC, q_gTp, gSb, rNext, rSeq, rDrop, rRet, rRetN, rBrk, rCnt, rIfS, rSet, rPar, rFor, iSeq, iLst, iRg1, iRg2, iZp, rLc, rYes, En.x, wipeD, start', List.getElem?_cons_zero, List.getElem?_cons_succ, List.set_cons_zero, List.set_cons_succ, List.map_cons, List.map_nil, List.length_cons, List.length_nil, List.cons_append, List.nil_append, List.replicate_succ, List.replicate_zero, id, q_asB, q_asI, q_add, q_addS, q_addT, q_addL, q_int, q_sub, q_mul, q_fdiv, q_mod, q_pow, q_neg, q_le, q_ge, q_gt, q_lt, q_ltT, q_isN, q_isB, q_isBi, q_isBs, q_isBn, q_isBt, q_isnt, n_non, n_bl, n_int, n_str, n_tup, n_ref, q_eq, q_eqS, q_eqB, q_ixT, q_ixK, q_ixL, q_ixS, q_slT, q_slL, q_slS, q_set, q_lenT, q_lenK, q_lenS, q_lenL, q_abs, q_intF, q_max, q_min, q_tupT, q_tupL, q_lstT, q_lstL, q_app, q_ext, q_joinL, q_stw, q_seq, q_lst, q_rng, q_rng2, q_zpT, q_zpL, q_truN, q_truB, q_truI, q_truT, q_truL, t_non, t_bl, t_int, t_str, t_tup, q_isiN, q_isiB, q_isiI, q_isiS, q_isiT, i_NoneType_int, i_NoneType_bool, i_NoneType_tuple, i_NoneType_list, i_NoneType_str, i_bool_int, i_bool_bool, i_bool_tuple, i_bool_list, i_bool_str, i_int_int, i_int_bool, i_int_tuple, i_int_list, i_int_str, i_str_int, i_str_bool, i_str_tuple, i_str_list, i_str_str, i_tuple_int, i_tuple_bool, i_tuple_tuple, i_tuple_list, i_tuple_str, i_list_int, i_list_bool, i_list_tuple, i_list_list, i_list_str, i_dict_int, i_dict_bool, i_dict_tuple, i_dict_list, i_dict_str, up_same, g_02, g_02', g_01, g_11, at_0, at_1, ix_0, ix_1, Option.some.injEq, HQ.lst.injEq, exists_eq_left', exists_eq_left, exists_and_left, exists_eq', exists_eq, decide_eq_true_eq, if_true, if_false, ite_true, ite_false, Bool.false_eq_true, reduceIte, reduceCtorEq, Bool.not_true, Bool.not_false, Nat.zero_add, Nat.reduceAdd, Nat.reduceSub, Nat.reduceLeDiff, Nat.reduceLT, Int.reduceLT, Int.reduceLE, Int.reduceEq, Int.reduceNe, Nat.reduceEqDiff, Int.reduceToNat, Int.reducePow, Int.reduceMul, Int.reduceAdd, Int.reduceSub, Int.reduceNeg, and_true, true_and, decide_true, decide_false, hln, r1, rowD, ofO, fstD]
            refine hN2 _ _ ⟨hln, hff, some i, _, _, _, _, _, _, _, rfl, (fun h => nomatch h), fun j h => ?_⟩
            cases h
            refine ⟨z, nl, hl, ?_⟩
            rw [es, hf0 rfl]; rfl
          | some j =>
            obtain ⟨z', nl', e1, e2⟩ := hf1 j rfl
            obtain ⟨r3, k3⟩ := iR j _ e1
            simp only [rVar, rC, rBin, rUn, rTst, rChn, rTru, rAnd, rOr, rNot, rAndV, rOrV, rNotV, rIf, rNil, rCons, rTup, rLst, rFn, rCall, rCallK, rSl, rPrt, rNoP, rMt, gNm, q_gN, q_gC, q_gTp, gSb, rNext, rSeq, rDrop, rRet, rRetN, rBrk, rCnt, rIfS, rSet, rPar, rFor, iSeq, iLst, iRg1, iRg2, iZp, rLc, rYes, En.x, wipeD, start', List.getElem?_cons_zero, List.getElem?_cons_succ, List.set_cons_zero, List.set_cons_succ, List.map_cons, List.map_nil, List.length_cons, List.length_nil, List.cons_append, List.nil_append, List.replicate_succ, List.replicate_zero, id, q_asB, q_asI, q_add, q_addS, q_addT, q_addL, q_int, q_sub, q_mul, q_fdiv, q_mod, q_pow, q_neg, q_le, q_ge, q_gt, q_lt, q_ltT, q_isN, q_isB, q_isBi, q_isBs, q_isBn, q_isBt, q_isnt, n_non, n_bl, n_int, n_str, n_tup, n_ref, q_eq, q_eqS, q_eqB, q_ixT, q_ixK, q_ixL, q_ixS, q_slT, q_slL, q_slS, q_set, q_lenT, q_lenK, q_lenS, q_lenL, q_abs, q_intF, q_max, q_min, q_tupT, q_tupL, q_lstT, q_lstL, q_app, q_ext, q_joinL, q_stw, q_seq, q_lst, q_rng, q_rng2, q_zpT, q_zpL, q_truN, q_truB, q_truI, q_truT, q_truL, t_non, t_bl, t_int, t_str, t_tup, q_isiN, q_isiB, q_isiI, q_isiS, q_isiT, i_NoneType_int, i_NoneType_bool, i_NoneType_tuple, i_NoneType_list, i_NoneType_str, i_bool_int, i_bool_bool, i_bool_tuple, i_bool_list, i_bool_str, i_int_int, i_int_bool, i_int_tuple, i_int_list, i_int_str, i_str_int, i_str_bool, i_str_tuple, i_str_list, i_str_str, i_tuple_int, i_tuple_bool, i_tuple_tuple, i_tuple_list, i_tuple_str, i_list_int, i_list_bool, i_list_tuple, i_list_list, i_list_str, i_dict_int, i_dict_bool, i_dict_tuple, i_dict_list, i_dict_str, up_same, g_02, g_02', g_01, g_11, at_0, at_1, ix_0, ix_1, Option.some.injEq, HQ.lst.injEq, exists_eq_left', exists_eq_left, exists_and_left, exists_eq', exists_eq, decide_eq_true_eq, if_true, if_false, ite_true, ite_false, Bool.false_eq_true, reduceIte, reduceCtorEq, Bool.not_true, Bool.not_false, Nat.zero_add, Nat.reduceAdd, Nat.reduceSub, Nat.reduceLeDiff, Nat.reduceLT, Int.reduceLT, Int.reduceLE, Int.reduceEq, Int.reduceNe, Nat.reduceEqDiff, Int.reduceToNat, Int.reducePow, Int.reduceMul, Int.reduceAdd, Int.reduceSub, Int.reduceNeg, and_true, true_and, decide_true, decide_false, hln, r1, r3, fstD]
            have rr : rowD (z, some nl) = .tup [.str z, .tup (nl.map D.int)] := rfl
            simp only [rr, rVar, rC, rBin, rUn, rTst, rChn, rTru, rAnd, rOr, rNot, rAndV, rOrV, rNotV, rIf, rNil, rCons, rTup, rLst, rFn, rCall, rCallK, rSl, rPrt, rNoP, rMt, gNm, q_gN, q_gC, q_gTp, gSb, rNext, rSeq, rDrop, rRet, rRetN, rBrk, rCnt, rIfS, rSet, rPar, rFor, iSeq, iLst, iRg1, iRg2, iZp, rLc, rYes, En.x, wipeD, start', List.getElem?_cons_zero, List.getElem?_cons_succ, List.set_cons_zero, List.set_cons_succ, List.map_cons, List.map_nil, List.length_cons, List.length_nil, List.cons_append, List.nil_append, List.replicate_succ, List.replicate_zero, id, q_asB, q_asI, q_add, q_addS, q_addT, q_addL, q_int, q_sub, q_mul, q_fdiv, q_mod, q_pow, q_neg, q_le, q_ge, q_gt, q_lt, q_ltT, q_isN, q_isB, q_isBi, q_isBs, q_isBn, q_isBt, q_isnt, n_non, n_bl, n_int, n_str, n_tup, n_ref, q_eq, q_eqS, q_eqB, q_ixT, q_ixK, q_ixL, q_ixS, q_slT, q_slL, q_slS, q_set, q_lenT, q_lenK, q_lenS, q_lenL, q_abs, q_intF, q_max, q_min, q_tupT, q_tupL, q_lstT, q_lstL, q_app, q_ext, q_joinL, q_stw, q_seq, q_lst, q_rng, q_rng2, q_zpT, q_zpL, q_truN, q_truB, q_truI, q_truT, q_truL, t_non, t_bl, t_int, t_str, t_tup, q_isiN, q_isiB, q_isiI, q_isiS, q_isiT, i_NoneType_int, i_NoneType_bool, i_NoneType_tuple, i_NoneType_list, i_NoneType_str, i_bool_int, i_bool_bool, i_bool_tuple, i_bool_list, i_bool_str, i_int_int, i_int_bool, i_int_tuple, i_int_list, i_int_str, i_str_int, i_str_bool, i_str_tuple, i_str_list, i_str_str, i_tuple_int, i_tuple_bool, i_tuple_tuple, i_tuple_list, i_tuple_str, i_list_int, i_list_bool, i_list_tuple, i_list_list, i_list_str, i_dict_int, i_dict_bool, i_dict_tuple, i_dict_list, i_dict_str, up_same, g_02, g_02', g_01, g_11, at_0, at_1, ix_0, ix_1, Option.some.injEq, HQ.lst.injEq, exists_eq_left', exists_eq_left, exists_and_left, exists_eq', exists_eq, decide_eq_true_eq, if_true, if_false, ite_true, ite_false, Bool.false_eq_true, reduceIte, reduceCtorEq, Bool.not_true, Bool.not_false, Nat.zero_add, Nat.reduceAdd, Nat.reduceSub, Nat.reduceLeDiff, Nat.reduceLT, Int.reduceLT, Int.reduceLE, Int.reduceEq, Int.reduceNe, Nat.reduceEqDiff, Int.reduceToNat, Int.reducePow, Int.reduceMul, Int.reduceAdd, Int.reduceSub, Int.reduceNeg, and_true, true_and, decide_true, decide_false, hln, r1, r3]
            refine ⟨(z, some nl), (z', some nl'), rfl, okl, hok _ (List.mem_of_getElem? e1), ?_⟩
            simp only [rVar, rC, rBin, rUn, rTst, rChn, rTru, rAnd, rOr, rNot, rAndV, rOrV, rNotV, rIf, rNil, rCons, rTup, rLst, rFn, rCall, rCallK, rSl, rPrt, rNoP, rMt, gNm, q_gN, q_gC, q_gTp, gSb, rNext, rSeq, rDrop, rRet, rRetN, rBrk, rCnt, rIfS, rSet, rPar, rFor, iSeq, iLst, iRg1, iRg2, iZp, rLc, rYes, En.x, wipeD, start', List.getElem?_cons_zero, List.getElem?_cons_succ, List.set_cons_zero, List.set_cons_succ, List.map_cons, List.map_nil, List.length_cons, List.length_nil, List.cons_append, List.nil_append, List.replicate_succ, List.replicate_zero, id, q_asB, q_asI, q_add, q_addS, q_addT, q_addL, q_int, q_sub, q_mul, q_fdiv, q_mod, q_pow, q_neg, q_le, q_ge, q_gt, q_lt, q_ltT, q_isN, q_isB, q_isBi, q_isBs, q_isBn, q_isBt, q_isnt, n_non, n_bl, n_int, n_str, n_tup, n_ref, q_eq, q_eqS, q_eqB, q_ixT, q_ixK, q_ixL, q_ixS, q_slT, q_slL, q_slS, q_set, q_lenT, q_lenK, q_lenS, q_lenL, q_abs, q_intF, q_max, q_min, q_tupT, q_tupL, q_lstT, q_lstL, q_app, q_ext, q_joinL, q_stw, q_seq, q_lst, q_rng, q_rng2, q_zpT, q_zpL, q_truN, q_truB, q_truI, q_truT, q_truL, t_non, t_bl, t_int, t_str, t_tup, q_isiN, q_isiB, q_isiI, q_isiS, q_isiT, i_NoneType_int, i_NoneType_bool, i_NoneType_tuple, i_NoneType_list, i_NoneType_str, i_bool_int, i_bool_bool, i_bool_tuple, i_bool_list, i_bool_str, i_int_int, i_int_bool, i_int_tuple, i_int_list, i_int_str, i_str_int, i_str_bool, i_str_tuple, i_str_list, i_str_str, i_tuple_int, i_tuple_bool, i_tuple_tuple, i_tuple_list, i_tuple_str, i_list_int, i_list_bool, i_list_tuple, i_list_list, i_list_str, i_dict_int, i_dict_bool, i_dict_tuple, i_dict_list, i_dict_str, up_same, g_02, g_02', g_01, g_11, at_0, at_1, ix_0, ix_1, Option.some.injEq, HQ.lst.injEq, exists_eq_left', exists_eq_left, exists_and_left, exists_eq', exists_eq, decide_eq_true_eq, if_true, if_false, ite_true, ite_false, Bool.false_eq_true, reduceIte, reduceCtorEq, Bool.not_true, Bool.not_false, Nat.zero_add, Nat.reduceAdd, Nat.reduceSub, Nat.reduceLeDiff, Nat.reduceLT, Int.reduceLT, Int.reduceLE, Int.reduceEq, Int.reduceNe, Nat.reduceEqDiff, Int.reduceToNat, Int.reducePow, Int.reduceMul, Int.reduceAdd, Int.reduceSub, Int.reduceNeg, and_true, true_and, decide_true, decide_false]
            rw [e2] at es
            by_cases c : aheadB (z, some nl) (z', some nl') = true
            · simp only [c, rVar, rC, rBin, rUn, rTst, rChn, rTru, rAnd, rOr, rNot, rAndV, rOrV, rNotV, rIf, rNil, rCons, rTup, rLst, rFn, rCall, rCallK, rSl, rPrt, rNoP, rMt, gNm, q_gN, q_gC, q_gTp, gSb, rNext, rSeq, rDrop, rRet, rRetN, rBrk, rCnt, rIfS, rSet, rPar, rFor, iSeq, iLst, iRg1, iRg2, iZp, rLc, rYes, En.x, wipeD, start', List.getElem?_cons_zero, List.getElem?_cons_succ, List.set_cons_zero, List.set_cons_succ, List.map_cons, List.map_nil, List.length_cons, List.length_nil, List.cons_append, List.nil_append, List.replicate_succ, List.replicate_zero, id, q_asB, q_asI, q_add, q_addS, q_addT, q_addL, q_int, q_sub, q_mul, q_fdiv, q_mod, q_pow, q_neg, q_le, q_ge, q_gt, q_lt, q_ltT, q_isN, q_isB, q_isBi, q_isBs, q_isBn, q_isBt, q_isnt, n_non, n_bl, n_int, n_str, n_tup, n_ref, q_eq, q_eqS, q_eqB, q_ixT, q_ixK, q_ixL, q_ixS, q_slT, q_slL, q_slS, q_set, q_lenT, q_lenK, q_lenS, q_lenL, q_abs, q_intF, q_max, q_min, q_tupT, q_tupL, q_lstT, q_lstL, q_app, q_ext, q_joinL, q_stw, q_seq, q_lst, q_rng, q_rng2, q_zpT, q_zpL, q_truN, q_truB, q_truI, q_truT, q_truL, t_non, t_bl, t_int, t_str, t_tup, q_isiN, q_isiB, q_isiI, q_isiS, q_isiT, i_NoneType_int, i_NoneType_bool, i_NoneType_tuple, i_NoneType_list, i_NoneType_str, i_bool_int, i_bool_bool, i_bool_tuple, i_bool_list, i_bool_str, i_int_int, i_int_bool, i_int_tuple, i_int_list, i_int_str, i_str_int, i_str_bool, i_str_tuple, i_str_list, i_str_str, i_tuple_int, i_tuple_bool, i_tuple_tuple, i_tuple_list, i_tuple_str, i_list_int, i_list_bool, i_list_tuple, i_list_list, i_list_str, i_dict_int, i_dict_bool, i_dict_tuple, i_dict_list, i_dict_str, up_same, g_02, g_02', g_01, g_11, at_0, at_1, ix_0, ix_1, Option.some.injEq, HQ.lst.injEq, exists_eq_left', exists_eq_left, exists_and_left, exists_eq', exists_eq, decide_eq_true_eq, if_true, if_false, ite_true, ite_false, Bool.false_eq_true, reduceIte, reduceCtorEq, Bool.not_true, Bool.not_false, Nat.zero_add, Nat.reduceAdd, Nat.reduceSub, Nat.reduceLeDiff, Nat.reduceLT, Int.reduceLT, Int.reduceLE, Int.reduceEq, Int.reduceNe, Nat.reduceEqDiff, Int.reduceToNat, Int.reducePow, Int.reduceMul, Int.reduceAdd, Int.reduceSub, Int.reduceNeg, and_true, true_and, decide_true, decide_false]
              refine hN2 _ _ ⟨hln, hff, some i, _, _, _, _, _, _, _, rfl, (fun h => nomatch h), fun j h => ?_⟩
              cases h
              refine ⟨z, nl, hl, ?_⟩
              rw [es, if_pos (show blw (keyO z (some nl)) (keyO z' (some nl')) = true from c)]
            · simp only [c, rVar, rC, rBin, rUn, rTst, rChn, rTru, rAnd, rOr, rNot, rAndV, rOrV, rNotV, rIf, rNil, rCons, rTup, rLst, rFn, rCall, rCallK, rSl, rPrt, rNoP, rMt, gNm, q_gN, q_gC, q_gTp, gSb, rNext, rSeq, rDrop, rRet, rRetN, rBrk, rCnt, rIfS, rSet, rPar, rFor, iSeq, iLst, iRg1, iRg2, iZp, rLc, rYes, En.x, wipeD, start', List.getElem?_cons_zero, List.getElem?_cons_succ, List.set_cons_zero, List.set_cons_succ, List.map_cons, List.map_nil, List.length_cons, List.length_nil, List.cons_append, List.nil_append, List.replicate_succ, List.replicate_zero, id, q_asB, q_asI, q_add, q_addS, q_addT, q_addL, q_int, q_sub, q_mul, q_fdiv, q_mod, q_pow, q_neg, q_le, q_ge, q_gt, q_lt, q_ltT, q_isN, q_isB, q_isBi, q_isBs, q_isBn, q_isBt, q_isnt, n_non, n_bl, n_int, n_str, n_tup, n_ref, q_eq, q_eqS, q_eqB, q_ixT, q_ixK, q_ixL, q_ixS, q_slT, q_slL, q_slS, q_set, q_lenT, q_lenK, q_lenS, q_lenL, q_abs, q_intF, q_max, q_min, q_tupT, q_tupL, q_lstT, q_lstL, q_app, q_ext, q_joinL, q_stw, q_seq, q_lst, q_rng, q_rng2, q_zpT, q_zpL, q_truN, q_truB, q_truI, q_truT, q_truL, t_non, t_bl, t_int, t_str, t_tup, q_isiN, q_isiB, q_isiI, q_isiS, q_isiT, i_NoneType_int, i_NoneType_bool, i_NoneType_tuple, i_NoneType_list, i_NoneType_str, i_bool_int, i_bool_bool, i_bool_tuple, i_bool_list, i_bool_str, i_int_int, i_int_bool, i_int_tuple, i_int_list, i_int_str, i_str_int, i_str_bool, i_str_tuple, i_str_list, i_str_str, i_tuple_int, i_tuple_bool, i_tuple_tuple, i_tuple_list, i_tuple_str, i_list_int, i_list_bool, i_list_tuple, i_list_list, i_list_str, i_dict_int, i_dict_bool, i_dict_tuple, i_dict_list, i_dict_str, up_same, g_02, g_02', g_01, g_11, at_0, at_1, ix_0, ix_1, Option.some.injEq, HQ.lst.injEq, exists_eq_left', exists_eq_left, exists_and_left, exists_eq', exists_eq, decide_eq_true_eq, if_true, if_false, ite_true, ite_false, Bool.false_eq_true, reduceIte, reduceCtorEq, Bool.not_true, Bool.not_false, Nat.zero_add, Nat.reduceAdd, Nat.reduceSub, Nat.reduceLeDiff, Nat.reduceLT, Int.reduceLT, Int.reduceLE, Int.reduceEq, Int.reduceNe, Nat.reduceEqDiff, Int.reduceToNat, Int.reducePow, Int.reduceMul, Int.reduceAdd, Int.reduceSub, Int.reduceNeg, and_true, true_and, decide_true, decide_false]
              refine hN2 _ _ ⟨hln, hff, some j, _, _, _, _, _, _, _, rfl, (fun h => nomatch h), fun j' h => ?_⟩
              cases h
              refine ⟨z', nl', e1, ?_⟩
              rw [es, if_neg (show ¬ blw (keyO z (some nl)) (keyO z' (some nl')) = true from c)]
    · obtain ⟨hln, hff, fo, z7, z8, z9, z10, z11, z12, z13, rfl, hf0, hf1⟩ := hp
      rw [rangeD_len] at hf0 hf1
      have eT : ls.take ((ls.length : Int)).toNat = ls := by simp
      rw [eT] at hf0 hf1
      simp only [rVar, rC, rBin, rUn, rTst, rChn, rTru, rAnd, rOr, rNot, rAndV, rOrV, rNotV, rIf, rNil, rCons, rTup, rLst, rFn, rCall, rCallK, rSl, rPrt, rNoP, rMt, gNm, q_gN, q_gC, q_gTp, gSb, rNext, rSeq, rDrop, rRet, rRetN, rBrk, rCnt, rIfS, rSet, rPar, rFor, iSeq, iLst, iRg1, iRg2, iZp, rLc, rYes, En.x, wipeD, start', List.getElem?_cons_zero, List.getElem?_cons_succ, List.set_cons_zero, List.set_cons_succ, List.map_cons, List.map_nil, List.length_cons, List.length_nil, List.cons_append, List.nil_append, List.replicate_succ, List.replicate_zero, id, q_asB, q_asI, q_add, q_addS, q_addT, q_addL, q_int, q_sub, q_mul, q_fdiv, q_mod, q_pow, q_neg, q_le, q_ge, q_gt, q_lt, q_ltT, q_isN, q_isB, q_isBi, q_isBs, q_isBn, q_isBt, q_isnt, n_non, n_bl, n_int, n_str, n_tup, n_ref, q_eq, q_eqS, q_eqB, q_ixT, q_ixK, q_ixL, q_ixS, q_slT, q_slL, q_slS, q_set, q_lenT, q_lenK, q_lenS, q_lenL, q_abs, q_intF, q_max, q_min, q_tupT, q_tupL, q_lstT, q_lstL, q_app, q_ext, q_joinL, q_stw, q_seq, q_lst, q_rng, q_rng2, q_zpT, q_zpL, q_truN, q_truB, q_truI, q_truT, q_truL, t_non, t_bl, t_int, t_str, t_tup, q_isiN, q_isiB, q_isiI, q_isiS, q_isiT, i_NoneType_int, i_NoneType_bool, i_NoneType_tuple, i_NoneType_list, i_NoneType_str, i_bool_int, i_bool_bool, i_bool_tuple, i_bool_list, i_bool_str, i_int_int, i_int_bool, i_int_tuple, i_int_list, i_int_str, i_str_int, i_str_bool, i_str_tuple, i_str_list, i_str_str, i_tuple_int, i_tuple_bool, i_tuple_tuple, i_tuple_list, i_tuple_str, i_list_int, i_list_bool, i_list_tuple, i_list_list, i_list_str, i_dict_int, i_dict_bool, i_dict_tuple, i_dict_list, i_dict_str, up_same, g_02, g_02', g_01, g_11, at_0, at_1, ix_0, ix_1, Option.some.injEq, HQ.lst.injEq, exists_eq_left', exists_eq_left, exists_and_left, exists_eq', exists_eq, decide_eq_true_eq, if_true, if_false, ite_true, ite_false, Bool.false_eq_true, reduceIte, reduceCtorEq, Bool.not_true, Bool.not_false, Nat.zero_add, Nat.reduceAdd, Nat.reduceSub, Nat.reduceLeDiff, Nat.reduceLT, Int.reduceLT, Int.reduceLE, Int.reduceEq, Int.reduceNe, Nat.reduceEqDiff, Int.reduceToNat, Int.reducePow, Int.reduceMul, Int.reduceAdd, Int.reduceSub, Int.reduceNeg, and_true, true_and, decide_true, decide_false, hff, eK]
      refine ⟨_, rfl, ?_⟩
      cases fo with
      | none =>
        simp only [rVar, rC, rBin, rUn, rTst, rChn, rTru, rAnd, rOr, rNot, rAndV, rOrV, rNotV, rIf, rNil, rCons, rTup, rLst, rFn, rCall, rCallK, rSl, rPrt, rNoP, rMt, gNm, q_gN, q_gC, q_gTp, gSb, rNext, rSeq, rDrop, rRet, rRetN, rBrk, rCnt, rIfS, rSet, rPar, rFor, iSeq, iLst, iRg1, iRg2, iZp, rLc, rYes, En.x, wipeD, start', List.getElem?_cons_zero, List.getElem?_cons_succ, List.set_cons_zero, List.set_cons_succ, List.map_cons, List.map_nil, List.length_cons, List.length_nil, List.cons_append, List.nil_append, List.replicate_succ, List.replicate_zero, id, q_asB, q_asI, q_add, q_addS, q_addT, q_addL, q_int, q_sub, q_mul, q_fdiv, q_mod, q_pow, q_neg, q_le, q_ge, q_gt, q_lt, q_ltT, q_isN, q_isB, q_isBi, q_isBs, q_isBn, q_isBt, q_isnt, n_non, n_bl, n_int, n_str, n_tup, n_ref, q_eq, q_eqS, q_eqB, q_ixT, q_ixK, q_ixL, q_ixS, q_slT, q_slL, q_slS, q_set, q_lenT, q_lenK, q_lenS, q_lenL, q_abs, q_intF, q_max, q_min, q_tupT, q_tupL, q_lstT, q_lstL, q_app, q_ext, q_joinL, q_stw, q_seq, q_lst, q_rng, q_rng2, q_zpT, q_zpL, q_truN, q_truB, q_truI, q_truT, q_truL, t_non, t_bl, t_int, t_str, t_tup, q_isiN, q_isiB, q_isiI, q_isiS, q_isiT, i_NoneType_int, i_NoneType_bool, i_NoneType_tuple, i_NoneType_list, i_NoneType_str, i_bool_int, i_bool_bool, i_bool_tuple, i_bool_list, i_bool_str, i_int_int, i_int_bool, i_int_tuple, i_int_list, i_int_str, i_str_int, i_str_bool, i_str_tuple, i_str_list, i_str_str, i_tuple_int, i_tuple_bool, i_tuple_tuple, i_tuple_list, i_tuple_str, i_list_int, i_list_bool, i_list_tuple, i_list_list, i_list_str, i_dict_int, i_dict_bool, i_dict_tuple, i_dict_list, i_dict_str, up_same, g_02, g_02', g_01, g_11, at_0, at_1, ix_0, ix_1, Option.some.injEq, HQ.lst.injEq, exists_eq_left', exists_eq_left, exists_and_left, exists_eq', exists_eq, decide_eq_true_eq, if_true, if_false, ite_true, ite_false, Bool.false_eq_true, reduceIte, reduceCtorEq, Bool.not_true, Bool.not_false, Nat.zero_add, Nat.reduceAdd, Nat.reduceSub, Nat.reduceLeDiff, Nat.reduceLT, Int.reduceLT, Int.reduceLE, Int.reduceEq, Int.reduceNe, Nat.reduceEqDiff, Int.reduceToNat, Int.reducePow, Int.reduceMul, Int.reduceAdd, Int.reduceSub, Int.reduceNeg, and_true, true_and, decide_true, decide_false, hf0, fstD, ofO]
        exact hN _ _ ⟨_, _, _, _, _, _, _, _, _, _, _, _, _, rfl⟩
      | some j =>
        obtain ⟨z', nl', e1, e2⟩ := hf1 j rfl
        obtain ⟨r3, k3⟩ := iR j _ e1
        have ok' := hok _ (List.mem_of_getElem? e1)
        have hz6 : z'.length ≤ 6 := ok'.1
        have hnl := ok'.2 nl' rfl
        have rr : rowD (z', some nl') = .tup [.str z', .tup (nl'.map D.int)] := rfl
        simp only [rVar, rC, rBin, rUn, rTst, rChn, rTru, rAnd, rOr, rNot, rAndV, rOrV, rNotV, rIf, rNil, rCons, rTup, rLst, rFn, rCall, rCallK, rSl, rPrt, rNoP, rMt, gNm, q_gN, q_gC, q_gTp, gSb, rNext, rSeq, rDrop, rRet, rRetN, rBrk, rCnt, rIfS, rSet, rPar, rFor, iSeq, iLst, iRg1, iRg2, iZp, rLc, rYes, En.x, wipeD, start', List.getElem?_cons_zero, List.getElem?_cons_succ, List.set_cons_zero, List.set_cons_succ, List.map_cons, List.map_nil, List.length_cons, List.length_nil, List.cons_append, List.nil_append, List.replicate_succ, List.replicate_zero, id, q_asB, q_asI, q_add, q_addS, q_addT, q_addL, q_int, q_sub, q_mul, q_fdiv, q_mod, q_pow, q_neg, q_le, q_ge, q_gt, q_lt, q_ltT, q_isN, q_isB, q_isBi, q_isBs, q_isBn, q_isBt, q_isnt, n_non, n_bl, n_int, n_str, n_tup, n_ref, q_eq, q_eqS, q_eqB, q_ixT, q_ixK, q_ixL, q_ixS, q_slT, q_slL, q_slS, q_set, q_lenT, q_lenK, q_lenS, q_lenL, q_abs, q_intF, q_max, q_min, q_tupT, q_tupL, q_lstT, q_lstL, q_app, q_ext, q_joinL, q_stw, q_seq, q_lst, q_rng, q_rng2, q_zpT, q_zpL, q_truN, q_truB, q_truI, q_truT, q_truL, t_non, t_bl, t_int, t_str, t_tup, q_isiN, q_isiB, q_isiI, q_isiS, q_isiT, i_NoneType_int, i_NoneType_bool, i_NoneType_tuple, i_NoneType_list, i_NoneType_str, i_bool_int, i_bool_bool, i_bool_tuple, i_bool_list, i_bool_str, i_int_int, i_int_bool, i_int_tuple, i_int_list, i_int_str, i_str_int, i_str_bool, i_str_tuple, i_str_list, i_str_str, i_tuple_int, i_tuple_bool, i_tuple_tuple, i_tuple_list, i_tuple_str, i_list_int, i_list_bool, i_list_tuple, i_list_list, i_list_str, i_dict_int, i_dict_bool, i_dict_tuple, i_dict_list, i_dict_str, up_same, g_02, g_02', g_01, g_11, at_0, at_1, ix_0, ix_1, Option.some.injEq, HQ.lst.injEq, exists_eq_left', exists_eq_left, exists_and_left, exists_eq', exists_eq, decide_eq_true_eq, if_true, if_false, ite_true, ite_false, Bool.false_eq_true, reduceIte, reduceCtorEq, Bool.not_true, Bool.not_false, Nat.zero_add, Nat.reduceAdd, Nat.reduceSub, Nat.reduceLeDiff, Nat.reduceLT, Int.reduceLT, Int.reduceLE, Int.reduceEq, Int.reduceNe, Nat.reduceEqDiff, Int.reduceToNat, Int.reducePow, Int.reduceMul, Int.reduceAdd, Int.reduceSub, Int.reduceNeg, and_true, true_and, decide_true, decide_false, e2, fstD, hln, r3, rr]
        refine ⟨by omega, fun p1 hp1 => ?_⟩
        simp only [rVar, rC, rBin, rUn, rTst, rChn, rTru, rAnd, rOr, rNot, rAndV, rOrV, rNotV, rIf, rNil, rCons, rTup, rLst, rFn, rCall, rCallK, rSl, rPrt, rNoP, rMt, gNm, q_gN, q_gC, q_gTp, gSb, rNext, rSeq, rDrop, rRet, rRetN, rBrk, rCnt, rIfS, rSet, rPar, rFor, iSeq, iLst, iRg1, iRg2, iZp, rLc, rYes, En.x, wipeD, start', List.getElem?_cons_zero, List.getElem?_cons_succ, List.set_cons_zero, List.set_cons_succ, List.map_cons, List.map_nil, List.length_cons, List.length_nil, List.cons_append, List.nil_append, List.replicate_succ, List.replicate_zero, id, q_asB, q_asI, q_add, q_addS, q_addT, q_addL, q_int, q_sub, q_mul, q_fdiv, q_mod, q_pow, q_neg, q_le, q_ge, q_gt, q_lt, q_ltT, q_isN, q_isB, q_isBi, q_isBs, q_isBn, q_isBt, q_isnt, n_non, n_bl, n_int, n_str, n_tup, n_ref, q_eq, q_eqS, q_eqB, q_ixT, q_ixK, q_ixL, q_ixS, q_slT, q_slL, q_slS, q_set, q_lenT, q_lenK, q_lenS, q_lenL, q_abs, q_intF, q_max, q_min, q_tupT, q_tupL, q_lstT, q_lstL, q_app, q_ext, q_joinL, q_stw, q_seq, q_lst, q_rng, q_rng2, q_zpT, q_zpL, q_truN, q_truB, q_truI, q_truT, q_truL, t_non, t_bl, t_int, t_str, t_tup, q_isiN, q_isiB, q_isiI, q_isiS, q_isiT, i_NoneType_int, i_NoneType_bool, i_NoneType_tuple, i_NoneType_list, i_NoneType_str, i_bool_int, i_bool_bool, i_bool_tuple, i_bool_list, i_bool_str, i_int_int, i_int_bool, i_int_tuple, i_int_list, i_int_str, i_str_int, i_str_bool, i_str_tuple, i_str_list, i_str_str, i_tuple_int, i_tuple_bool, i_tuple_tuple, i_tuple_list, i_tuple_str, i_list_int, i_list_bool, i_list_tuple, i_list_list, i_list_str, i_dict_int, i_dict_bool, i_dict_tuple, i_dict_list, i_dict_str, up_same, g_02, g_02', g_01, g_11, at_0, at_1, ix_0, ix_1, Option.some.injEq, HQ.lst.injEq, exists_eq_left', exists_eq_left, exists_and_left, exists_eq', exists_eq, decide_eq_true_eq, if_true, if_false, ite_true, ite_false, Bool.false_eq_true, reduceIte, reduceCtorEq, Bool.not_true, Bool.not_false, Nat.zero_add, Nat.reduceAdd, Nat.reduceSub, Nat.reduceLeDiff, Nat.reduceLT, Int.reduceLT, Int.reduceLE, Int.reduceEq, Int.reduceNe, Nat.reduceEqDiff, Int.reduceToNat, Int.reducePow, Int.reduceMul, Int.reduceAdd, Int.reduceSub, Int.reduceNeg, and_true, true_and, decide_true, decide_false, up_get hp1 hln, r3, rr]
        intro p2 hp2
        refine ⟨_, up_get hp2 up_same, by simp; omega, fun p3 hp3 => ?_⟩
        refine ⟨_, rfl, Pn_ofO (n := 2) (o := keyO z' (some nl')) (fun ns h => by cases h; simp; omega), ?_⟩
        simp only [rVar, rC, rBin, rUn, rTst, rChn, rTru, rAnd, rOr, rNot, rAndV, rOrV, rNotV, rIf, rNil, rCons, rTup, rLst, rFn, rCall, rCallK, rSl, rPrt, rNoP, rMt, gNm, q_gN, q_gC, q_gTp, gSb, rNext, rSeq, rDrop, rRet, rRetN, rBrk, rCnt, rIfS, rSet, rPar, rFor, iSeq, iLst, iRg1, iRg2, iZp, rLc, rYes, En.x, wipeD, start', List.getElem?_cons_zero, List.getElem?_cons_succ, List.set_cons_zero, List.set_cons_succ, List.map_cons, List.map_nil, List.length_cons, List.length_nil, List.cons_append, List.nil_append, List.replicate_succ, List.replicate_zero, id, q_asB, q_asI, q_add, q_addS, q_addT, q_addL, q_int, q_sub, q_mul, q_fdiv, q_mod, q_pow, q_neg, q_le, q_ge, q_gt, q_lt, q_ltT, q_isN, q_isB, q_isBi, q_isBs, q_isBn, q_isBt, q_isnt, n_non, n_bl, n_int, n_str, n_tup, n_ref, q_eq, q_eqS, q_eqB, q_ixT, q_ixK, q_ixL, q_ixS, q_slT, q_slL, q_slS, q_set, q_lenT, q_lenK, q_lenS, q_lenL, q_abs, q_intF, q_max, q_min, q_tupT, q_tupL, q_lstT, q_lstL, q_app, q_ext, q_joinL, q_stw, q_seq, q_lst, q_rng, q_rng2, q_zpT, q_zpL, q_truN, q_truB, q_truI, q_truT, q_truL, t_non, t_bl, t_int, t_str, t_tup, q_isiN, q_isiB, q_isiI, q_isiS, q_isiT, i_NoneType_int, i_NoneType_bool, i_NoneType_tuple, i_NoneType_list, i_NoneType_str, i_bool_int, i_bool_bool, i_bool_tuple, i_bool_list, i_bool_str, i_int_int, i_int_bool, i_int_tuple, i_int_list, i_int_str, i_str_int, i_str_bool, i_str_tuple, i_str_list, i_str_str, i_tuple_int, i_tuple_bool, i_tuple_tuple, i_tuple_list, i_tuple_str, i_list_int, i_list_bool, i_list_tuple, i_list_list, i_list_str, i_dict_int, i_dict_bool, i_dict_tuple, i_dict_list, i_dict_str, up_same, g_02, g_02', g_01, g_11, at_0, at_1, ix_0, ix_1, Option.some.injEq, HQ.lst.injEq, exists_eq_left', exists_eq_left, exists_and_left, exists_eq', exists_eq, decide_eq_true_eq, if_true, if_false, ite_true, ite_false, Bool.false_eq_true, reduceIte, reduceCtorEq, Bool.not_true, Bool.not_false, Nat.zero_add, Nat.reduceAdd, Nat.reduceSub, Nat.reduceLeDiff, Nat.reduceLT, Int.reduceLT, Int.reduceLE, Int.reduceEq, Int.reduceNe, Nat.reduceEqDiff, Int.reduceToNat, Int.reducePow, Int.reduceMul, Int.reduceAdd, Int.reduceSub, Int.reduceNeg, and_true, true_and, decide_true, decide_false]
        exact hN _ _ ⟨_, _, _, _, _, _, _, _, _, _, _, _, _, rfl⟩

end K05
namespace K05
open PySem PySem.Spec PyProof.Rows L2 Y

def topS (i : Nat) : Stmt := PySem.Challenge.pw_maypoint_k05_keys_put_longer_stretches_f.main.body.getD i (.Pass ⟨0, 0, 0, 0⟩)

abbrev s_law_box : Stmt := topS 7
theorem sc_law_box : FnScope ["script", "k", "cell", "great"] ["script", "k"] (defScope s_law_box) := ⟨rfl, rfl, rfl, by decide +kernel, rfl, by decide +kernel, by decide +kernel⟩

abbrev s_law_take : Stmt := topS 8
theorem sc_law_take : FnScope ["box", "many", "raw", "digit"] ["box", "many"] (defScope s_law_take) := ⟨rfl, rfl, rfl, by decide +kernel, rfl, by decide +kernel, by decide +kernel⟩

abbrev s_law_pick : Stmt := topS 9
theorem sc_law_pick : FnScope ["box", "some"] ["box", "some"] (defScope s_law_pick) := ⟨rfl, rfl, rfl, by decide +kernel, rfl, by decide +kernel, by decide +kernel⟩

abbrev s_law_entry : Stmt := topS 10
theorem sc_law_entry : FnScope ["box", "way"] ["box"] (defScope s_law_entry) := ⟨rfl, rfl, rfl, by decide +kernel, rfl, by decide +kernel, by decide +kernel⟩

abbrev s_law_figure : Stmt := topS 11
theorem sc_law_figure : FnScope ["box", "many", "cells", "turn"] ["box"] (defScope s_law_figure) := ⟨rfl, rfl, rfl, by decide +kernel, rfl, by decide +kernel, by decide +kernel⟩

abbrev s_law_beside : Stmt := topS 12
theorem sc_law_beside : FnScope ["box", "one", "way", "cells", "spot", "turn"] ["box", "one"] (defScope s_law_beside) := ⟨rfl, rfl, rfl, by decide +kernel, rfl, by decide +kernel, by decide +kernel⟩

abbrev s_law_row : Stmt := topS 16
theorem sc_law_row : FnScope ["box", "address", "many", "turn", "first", "found", "stretch"] ["box", "address", "many"] (defScope s_law_row) := ⟨rfl, rfl, rfl, by decide +kernel, rfl, by decide +kernel, by decide +kernel⟩

abbrev s_is_below : Stmt := topS 4
theorem sc_is_below : FnScope ["one", "two"] ["one", "two"] (defScope s_is_below) := ⟨rfl, rfl, rfl, by decide +kernel, rfl, by decide +kernel, by decide +kernel⟩

abbrev s_least_of : Stmt := topS 5
theorem sc_least_of : FnScope ["row", "least", "entry"] ["row"] (defScope s_least_of) := ⟨rfl, rfl, rfl, by decide +kernel, rfl, by decide +kernel, by decide +kernel⟩

abbrev s_law_same : Stmt := topS 15
theorem sc_law_same : FnScope ["told", "due", "is_kind", "one", "other"] ["told", "due"] (defScope s_law_same) := ⟨rfl, rfl, rfl, by decide +kernel, rfl, by decide +kernel, by decide +kernel⟩

abbrev s_key_of : Stmt := topS 2
theorem sc_key_of : FnScope ["stretch", "number"] ["stretch", "number"] (defScope s_key_of) := ⟨rfl, rfl, rfl, by decide +kernel, rfl, by decide +kernel, by decide +kernel⟩

abbrev s_law_less : Stmt := topS 13
theorem sc_law_less : FnScope ["one", "two", "spot"] ["one", "two"] (defScope s_law_less) := ⟨rfl, rfl, rfl, by decide +kernel, rfl, by decide +kernel, by decide +kernel⟩

abbrev s_law_ahead : Stmt := topS 17
theorem sc_law_ahead : FnScope ["one", "two"] ["one", "two"] (defScope s_law_ahead) := ⟨rfl, rfl, rfl, by decide +kernel, rfl, by decide +kernel, by decide +kernel⟩

abbrev s_law : Stmt := topS 18
theorem sc_law : FnScope ["script", "k", "box", "address", "line", "found", "first", "spot", "got", "stretch", "one", "due", "other", "turn"] ["script"] (defScope s_law) := ⟨rfl, rfl, rfl, by decide +kernel, rfl, by decide +kernel, by decide +kernel⟩

structure Df (K : PySem.W.Frag) (mg : Str → Option Value) (x : Str) (st : Stmt) (f : Addr) (fd : FuncData) (ps : List Str) : Prop where
  fn : Fun K x x st f fd
  g : mg x = some (.ref f)
  b : Binds K fd ps []

theorem df_mk {K : PySem.W.Frag} {h : Heap} {mg : Str → Option Value} {x : Str} {st : Stmt} {f : Addr} {oc : Value} {od an : Option Addr} {osl : Array (Option Value)} {kV doc pm cdv ct : Value} {ps : List Str} (X : K.In h) (G : h.Ns mainGlobals mg) (a : PySem.W.nsIn K mainGlobals x = some (some (.ref f)))
  (l : K.lookup f = some ⟨oc, od, .func (PySem.W.fnOf x x (defArgs st) (defBody st) (defScope st) .none kV doc pm an cdv ct), osl⟩) (c : PySem.W.codeIn K cdv x = true) (k : PySem.W.keepIn K (.ref f) = true)
  (hb : ∀ (kV doc pm : Value) (an : Option Addr) (cdv ct : Value) (us : List Value), us.length = ps.length → bindArgs (PySem.W.fnOf x x (defArgs st) (defBody st) (defScope st) .none kV doc pm an cdv ct) ⟨us, []⟩ = pure (ps.zip us)) :
  Df K mg x st f (PySem.W.fnOf x x (defArgs st) (defBody st) (defScope st) .none kV doc pm an cdv ct) ps :=
  ⟨fun_mk l c k, PySem.W.mg_of X G a, (fun_mk l c k).binds hb⟩

structure Tx (K : PySem.W.Frag) (mg : Str → Option Value) where
  f_law_box : Addr
  fd_law_box : FuncData
  d_law_box : Df K mg "_law_box" s_law_box f_law_box fd_law_box ["script", "k"]
  f_law_take : Addr
  fd_law_take : FuncData
  d_law_take : Df K mg "_law_take" s_law_take f_law_take fd_law_take ["box", "many"]
  f_law_pick : Addr
  fd_law_pick : FuncData
  d_law_pick : Df K mg "_law_pick" s_law_pick f_law_pick fd_law_pick ["box", "some"]
  f_law_entry : Addr
  fd_law_entry : FuncData
  d_law_entry : Df K mg "_law_entry" s_law_entry f_law_entry fd_law_entry ["box"]
  f_law_figure : Addr
  fd_law_figure : FuncData
  d_law_figure : Df K mg "_law_figure" s_law_figure f_law_figure fd_law_figure ["box"]
  f_law_beside : Addr
  fd_law_beside : FuncData
  d_law_beside : Df K mg "_law_beside" s_law_beside f_law_beside fd_law_beside ["box", "one"]
  f_law_row : Addr
  fd_law_row : FuncData
  d_law_row : Df K mg "_law_row" s_law_row f_law_row fd_law_row ["box", "address", "many"]
  f_is_below : Addr
  fd_is_below : FuncData
  d_is_below : Df K mg "is_below" s_is_below f_is_below fd_is_below ["one", "two"]
  f_least_of : Addr
  fd_least_of : FuncData
  d_least_of : Df K mg "least_of" s_least_of f_least_of fd_least_of ["row"]
  f_law_same : Addr
  fd_law_same : FuncData
  d_law_same : Df K mg "_law_same" s_law_same f_law_same fd_law_same ["told", "due"]
  f_key_of : Addr
  fd_key_of : FuncData
  d_key_of : Df K mg "key_of" s_key_of f_key_of fd_key_of ["stretch", "number"]
  f_law_less : Addr
  fd_law_less : FuncData
  d_law_less : Df K mg "_law_less" s_law_less f_law_less fd_law_less ["one", "two"]
  f_law_ahead : Addr
  fd_law_ahead : FuncData
  d_law_ahead : Df K mg "_law_ahead" s_law_ahead f_law_ahead fd_law_ahead ["one", "two"]
  f_law : Addr
  fd_law : FuncData
  d_law : Df K mg "law" s_law f_law fd_law ["script"]
  m_abs : mg "abs" = none
  m_bool : mg "bool" = none
  m_int : mg "int" = none
  m_isinstance : mg "isinstance" = none
  m_len : mg "len" = none
  m_list : mg "list" = none
  m_max : mg "max" = none
  m_min : mg "min" = none
  m_range : mg "range" = none
  m_str : mg "str" = none
  m_tuple : mg "tuple" = none
  m_zip : mg "zip" = none
  c_SIGNS : ∃ t, mg "SIGNS" = some (.int 6 t)
  kb_key_of_0_number_stretch : KBn' K fd_key_of ["stretch", "number"] ["number", "stretch"] 0 2 [1, 0]

section
variable {P : Program} {w : World} {K : PySem.W.Frag} {mg : Str → Option Value} {base : Heap}

theorem ok_law_box (T : Tx K mg) : FnOk P w K mg base CX0 1 T.f_law_box T.fd_law_box ["script", "k"] (dn K sp_law_box) :=
  fn_ok T.d_law_box.fn sc_law_box ln_law_box (fun cdv A outer s H E hr => 
 (eb_cons (es_set 2 sc_law_box.nd (ev_bin op_addU lf_add (ev_bin op_mul lf_mul ev_int (ev_var 1)) ev_int))
 (eb_cons (es_if (et_cmp (op_ltU hr.units0) lf_lt (ev_var 1) (ev_cB cr_len lc_len T.m_len (ea_cons (ev_var 0) ea_nil)))
 (eb_one (es_set 2 sc_law_box.nd (ev_cB call_abs lc_abs T.m_abs (ea_cons (ev_cT call_int1 lc_int T.m_int (ea_cons (ev_ix (ev_var 0) (ev_var 1)) ea_nil)) ea_nil))))
 (eb_one (es_if (et_cmp op_gt lf_gt (ev_cB cr_len lc_len T.m_len (ea_cons (ev_var 0) ea_nil)) ev_int)
 (eb_one (es_set 2 sc_law_box.nd (ev_bin op_addU lf_add (ev_var 2) (ev_bin op_mul lf_mul (ev_bin op_mod lf_mod (ev_cT call_int1 lc_int T.m_int (ea_cons (ev_cB call_abs lc_abs T.m_abs (ea_cons (ev_cT call_int1 lc_int T.m_int (ea_cons (ev_ix (ev_var 0) (ev_bin op_mod lf_mod (ev_cT call_int1 lc_int T.m_int (ea_cons (ev_var 1) ea_nil)) (ev_cB cr_len lc_len T.m_len (ea_cons (ev_var 0) ea_nil)))) ea_nil)) ea_nil)) ea_nil)) ev_int) ev_int))))
 eb_nil)))
 (eb_cons (es_set 3 sc_law_box.nd (ev_if (et_cmp op_ge lf_ge (ev_var 2) (ev_bin op_pow lf_pow ev_int ev_int)) (ev_var 2) ev_int))
 (eb_one (es_ret (ev_lst (ea_cons (ev_var 3) (ea_cons (ev_bin op_addU lf_add (ev_bin op_mod lf_mod (ev_cT call_int1 lc_int T.m_int (ea_cons (ev_bin op_addU lf_add (ev_bin op_mul lf_mul (ev_bin op_mod lf_mod (ev_cT call_int1 lc_int T.m_int (ea_cons (ev_var 2) ea_nil)) ev_int) ev_int) (ev_bin op_mul lf_mul ev_int (ev_var 1))) ea_nil)) ev_int) ev_int) ea_nil))))))))) pu_law_box nx_law_box

theorem ok_law_take (T : Tx K mg) : FnOk P w K mg base CX0 1 T.f_law_take T.fd_law_take ["box", "many"] (dn K sp_law_take) :=
  fn_ok T.d_law_take.fn sc_law_take ln_law_take (fun cdv A outer s H E hr => 
 (eb_cons (es_if (et_cmp op_gt lf_gt (ev_ix (ev_var 0) ev_int) ev_int)
 (eb_cons (es_set 3 sc_law_take.nd (ev_bin op_mod lf_mod (ev_cT call_int1 lc_int T.m_int (ea_cons (ev_ix (ev_var 0) ev_int) ea_nil)) (ev_var 1)))
 (eb_cons (es_asg (ev_bin op_fdivW lf_fdiv (ev_ix (ev_var 0) ev_int) (ev_var 1)) (eg_sb (ev_var 0) ev_int))
 (eb_one (es_ret (ev_var 3)))))
 eb_nil)
 (eb_cons (es_set 2 sc_law_take.nd (ev_bin op_mod lf_mod (ev_cT call_int1 lc_int T.m_int (ea_cons (ev_bin op_addU lf_add (ev_bin op_mul lf_mul (ev_ix (ev_var 0) ev_int) ev_int) ev_int) ea_nil)) ev_int))
 (eb_cons (es_asg (ev_bin op_addU lf_add (ev_bin op_mod lf_mod (ev_cT call_int1 lc_int T.m_int (ea_cons (ev_bin op_addU lf_add (ev_bin op_mul lf_mul (ev_var 2) ev_int) ev_int) ea_nil)) ev_int) ev_int) (eg_sb (ev_var 0) ev_int))
 (eb_one (es_ret (ev_bin op_mod lf_mod (ev_cT call_int1 lc_int T.m_int (ea_cons (ev_bin op_fdivW lf_fdiv (ev_bin op_addU lf_add (ev_bin op_mul lf_mul (ev_var 2) ev_int) (ev_ix (ev_var 0) ev_int)) ev_int) ea_nil)) (ev_var 1)))))))) pu_law_take nx_law_take

theorem ok_law_pick (T : Tx K mg) : FnOk P w K mg base CX0 2 T.f_law_pick T.fd_law_pick ["box", "some"] (dn K sp_law_pick) :=
  fn_ok T.d_law_pick.fn sc_law_pick ln_law_pick (fun cdv A outer s H E hr => 
 (eb_one (es_ret (ev_ix (ev_var 1) (ev_call (ok_law_take T) (hr.mono (by decide)) T.d_law_take.g T.d_law_take.fn.kp T.d_law_take.b (ea_cons (ev_var 0) (ea_cons (ev_cB cr_len lc_len T.m_len (ea_cons (ev_var 1) ea_nil)) ea_nil))))))) pu_law_pick nx_law_pick

theorem ok_law_entry (T : Tx K mg) : FnOk P w K mg base CX0 3 T.f_law_entry T.fd_law_entry ["box"] (dn K sp_law_entry) :=
  fn_ok T.d_law_entry.fn sc_law_entry ln_law_entry (fun cdv A outer s H E hr => 
 (eb_cons (es_set 1 sc_law_entry.nd (ev_call (ok_law_take T) (hr.mono (by decide)) T.d_law_take.g T.d_law_take.fn.kp T.d_law_take.b (ea_cons (ev_var 0) (ea_cons ev_int ea_nil))))
 (eb_cons (es_if (et_cmp (op_ltU hr.units0) lf_lt (ev_var 1) ev_int)
 (eb_one (es_ret (ev_bin op_sub lf_sub (ev_call (ok_law_take T) (hr.mono (by decide)) T.d_law_take.g T.d_law_take.fn.kp T.d_law_take.b (ea_cons (ev_var 0) (ea_cons ev_int ea_nil))) ev_int)))
 eb_nil)
 (eb_cons (es_if (et_cmp (op_ltU hr.units0) lf_lt (ev_var 1) ev_int)
 (eb_one (es_ret (ev_bin op_sub lf_sub (ev_call (ok_law_take T) (hr.mono (by decide)) T.d_law_take.g T.d_law_take.fn.kp T.d_law_take.b (ea_cons (ev_var 0) (ea_cons (ev_bin op_addU lf_add (ev_bin op_mul lf_mul ev_int (ev_bin op_pow lf_pow ev_int ev_int)) ev_int) ea_nil))) (ev_bin op_pow lf_pow ev_int ev_int))))
 eb_nil)
 (eb_one (es_ret (ev_call (ok_law_pick T) (hr.mono (by decide)) T.d_law_pick.g T.d_law_pick.fn.kp T.d_law_pick.b (ea_cons (ev_var 0) (ea_cons (ev_lst (ea_cons (ev_bin op_pow lf_pow ev_int ev_int) (ea_cons (ev_bin op_sub lf_sub ev_int (ev_bin op_pow lf_pow ev_int ev_int)) (ea_cons (ev_bin op_sub lf_sub (ev_bin op_pow lf_pow ev_int ev_int) ev_int) (ea_cons (ev_bin op_sub lf_sub ev_int ev_int) (ea_cons ev_int (ea_cons ev_int ea_nil))))))) ea_nil))))))))) pu_law_entry nx_law_entry

theorem ok_law_figure (T : Tx K mg) : FnOk P w K mg base CX0 4 T.f_law_figure T.fd_law_figure ["box"] (dn K sp_law_figure) :=
  fn_ok T.d_law_figure.fn sc_law_figure ln_law_figure (fun cdv A outer s H E hr => 
 (eb_cons (es_set 1 sc_law_figure.nd (ev_call (ok_law_pick T) (hr.mono (by decide)) T.d_law_pick.g T.d_law_pick.fn.kp T.d_law_pick.b (ea_cons (ev_var 0) (ea_cons (ev_lst (ea_cons ev_int (ea_cons ev_int (ea_cons ev_int (ea_cons ev_int (ea_cons ev_int (ea_cons ev_int (ea_cons ev_int (ea_cons ev_int (ea_cons ev_int (ea_cons ev_int ea_nil))))))))))) ea_nil))))
 (eb_cons (es_setLc 2 3 rfl sc_law_figure.nd (ei_rg1 T.m_range (ea_cons (ev_var 1) ea_nil)) (blkOk_by (N := ["box", "many", "cells", "turn"]) (sc := defScope s_law_figure) (by decide +kernel)) (fun _ _ _ _ _ => pg_name (i := 3) sc_law_figure.nd rfl (Or.inl rfl)) (fun _ _ _ _ _ => ep_nil) (fun _ _ _ _ _ => (ev_call (ok_law_entry T) (hr.mono (by decide)) T.d_law_entry.g T.d_law_entry.fn.kp T.d_law_entry.b (ea_cons (ev_var 0) ea_nil))) (sw_true rfl rfl rfl (by decide +kernel)))
 (eb_cons (es_asg (ev_cB call_abs lc_abs T.m_abs (ea_cons (ev_ix (ev_var 2) ev_int) ea_nil)) (eg_sb (ev_var 2) ev_int))
 (eb_one (es_ret (ev_cT call_tuple_of lc_tup T.m_tuple (ea_cons (ev_bin op_addU lf_add (ev_var 2) (ev_lst (ea_cons (ev_call (ok_law_pick T) (hr.mono (by decide)) T.d_law_pick.g T.d_law_pick.fn.kp T.d_law_pick.b (ea_cons (ev_var 0) (ea_cons (ev_lst (ea_cons ev_int (ea_cons ev_int (ea_cons (ev_call (ok_law_take T) (hr.mono (by decide)) T.d_law_take.g T.d_law_take.fn.kp T.d_law_take.b (ea_cons (ev_var 0) (ea_cons ev_int ea_nil))) (ea_cons (ev_call (ok_law_take T) (hr.mono (by decide)) T.d_law_take.g T.d_law_take.fn.kp T.d_law_take.b (ea_cons (ev_var 0) (ea_cons ev_int ea_nil))) ea_nil))))) ea_nil))) ea_nil))) ea_nil)))))))) pu_law_figure nx_law_figure

theorem ok_law_beside (T : Tx K mg) : FnOk P w K mg base CX0 5 T.f_law_beside T.fd_law_beside ["box", "one"] (dn K sp_law_beside) :=
  fn_ok T.d_law_beside.fn sc_law_beside ln_law_beside (fun cdv A outer s H E hr => 
 (eb_cons (es_set 2 sc_law_beside.nd (ev_call (ok_law_take T) (hr.mono (by decide)) T.d_law_take.g T.d_law_take.fn.kp T.d_law_take.b (ea_cons (ev_var 0) (ea_cons ev_int ea_nil))))
 (eb_cons (es_set 3 sc_law_beside.nd (ev_cT call_list_of lc_list T.m_list (ea_cons (ev_var 1) ea_nil)))
 (eb_cons (es_if (et_cmp (op_eqU hr.units) lf_eq (ev_var 2) ev_int)
 (eb_one (es_ret (ev_cT call_tuple_of lc_tup T.m_tuple (ea_cons (ev_var 3) ea_nil))))
 eb_nil)
 (eb_cons (es_if (et_cmp (op_eqU hr.units) lf_eq (ev_var 2) ev_int)
 (eb_one (es_ret (ev_cT call_tuple_of lc_tup T.m_tuple (ea_cons (ev_bin op_addU lf_add (ev_bin op_addU lf_add (ev_sl (ev_var 3) eo_none (eo_some ev_int)) (ev_lc 5 rfl sc_law_beside.nd (ei_rg1 T.m_range (ea_cons (ev_call (ok_law_take T) (hr.mono (by decide)) T.d_law_take.g T.d_law_take.fn.kp T.d_law_take.b (ea_cons (ev_var 0) (ea_cons ev_int ea_nil))) ea_nil)) (blkOk_by (N := ["box", "one", "way", "cells", "spot", "turn"]) (sc := defScope s_law_beside) (by decide +kernel)) (fun _ _ _ _ _ => pg_name (i := 5) sc_law_beside.nd rfl (Or.inl rfl)) (fun _ _ _ _ _ => ep_nil) (fun _ _ _ _ _ => (ev_call (ok_law_entry T) (hr.mono (by decide)) T.d_law_entry.g T.d_law_entry.fn.kp T.d_law_entry.b (ea_cons (ev_var 0) ea_nil))))) (ev_lst (ea_cons (ev_call (ok_law_take T) (hr.mono (by decide)) T.d_law_take.g T.d_law_take.fn.kp T.d_law_take.b (ea_cons (ev_var 0) (ea_cons ev_int ea_nil))) ea_nil))) ea_nil))))
 eb_nil)
 (eb_cons (es_if (et_cmp (op_eqU hr.units) lf_eq (ev_var 2) ev_int)
 (eb_cons (es_set 4 sc_law_beside.nd (ev_call (ok_law_take T) (hr.mono (by decide)) T.d_law_take.g T.d_law_take.fn.kp T.d_law_take.b (ea_cons (ev_var 0) (ea_cons (ev_bin op_sub lf_sub (ev_cB cr_len lc_len T.m_len (ea_cons (ev_var 3) ea_nil)) ev_int) ea_nil))))
 (eb_cons (es_asg (ev_cB (call_max2 rfl) lc_max T.m_max (ea_cons (ev_if (et_cmp (op_eqU hr.units) lf_eq (ev_var 4) ev_int) ev_int (ev_bin op_sub lf_sub ev_int (ev_bin op_pow lf_pow ev_int ev_int))) (ea_cons (ev_bin op_addU lf_add (ev_ix (ev_var 3) (ev_var 4)) (ev_call (ok_law_pick T) (hr.mono (by decide)) T.d_law_pick.g T.d_law_pick.fn.kp T.d_law_pick.b (ea_cons (ev_var 0) (ea_cons (ev_lst (ea_cons (ev_bin op_sub lf_sub ev_int ev_int) (ea_cons ev_int ea_nil))) ea_nil)))) ea_nil))) (eg_sb (ev_var 3) (ev_var 4)))
 (eb_one (es_ret (ev_cT call_tuple_of lc_tup T.m_tuple (ea_cons (ev_var 3) ea_nil))))))
 eb_nil)
 (eb_cons (es_if (et_cmp (op_eqU hr.units) lf_eq (ev_var 2) ev_int)
 (eb_one (es_ret (ev_cT call_tuple_of lc_tup T.m_tuple (ea_cons (ev_bin op_addU lf_add (ev_sl (ev_var 3) eo_none (eo_some (ev_bin op_sub lf_sub (ev_cB cr_len lc_len T.m_len (ea_cons (ev_var 3) ea_nil)) ev_int))) (ev_lst (ea_cons (ev_call (ok_law_take T) (hr.mono (by decide)) T.d_law_take.g T.d_law_take.fn.kp T.d_law_take.b (ea_cons (ev_var 0) (ea_cons ev_int ea_nil))) ea_nil))) ea_nil))))
 eb_nil)
 (eb_cons (es_if (et_cmp (op_eqU hr.units) lf_eq (ev_var 2) ev_int)
 (eb_one (es_ret (ev_cT call_tuple_of lc_tup T.m_tuple (ea_cons (ev_bin op_addU lf_add (ev_sl (ev_var 3) eo_none (eo_some (ev_bin op_addU lf_add ev_int (ev_call (ok_law_take T) (hr.mono (by decide)) T.d_law_take.g T.d_law_take.fn.kp T.d_law_take.b (ea_cons (ev_var 0) (ea_cons (ev_bin op_sub lf_sub (ev_cB cr_len lc_len T.m_len (ea_cons (ev_var 3) ea_nil)) ev_int) ea_nil)))))) (ev_lst (ea_cons (ev_call (ok_law_take T) (hr.mono (by decide)) T.d_law_take.g T.d_law_take.fn.kp T.d_law_take.b (ea_cons (ev_var 0) (ea_cons ev_int ea_nil))) ea_nil))) ea_nil))))
 eb_nil)
 (eb_one (es_ret (ev_call (ok_law_figure T) (hr.mono (by decide)) T.d_law_figure.g T.d_law_figure.fn.kp T.d_law_figure.b (ea_cons (ev_var 0) ea_nil)))))))))))) pu_law_beside nx_law_beside

theorem ok_law_row (T : Tx K mg) : FnOk P w K mg base CX0 6 T.f_law_row T.fd_law_row ["box", "address", "many"] (dn K sp_law_row) :=
  fn_ok T.d_law_row.fn sc_law_row ln_law_row (fun cdv A outer s H E hr => 
 (eb_cons (es_par (i := 4) (j := 5) rfl sc_law_row.nd (by decide) (ea_cons (ev_call (ok_law_figure T) (hr.mono (by decide)) T.d_law_figure.g T.d_law_figure.fn.kp T.d_law_figure.b (ea_cons (ev_var 0) ea_nil)) (ea_cons (ev_lst ea_nil) ea_nil)))
 (eb_cons (es_for PassesOwn.never rfl (ei_rg1 T.m_range (ea_cons (ev_var 2) ea_nil)) (eg_nm 3 sc_law_row.nd)
 (eb_cons (es_set 6 sc_law_row.nd (ev_sl (ev_var 1) eo_none (eo_some (ev_call (ok_law_pick T) (hr.mono (by decide)) T.d_law_pick.g T.d_law_pick.fn.kp T.d_law_pick.b (ea_cons (ev_var 0) (ea_cons (ev_lst (ea_cons ev_int (ea_cons ev_int (ea_cons ev_int (ea_cons ev_int (ea_cons ev_int (ea_cons ev_int (ea_cons ev_int (ea_cons ev_int (ea_cons ev_int (ea_cons ev_int ea_nil))))))))))) ea_nil))))))
 (eb_one (es_expr (ev_mt PySem.F.plainAttrs_list PySem.F.slot_list_append PySem.F.type_list_append (.inl rfl) mt_append lm_app (ev_var 5) (ea_cons (ev_tup (ea_cons (ev_var 6) (ea_cons (ev_call (ok_law_pick T) (hr.mono (by decide)) T.d_law_pick.g T.d_law_pick.fn.kp T.d_law_pick.b (ea_cons (ev_var 0) (ea_cons (ev_lst (ea_cons ev_non (ea_cons (ev_var 4) (ea_cons (ev_call (ok_law_beside T) (hr.mono (by decide)) T.d_law_beside.g T.d_law_beside.fn.kp T.d_law_beside.b (ea_cons (ev_var 0) (ea_cons (ev_var 4) ea_nil))) (ea_cons (ev_call (ok_law_beside T) (hr.mono (by decide)) T.d_law_beside.g T.d_law_beside.fn.kp T.d_law_beside.b (ea_cons (ev_var 0) (ea_cons (ev_var 4) ea_nil))) ea_nil))))) ea_nil))) ea_nil))) ea_nil))))))
 (eb_one (es_ret (ev_var 5)))))) pu_law_row nx_law_row

theorem ok_is_below (T : Tx K mg) : FnOk P w K mg base CX0 1 T.f_is_below T.fd_is_below ["one", "two"] (dn K sp_is_below) :=
  fn_ok T.d_is_below.fn sc_is_below ln_is_below (fun cdv A outer s H E hr => 
 (eb_one (es_ret (ev_and (ev_cmp op_isntU lf_isnt (ev_var 0) ev_non) (ev_one (ev_or (ev_cmp op_isU lf_is (ev_var 1) ev_non) (ev_one (ev_cmp (op_ltU hr.units0) lf_lt (ev_var 0) (ev_var 1))))))))) pu_is_below nx_is_below

theorem ok_least_of (T : Tx K mg) : FnOk P w K mg base CX0 2 T.f_least_of T.fd_least_of ["row"] (dn K sp_least_of) :=
  fn_ok T.d_least_of.fn sc_least_of ln_least_of (fun cdv A outer s H E hr => 
 (eb_cons (es_set 1 sc_least_of.nd ev_non)
 (eb_cons (es_for PassesOwn.never rfl (ei_seq (ev_var 0)) (eg_nm 2 sc_least_of.nd)
 (eb_one (es_if (et_val (ev_call (ok_is_below T) (hr.mono (by decide)) T.d_is_below.g T.d_is_below.fn.kp T.d_is_below.b (ea_cons (ev_var 2) (ea_cons (ev_var 1) ea_nil))))
 (eb_one (es_set 1 sc_least_of.nd (ev_var 2)))
 eb_nil)))
 (eb_one (es_ret (ev_var 1)))))) pu_least_of nx_least_of

theorem ok_law_same (T : Tx K mg) : ∀ n, FnOk P w K mg base CX0 (0 + n) T.f_law_same T.fd_law_same ["told", "due"] (dn K (sp_law_same n))
  | 0 => ⟨fun vs H Q E h => by obtain ⟨ds, S, Q', E', _, _, h, _⟩ := h; exact (zr_law_same _ _ _ _ h).elim, fun _ _ _ _ _ _ _ _ _ _ _ _ _ h => by obtain ⟨ds, S, Q', E', _, _, h, _⟩ := h; exact (zr_law_same _ _ _ _ h).elim⟩
  | n + 1 => by
    have ih := ok_law_same T n
    exact fn_ok T.d_law_same.fn sc_law_same (fun ds S Q E h => ln_law_same _ ds S Q E h) (fun cdv A outer s H E hr => 
 (eb_cons (es_if (et_ew (ew_or (et_val (ev_cB call_isi lc_isi T.m_isinstance (ea_cons (ev_var 1) (ea_cons (ev_ty T.m_tuple) ea_nil)))) (ew_or1 (et_val (ev_cB call_isi lc_isi T.m_isinstance (ea_cons (ev_var 1) (ea_cons (ev_ty T.m_list) ea_nil)))))))
 (eb_cons (es_set 2 sc_law_same.nd (ev_if (et_val (ev_cB call_isi lc_isi T.m_isinstance (ea_cons (ev_var 1) (ea_cons (ev_ty T.m_tuple) ea_nil)))) (ev_cB call_isi lc_isi T.m_isinstance (ea_cons (ev_var 0) (ea_cons (ev_ty T.m_tuple) ea_nil))) (ev_cB call_isi lc_isi T.m_isinstance (ea_cons (ev_var 0) (ea_cons (ev_ty T.m_list) ea_nil)))))
 (eb_cons (es_if (et_ew (ew_or (et_not (et_tru (ev_var 2))) (ew_or1 (et_cmp (op_neU hr.units) lf_ne (ev_cB cr_len lc_len T.m_len (ea_cons (ev_var 0) ea_nil)) (ev_cB cr_len lc_len T.m_len (ea_cons (ev_var 1) ea_nil))))))
 (eb_one (es_ret ev_bl))
 eb_nil)
 (eb_cons (es_for PassesOwn.never rfl (ei_zip T.m_zip (ea_cons (ev_var 0) (ea_cons (ev_var 1) ea_nil))) (eg_tp rfl (egs_cons (eg_nm 3 sc_law_same.nd) (egs_cons (eg_nm 4 sc_law_same.nd) egs_nil)))
 (eb_one (es_if (et_not (et_val (ev_call ih (hr.mono (Nat.le_refl _)) T.d_law_same.g T.d_law_same.fn.kp T.d_law_same.b (ea_cons (ev_var 3) (ea_cons (ev_var 4) ea_nil)))))
 (eb_one (es_ret ev_bl))
 eb_nil)))
 (eb_one (es_ret ev_bl)))))
 eb_nil)
 (eb_cons (es_if (et_cmp op_isU lf_is (ev_var 1) ev_non)
 (eb_one (es_ret (ev_cmp op_isU lf_is (ev_var 0) ev_non)))
 eb_nil)
 (eb_cons (es_if (et_ew (ew_or (et_cmp op_isU lf_is (ev_var 1) ev_bl) (ew_or1 (et_cmp op_isU lf_is (ev_var 1) ev_bl))))
 (eb_one (es_ret (ev_and (ev_cB call_isi lc_isi T.m_isinstance (ea_cons (ev_var 0) (ea_cons (ev_ty T.m_bool) ea_nil))) (ev_one (ev_cmp (op_eqU hr.units) lf_eq (ev_var 0) (ev_var 1))))))
 eb_nil)
 (eb_cons (es_if (et_val (ev_cB call_isi lc_isi T.m_isinstance (ea_cons (ev_var 1) (ea_cons (ev_ty T.m_int) ea_nil))))
 (eb_one (es_ret (ev_and (ev_cB call_isi lc_isi T.m_isinstance (ea_cons (ev_var 0) (ea_cons (ev_ty T.m_int) ea_nil))) (ev_and (ev_not (ev_cB call_isi lc_isi T.m_isinstance (ea_cons (ev_var 0) (ea_cons (ev_ty T.m_bool) ea_nil)))) (ev_one (ev_cmp (op_eqU hr.units) lf_eq (ev_var 0) (ev_var 1)))))))
 eb_nil)
 (eb_one (es_ret (ev_and (ev_cB call_isi lc_isi T.m_isinstance (ea_cons (ev_var 0) (ea_cons (ev_ty T.m_str) ea_nil))) (ev_and (ev_cB call_isi lc_isi T.m_isinstance (ea_cons (ev_var 1) (ea_cons (ev_ty T.m_str) ea_nil))) (ev_one (ev_cmp (op_eqU hr.units) lf_eq (ev_var 0) (ev_var 1)))))))))))) (pu_law_same n) (nx_law_same (n + 1))

theorem ok_key_of (T : Tx K mg) : FnOk P w K mg base CX0 1 T.f_key_of T.fd_key_of ["stretch", "number"] (dn K sp_key_of) :=
  fn_ok T.d_key_of.fn sc_key_of ln_key_of (fun cdv A outer s H E hr => 
 (eb_cons (es_if (et_cmp op_isU lf_is (ev_var 1) ev_non)
 (eb_one (es_ret ev_non))
 eb_nil)
 (eb_one (es_ret (ev_bin op_addU lf_add (ev_tup (ea_cons (ev_bin op_sub lf_sub (ev_glob (v := .int 6) (d := .int 6) (by rfl) T.c_SIGNS.choose_spec ⟨_, rfl⟩ (fun _ => .int _)) (ev_cB cr_len lc_len T.m_len (ea_cons (ev_var 0) ea_nil))) ea_nil)) (ev_var 1)))))) pu_key_of nx_key_of

theorem ok_law_less (T : Tx K mg) : FnOk P w K mg base CX0 1 T.f_law_less T.fd_law_less ["one", "two"] (dn K sp_law_less) :=
  fn_ok T.d_law_less.fn sc_law_less ln_law_less (fun cdv A outer s H E hr => 
 (eb_cons (es_for PassesOwn.never rfl (ei_rg1 T.m_range (ea_cons (ev_cB (call_min2 rfl) lc_min T.m_min (ea_cons (ev_cB cr_len lc_len T.m_len (ea_cons (ev_var 0) ea_nil)) (ea_cons (ev_cB cr_len lc_len T.m_len (ea_cons (ev_var 1) ea_nil)) ea_nil))) ea_nil)) (eg_nm 2 sc_law_less.nd)
 (eb_one (es_if (et_cmp (op_neU hr.units) lf_ne (ev_ix (ev_var 0) (ev_var 2)) (ev_ix (ev_var 1) (ev_var 2)))
 (eb_one (es_ret (ev_cmp (op_ltU hr.units0) lf_lt (ev_ix (ev_var 0) (ev_var 2)) (ev_ix (ev_var 1) (ev_var 2)))))
 eb_nil)))
 (eb_one (es_ret (ev_cmp (op_ltU hr.units0) lf_lt (ev_cB cr_len lc_len T.m_len (ea_cons (ev_var 0) ea_nil)) (ev_cB cr_len lc_len T.m_len (ea_cons (ev_var 1) ea_nil))))))) pu_law_less nx_law_less

theorem ok_law_ahead (T : Tx K mg) : FnOk P w K mg base CX0 2 T.f_law_ahead T.fd_law_ahead ["one", "two"] (dn K sp_law_ahead) :=
  fn_ok T.d_law_ahead.fn sc_law_ahead ln_law_ahead (fun cdv A outer s H E hr => 
 (eb_cons (es_if (et_ew (ew_or (et_cmp op_isU lf_is (ev_ix (ev_var 0) ev_int) ev_non) (ew_or1 (et_cmp op_isU lf_is (ev_ix (ev_var 1) ev_int) ev_non))))
 (eb_one (es_ret (ev_cmp op_isntU lf_isnt (ev_ix (ev_var 0) ev_int) ev_non)))
 eb_nil)
 (eb_cons (es_if (et_cmp (op_neU hr.units) lf_ne (ev_cB cr_len lc_len T.m_len (ea_cons (ev_ix (ev_var 0) ev_int) ea_nil)) (ev_cB cr_len lc_len T.m_len (ea_cons (ev_ix (ev_var 1) ev_int) ea_nil)))
 (eb_one (es_ret (ev_cmp op_gt lf_gt (ev_cB cr_len lc_len T.m_len (ea_cons (ev_ix (ev_var 0) ev_int) ea_nil)) (ev_cB cr_len lc_len T.m_len (ea_cons (ev_ix (ev_var 1) ev_int) ea_nil)))))
 eb_nil)
 (eb_one (es_ret (ev_call (ok_law_less T) (hr.mono (by decide)) T.d_law_less.g T.d_law_less.fn.kp T.d_law_less.b (ea_cons (ev_ix (ev_var 0) ev_int) (ea_cons (ev_ix (ev_var 1) ev_int) ea_nil)))))))) pu_law_ahead nx_law_ahead

theorem ok_law (T : Tx K mg) : FnOk P w K mg base CX0 7 T.f_law T.fd_law ["script"] (dn K sp_law) :=
  fn_ok T.d_law.fn sc_law ln_law (fun cdv A outer s H E hr => 
 (eb_cons (es_for PassesOwn.never rfl (ei_rg1 T.m_range (ea_cons (ev_cB (call_max2 rfl) lc_max T.m_max (ea_cons ev_int (ea_cons (ev_cB (call_min2 rfl) lc_min T.m_min (ea_cons (ev_cB cr_len lc_len T.m_len (ea_cons (ev_var 0) ea_nil)) (ea_cons ev_int ea_nil))) ea_nil))) ea_nil)) (eg_nm 1 sc_law.nd)
 (eb_cons (es_set 2 sc_law.nd (ev_call (ok_law_box T) (hr.mono (by decide)) T.d_law_box.g T.d_law_box.fn.kp T.d_law_box.b (ea_cons (ev_var 0) (ea_cons (ev_var 1) ea_nil))))
 (eb_cons (es_set 3 sc_law.nd (ev_mt PySem.F.plainAttrs_str PySem.F.slot_str_join PySem.F.type_str_join (.inr (.inl rfl)) mt_join lm_join ev_str (ea_cons (ev_lc 13 rfl sc_law.nd (ei_rg1 T.m_range (ea_cons ev_int ea_nil)) (blkOk_by (N := ["script", "k", "box", "address", "line", "found", "first", "spot", "got", "stretch", "one", "due", "other", "turn"]) (sc := defScope s_law) (by decide +kernel)) (fun _ _ _ _ _ => pg_name (i := 13) sc_law.nd rfl (Or.inl rfl)) (fun _ _ _ _ _ => ep_nil) (fun _ _ _ _ _ => (ev_call (ok_law_pick T) (hr.mono (by decide)) T.d_law_pick.g T.d_law_pick.fn.kp T.d_law_pick.b (ea_cons (ev_var 2) (ea_cons (ev_lst (ea_cons ev_str (ea_cons ev_str ea_nil))) ea_nil))))) ea_nil)))
 (eb_cons (es_set 4 sc_law.nd (ev_call (ok_law_row T) (hr.mono (by decide)) T.d_law_row.g T.d_law_row.fn.kp T.d_law_row.b (ea_cons (ev_var 2) (ea_cons (ev_var 3) (ea_cons (ev_bin op_addU lf_add ev_int (ev_call (ok_law_take T) (hr.mono (by decide)) T.d_law_take.g T.d_law_take.fn.kp T.d_law_take.b (ea_cons (ev_var 2) (ea_cons ev_int ea_nil)))) ea_nil)))))
 (eb_cons (es_set 5 sc_law.nd (ev_lst ea_nil))
 (eb_cons (es_for PassesOwn.never rfl (ei_lst (ev_var 4)) (eg_tp rfl (egs_cons (eg_nm 9 sc_law.nd) (egs_cons (eg_nm 10 sc_law.nd) egs_nil)))
 (eb_cons (es_set 11 sc_law.nd (ev_if (et_cmp op_isU lf_is (ev_var 10) ev_non) ev_non (ev_cT call_tuple_of lc_tup T.m_tuple (ea_cons (ev_bin op_addU lf_add (ev_lst (ea_cons (ev_bin op_sub lf_sub ev_int (ev_cB cr_len lc_len T.m_len (ea_cons (ev_var 9) ea_nil))) ea_nil)) (ev_cT call_list_of lc_list T.m_list (ea_cons (ev_var 10) ea_nil))) ea_nil))))
 (eb_cons (es_if (et_ew (ew_or (et_not (et_val (ev_call (ok_law_same T 4) (hr.mono (by decide)) T.d_law_same.g T.d_law_same.fn.kp T.d_law_same.b (ea_cons (ev_call (ok_key_of T) (hr.mono (by decide)) T.d_key_of.g T.d_key_of.fn.kp T.d_key_of.b (ea_cons (ev_var 9) (ea_cons (ev_var 10) ea_nil))) (ea_cons (ev_var 11) ea_nil))))) (ew_or1 (et_cmp op_isntU lf_isnt (ev_callK0 (ok_key_of T) (hr.mono (by decide)) T.d_key_of.g T.d_key_of.fn.kp T.kb_key_of_0_number_stretch (ek_cons ev_non (ek_cons (ev_var 9) ek_nil))) ev_non))))
 (eb_one (es_ret ev_bl))
 eb_nil)
 (eb_one (es_expr (ev_mt PySem.F.plainAttrs_list PySem.F.slot_list_append PySem.F.type_list_append (.inl rfl) mt_append lm_app (ev_var 5) (ea_cons (ev_var 11) ea_nil)))))))
 (eb_cons (es_set 6 sc_law.nd ev_non)
 (eb_cons (es_for PassesOwn.never rfl (ei_rg1 T.m_range (ea_cons (ev_cB cr_len lc_len T.m_len (ea_cons (ev_var 4) ea_nil)) ea_nil)) (eg_nm 7 sc_law.nd)
 (eb_cons (es_for PassesOwn.never rfl (ei_rg1 T.m_range (ea_cons (ev_cB cr_len lc_len T.m_len (ea_cons (ev_var 4) ea_nil)) ea_nil)) (eg_nm 12 sc_law.nd)
 (eb_one (es_if (et_not (et_val (ev_call (ok_law_same T 4) (hr.mono (by decide)) T.d_law_same.g T.d_law_same.fn.kp T.d_law_same.b (ea_cons (ev_call (ok_is_below T) (hr.mono (by decide)) T.d_is_below.g T.d_is_below.fn.kp T.d_is_below.b (ea_cons (ev_ix (ev_var 5) (ev_var 7)) (ea_cons (ev_ix (ev_var 5) (ev_var 12)) ea_nil))) (ea_cons (ev_call (ok_law_ahead T) (hr.mono (by decide)) T.d_law_ahead.g T.d_law_ahead.fn.kp T.d_law_ahead.b (ea_cons (ev_ix (ev_var 4) (ev_var 7)) (ea_cons (ev_ix (ev_var 4) (ev_var 12)) ea_nil))) ea_nil)))))
 (eb_one (es_ret ev_bl))
 eb_nil)))
 (eb_one (es_if (et_ew (ew_and (et_cmp op_isntU lf_isnt (ev_ix (ev_ix (ev_var 4) (ev_var 7)) ev_int) ev_non) (ew_and1 (et_ew (ew_or (et_cmp op_isU lf_is (ev_var 6) ev_non) (ew_or1 (et_val (ev_call (ok_law_ahead T) (hr.mono (by decide)) T.d_law_ahead.g T.d_law_ahead.fn.kp T.d_law_ahead.b (ea_cons (ev_ix (ev_var 4) (ev_var 7)) (ea_cons (ev_ix (ev_var 4) (ev_var 6)) ea_nil))))))))))
 (eb_one (es_set 6 sc_law.nd (ev_var 7)))
 eb_nil))))
 (eb_cons (es_set 8 sc_law.nd (ev_call (ok_least_of T) (hr.mono (by decide)) T.d_least_of.g T.d_least_of.fn.kp T.d_least_of.b (ea_cons (ev_cT call_tuple_of lc_tup T.m_tuple (ea_cons (ev_var 5) ea_nil)) ea_nil)))
 (eb_one (es_if (et_cmp op_isU lf_is (ev_var 6) ev_non)
 (eb_one (es_if (et_cmp op_isntU lf_isnt (ev_var 8) ev_non)
 (eb_one (es_ret ev_bl))
 eb_nil))
 (eb_one (es_if (et_not (et_val (ev_call (ok_law_same T 4) (hr.mono (by decide)) T.d_law_same.g T.d_law_same.fn.kp T.d_law_same.b (ea_cons (ev_var 8) (ea_cons (ev_cT call_tuple_of lc_tup T.m_tuple (ea_cons (ev_bin op_addU lf_add (ev_lst (ea_cons (ev_bin op_sub lf_sub ev_int (ev_cB cr_len lc_len T.m_len (ea_cons (ev_ix (ev_ix (ev_var 4) (ev_var 6)) ev_int) ea_nil))) ea_nil)) (ev_cT call_list_of lc_list T.m_list (ea_cons (ev_ix (ev_ix (ev_var 4) (ev_var 6)) ev_int) ea_nil))) ea_nil)) ea_nil)))))
 (eb_one (es_ret ev_bl))
 eb_nil)))))))))))))
 (eb_one (es_ret ev_bl)))) pu_law nx_law

end


end K05

open PySem PySem.W PyProof.Rows
set_option maxHeartbeats 0 in
theorem PySem.Challenge.cw_maypoint_k05_keys_put_longer_stretches_f_holds : PySem.Challenge.rw_maypoint_k05_keys_put_longer_stretches_f.Holds := by
  w_on; o_law; k_head; (case hw => w_witness2)
  k_fill
  refine L2.walk_of (l := PySem.Challenge.rw_maypoint_k05_keys_put_longer_stretches_f) (n := 63) (k := 7) (x := "script") (CX := fun _ => L2.CX0) (sp := fun w => Y.dn _ K05.sp_law) rfl (by decide) rfl ⟨rfl, by decide, by decide⟩ (fun w h Y => PySem.W.kIn_of Y) ?F (fun _ _ a ns hl ho hS => Y.law_in K05.law_ok hl ho hS (fun _ => rfl)) (fun _ _ _ _ _ h => h)
  case F =>
    intro w mg fa h KX G hmg
    refine' (fun d_law_box => ?_) (K05.df_mk (x := "_law_box") (st := K05.s_law_box) (ps := ["script", "k"]) KX G ?a ?l ?c ?k (fun _ _ _ _ _ _ us hl => match us, hl with | [_, _], _ => rfl))
    (case a => k_is); (case l => k_is); (case c => k_is); (case k => k_is)

    refine' (fun d_law_take => ?_) (K05.df_mk (x := "_law_take") (st := K05.s_law_take) (ps := ["box", "many"]) KX G ?a ?l ?c ?k (fun _ _ _ _ _ _ us hl => match us, hl with | [_, _], _ => rfl))
    (case a => k_is); (case l => k_is); (case c => k_is); (case k => k_is)

    refine' (fun d_law_pick => ?_) (K05.df_mk (x := "_law_pick") (st := K05.s_law_pick) (ps := ["box", "some"]) KX G ?a ?l ?c ?k (fun _ _ _ _ _ _ us hl => match us, hl with | [_, _], _ => rfl))
    (case a => k_is); (case l => k_is); (case c => k_is); (case k => k_is)

    refine' (fun d_law_entry => ?_) (K05.df_mk (x := "_law_entry") (st := K05.s_law_entry) (ps := ["box"]) KX G ?a ?l ?c ?k (fun _ _ _ _ _ _ us hl => match us, hl with | [_], _ => rfl))
    (case a => k_is); (case l => k_is); (case c => k_is); (case k => k_is)

    refine' (fun d_law_figure => ?_) (K05.df_mk (x := "_law_figure") (st := K05.s_law_figure) (ps := ["box"]) KX G ?a ?l ?c ?k (fun _ _ _ _ _ _ us hl => match us, hl with | [_], _ => rfl))
    (case a => k_is); (case l => k_is); (case c => k_is); (case k => k_is)

    refine' (fun d_law_beside => ?_) (K05.df_mk (x := "_law_beside") (st := K05.s_law_beside) (ps := ["box", "one"]) KX G ?a ?l ?c ?k (fun _ _ _ _ _ _ us hl => match us, hl with | [_, _], _ => rfl))
    (case a => k_is); (case l => k_is); (case c => k_is); (case k => k_is)

    refine' (fun d_law_row => ?_) (K05.df_mk (x := "_law_row") (st := K05.s_law_row) (ps := ["box", "address", "many"]) KX G ?a ?l ?c ?k (fun _ _ _ _ _ _ us hl => match us, hl with | [_, _, _], _ => rfl))
    (case a => k_is); (case l => k_is); (case c => k_is); (case k => k_is)

    refine' (fun d_is_below => ?_) (K05.df_mk (x := "is_below") (st := K05.s_is_below) (ps := ["one", "two"]) KX G ?a ?l ?c ?k (fun _ _ _ _ _ _ us hl => match us, hl with | [_, _], _ => rfl))
    (case a => k_is); (case l => k_is); (case c => k_is); (case k => k_is)

    refine' (fun d_least_of => ?_) (K05.df_mk (x := "least_of") (st := K05.s_least_of) (ps := ["row"]) KX G ?a ?l ?c ?k (fun _ _ _ _ _ _ us hl => match us, hl with | [_], _ => rfl))
    (case a => k_is); (case l => k_is); (case c => k_is); (case k => k_is)

    refine' (fun d_law_same => ?_) (K05.df_mk (x := "_law_same") (st := K05.s_law_same) (ps := ["told", "due"]) KX G ?a ?l ?c ?k (fun _ _ _ _ _ _ us hl => match us, hl with | [_, _], _ => rfl))
    (case a => k_is); (case l => k_is); (case c => k_is); (case k => k_is)

    refine' (fun d_key_of => ?_) (K05.df_mk (x := "key_of") (st := K05.s_key_of) (ps := ["stretch", "number"]) KX G ?a ?l ?c ?k (fun _ _ _ _ _ _ us hl => match us, hl with | [_, _], _ => rfl))
    (case a => k_is); (case l => k_is); (case c => k_is); (case k => k_is)

    refine' (fun d_law_less => ?_) (K05.df_mk (x := "_law_less") (st := K05.s_law_less) (ps := ["one", "two"]) KX G ?a ?l ?c ?k (fun _ _ _ _ _ _ us hl => match us, hl with | [_, _], _ => rfl))
    (case a => k_is); (case l => k_is); (case c => k_is); (case k => k_is)

    refine' (fun d_law_ahead => ?_) (K05.df_mk (x := "_law_ahead") (st := K05.s_law_ahead) (ps := ["one", "two"]) KX G ?a ?l ?c ?k (fun _ _ _ _ _ _ us hl => match us, hl with | [_, _], _ => rfl))
    (case a => k_is); (case l => k_is); (case c => k_is); (case k => k_is)

    refine' (fun d_law => ?_) (K05.df_mk (x := "law") (st := K05.s_law) (ps := ["script"]) KX G ?a ?l ?c ?k (fun _ _ _ _ _ _ us hl => match us, hl with | [_], _ => rfl))
    (case a => k_is); (case l => k_is); (case c => k_is); (case k => k_is)

    refine' (fun m_abs => ?_) (PySem.W.mg_none_of KX G (n := "abs") ?z)
    (case z => k_is)

    refine' (fun m_bool => ?_) (PySem.W.mg_none_of KX G (n := "bool") ?z)
    (case z => k_is)

    refine' (fun m_int => ?_) (PySem.W.mg_none_of KX G (n := "int") ?z)
    (case z => k_is)

    refine' (fun m_isinstance => ?_) (PySem.W.mg_none_of KX G (n := "isinstance") ?z)
    (case z => k_is)

    refine' (fun m_len => ?_) (PySem.W.mg_none_of KX G (n := "len") ?z)
    (case z => k_is)

    refine' (fun m_list => ?_) (PySem.W.mg_none_of KX G (n := "list") ?z)
    (case z => k_is)

    refine' (fun m_max => ?_) (PySem.W.mg_none_of KX G (n := "max") ?z)
    (case z => k_is)

    refine' (fun m_min => ?_) (PySem.W.mg_none_of KX G (n := "min") ?z)
    (case z => k_is)

    refine' (fun m_range => ?_) (PySem.W.mg_none_of KX G (n := "range") ?z)
    (case z => k_is)

    refine' (fun m_str => ?_) (PySem.W.mg_none_of KX G (n := "str") ?z)
    (case z => k_is)

    refine' (fun m_tuple => ?_) (PySem.W.mg_none_of KX G (n := "tuple") ?z)
    (case z => k_is)

    refine' (fun m_zip => ?_) (PySem.W.mg_none_of KX G (n := "zip") ?z)
    (case z => k_is)

    refine' (fun c_SIGNS => ?_) (PySem.W.mg_of KX G (n := "SIGNS") ?z)
    (case z => k_is)

    have kb_key_of_0_number_stretch := Y.kb_mk (ps := ["stretch", "number"]) (ks := ["number", "stretch"]) (n := 0) (m := 2) (π := [1, 0]) d_key_of.fn (by simp) (fun _ _ _ _ _ _ us ws h1 h2 => match us, ws, h1, h2 with | [], [_, _], _, _ => by first | rfl | with_unfolding_all rfl)

    have e := hmg.symm.trans d_law.g
    cases e
    refine ⟨_, ?b, fun base _ _ => K05.ok_law (⟨_, _, d_law_box, _, _, d_law_take, _, _, d_law_pick, _, _, d_law_entry, _, _, d_law_figure, _, _, d_law_beside, _, _, d_law_row, _, _, d_is_below, _, _, d_least_of, _, _, d_law_same, _, _, d_key_of, _, _, d_law_less, _, _, d_law_ahead, _, _, d_law, m_abs, m_bool, m_int, m_isinstance, m_len, m_list, m_max, m_min, m_range, m_str, m_tuple, m_zip, ⟨_, c_SIGNS⟩, kb_key_of_0_number_stretch⟩ : K05.Tx _ mg)⟩
    exact fun s v => .of_eq rfl
