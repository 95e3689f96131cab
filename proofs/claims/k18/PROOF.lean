import PyProof.Rows.All
import Wide.All
import OpenK.AllK
import Wide.FinOn
import Lean
import PyProof.EqAt
import PyProof.EqKinds
import PyProof.TupleCall
import PyProof.DictItems
import PyProof.Rows.SortShell
import PyProof.ListRange
import PyProof.ZipIter
import KE.KDictList
import PyProof.Rows.SetFrom
import PyProof.Rows.SortStr
import PyProof.CollectStr
import PyProof.Rows.SortWalk
import PySem.Challenge.RW_codemill_k18_whole_told_step_by_step
local macro_rules | `(tactic| trivial) => `(tactic| (dsimp only; decide +kernel))
local macro_rules | `(tactic| trivial) => `(tactic| decide +kernel)
abbrev ke:=@Bool.false_ne_true
abbrev kf:=@Option.bind_some
abbrev kh:=@Nat.le_refl
abbrev ki:=@List.getElem?_eq_some_iff
abbrev kj:=@decide_eq_false
abbrev kl:=@decide_eq_true
abbrev km:=@List.length_map
abbrev ko:=@List.length_append
abbrev kq:=@PySem.W.mg_of
abbrev ku:=@List.mem_singleton
abbrev ky:=@List.not_mem_nil
abbrev kz:=@Nat.le_trans
abbrev kC:=PySem.W.Frag
abbrev kD:=@if_neg
abbrev kE:=@if_pos
abbrev kF:=@Option.some.inj
abbrev kG:=@of_decide_eq_true
abbrev kH:=@List.mem_cons
abbrev kI:=@List.size_toArray
abbrev kJ:=@List.length_singleton
abbrev kK:=@List.mem_of_getElem?
abbrev kL:=@List.dropLast_concat
abbrev kM:=@List.getLast?_concat
abbrev kN:=@List.map_append
abbrev kO:=@List.getElem?_eq_getElem
abbrev kP:=@Nat.lt_of_lt_of_le
abbrev kQ:=@List.mem_append_right
abbrev kR:=@List.mem_append_left
abbrev kS:=@List.length_cons
abbrev kU:=@List.mem_cons_self
abbrev kW:=@List.mem_cons_of_mem
abbrev kX:=@List.mem_append
abbrev kY:=@List.map_cons
abbrev kZ:=@List.append_nil
abbrev ya:=@List.append_assoc
abbrev yb:=@Nat.le_of_eq
abbrev yc:=@Int.eq_ofNat_of_zero_le
abbrev yd:=@Int.toNat_natCast
abbrev ye:=@Nat.lt_succ_self
abbrev yg:=@Bool.and_eq_true
abbrev yh:=@decide_eq_true_eq
abbrev yi:=@List.mem_map
abbrev yj:=@List.getElem?_append_left
abbrev yk:=@List.getElem?_append_right
set_option genInjectivity true
set_option genSizeOf false
set_option Elab.async false
set_option linter.all false
set_option maxRecDepth 100000
theorem aR (h:True=True:=by rfl) (k:(0:Nat)=0:=by decide):True:=trivial
namespace L2
open PySem PySem.Spec PyProof.Rows
abbrev Key:=Sum Int Str
noncomputable def z1f:Key→Value→Bool
 | .inl k,v=>Value.isInt k v
 | .inr x,v=>Value.isStrOf x v
noncomputable def keyH (w:World):Key→Int
 | .inl k=>hashInt k
 | .inr x=>hashStr w x
theorem qk:∀{k:Key} {v:Value},z1f k v=true→(∃i t,k=Sum.inl i∧v=Value.int i t)∨(∃x t,k=Sum.inr x∧v=Value.str x t)
 | .inl i,v,h=>by
  obtain ⟨t,e⟩:=Value.isInt_shape (k:=i) (v:=v) h
  exact .inl ⟨i,t,rfl,e⟩
 | .inr x,v,h=>by
  obtain ⟨t,e⟩:=Value.isStrOf_shape (x:=x) (v:=v) h
  exact .inr ⟨x,t,rfl,e⟩
theorem z3x (i:Int) (t:Tok):z1f (.inl i) (.int i t)=true:=by simp [z1f,Value.isInt]
theorem z3w (x:Str) (t:Tok):z1f (.inr x) (.str x t)=true:=by simp [z1f,Value.isStrOf]
theorem z8G (a b:Int):decide ((Sum.inl a:Key)=Sum.inl b)=(a == b):=by
 by_cases e:a=b
 ·subst e;simp
 ·have h:¬(Sum.inl a:Key)=Sum.inl b:=fun q=>e (Sum.inl.inj q)
  rw [kj h]
  exact (beq_eq_false_iff_ne.mpr e).symm
theorem z8D (a b:Str):decide ((Sum.inr a:Key)=Sum.inr b)=decide (a=b):=by
 by_cases e:a=b
 ·subst e;simp
 ·have h:¬(Sum.inr a:Key)=Sum.inr b:=fun q=>e (Sum.inr.inj q)
  rw [kj h,kj e]
theorem z8F (a:Int) (b:Str):decide ((Sum.inl a:Key)=Sum.inr b)=false:=kj (fun q=>nomatch q)
theorem z8E (a:Str) (b:Int):decide ((Sum.inr a:Key)=Sum.inl b)=false:=kj (fun q=>nomatch q)
noncomputable def zM (prog:Program) (w:World):PySem.KeyKind prog w Key where
 is:=z1f
 hash:=keyH w
 inj:=fun v a b ha hb=>by
  rcases qk ha with ⟨i,t,rfl,rfl⟩ | ⟨x,t,rfl,rfl⟩
  ·rcases qk hb with ⟨j,u,rfl,e⟩ | ⟨y,u,rfl,e⟩
   ·injection e with e1 _;rw [e1]
   ·exact nomatch e
  ·rcases qk hb with ⟨j,u,rfl,e⟩ | ⟨y,u,rfl,e⟩
   ·exact nomatch e
   ·injection e with e1 _;rw [e1]
 byValue:=fun k v h=>by
  rcases qk h with ⟨i,t,rfl,rfl⟩ | ⟨x,t,rfl,rfl⟩ <;> rfl
 pyHash:=fun hv h=>by
  rcases qk hv with ⟨i,t,rfl,rfl⟩ | ⟨x,t,rfl,rfl⟩
  ·exact wpAny_pyHash_int h
  ·exact wpAny_pyHash_str h
 eqBool:=fun hu hv h=>by
  rcases qk hu with ⟨i,t,rfl,rfl⟩ | ⟨x,t,rfl,rfl⟩
  ·rcases qk hv with ⟨j,u,rfl,rfl⟩ | ⟨y,u,rfl,rfl⟩
   ·rw [z8G] at h;exact wpAny_eqBool_int h
   ·rw [z8F] at h;exact SeqAt.EqAt.int_str i t y u _ _ _ _ h
  ·rcases qk hv with ⟨j,u,rfl,rfl⟩ | ⟨y,u,rfl,rfl⟩
   ·rw [z8E] at h;exact SeqAt.EqAt.str_int x t j u _ _ _ _ h
   ·rw [z8D] at h;exact wpAny_eqBool_str h
 «strs»:=fun k x t v h=>by
  rcases qk h with ⟨i,u,rfl,e⟩ | ⟨y,u,rfl,e⟩
  ·exact nomatch e
  ·injection e with e1 _
   subst e1
   cases v <;> rfl
theorem z1b (prog:Program) (w:World) (i:Int) (t:Tok):(zM prog w).is (.inl i) (.int i t)=true:=z3x i t
theorem z1a (prog:Program) (w:World) (x:Str) (t:Tok):(zM prog w).is (.inr x) (.str x t)=true:=z3w x t
end L2
namespace L2
open PySem PySem.Spec PyProof.Rows
inductive V where
 | non | bl (b:Bool) | int (i:Int) | str (x:Str) | byt (b:Array UInt8) | flt (b:UInt64) | ref (a:Addr) | ty (n:String)
 deriving DecidableEq
def RelV:V→Value→Prop
 | .non,u=>u=Value.none
 | .bl b,u=>u=Value.bool b
 | .int i,u=>∃t,u=Value.int i t
 | .str x,u=>∃t,u=Value.str x t
 | .byt b,u=>∃t,u=Value.bytes b t
 | .flt b,u=>∃t,u=Value.float b t
 | .ref a,u=>u=Value.ref a
 | .ty n,u=>u=Value.type n
abbrev Vals:List V→List Value→Prop:=Paired RelV
theorem Vals.length {xs:List V} {us:List Value} (r:Vals xs us):xs.length=us.length:=Paired.length r
theorem Vals.get:∀{xs:List V} {us:List Value} {i:Nat} {x:V},Vals xs us→xs[i]?=some x→∃u,us[i]?=some u∧RelV x u
 | _,_,_,_,.nil,e=>by simp at e
 | _,_,0,_,.cons r _,e=>by simp at e;subst e;exact ⟨_,rfl,r⟩
 | _,_,i+1,x,.cons _ t,e=>by
  obtain ⟨u,h1,h2⟩:=Vals.get (i:=i) (x:=x) t (by simpa using e)
  exact ⟨u,by simpa using h1,h2⟩
theorem Vals.set {x:V} {u:Value} (r:RelV x u):∀{xs:List V} {us:List Value} (i:Nat),Vals xs us→Vals (xs.set i x) (us.set i u)
 | _,_,_,.nil=>.nil
 | _,_,0,.cons _ t=>.cons r t
 | _,_,i+1,.cons q t=>.cons q (Vals.set r i t)
theorem Vals.append:∀{xs ys:List V} {us ws:List Value},Vals xs us→Vals ys ws→Vals (xs++ys) (us++ws)
 | _,_,_,_,.nil,s=>s
 | _,_,_,_,.cons r t,s=>.cons r (Vals.append t s)
theorem Vals.take:∀{xs:List V} {us:List Value} (n:Nat),Vals xs us→Vals (xs.take n) (us.take n)
 | _,_,0,_=>.nil
 | _,_,_+1,.nil=>.nil
 | _,_,n+1,.cons r t=>.cons r (Vals.take n t)
theorem Vals.drop:∀{xs:List V} {us:List Value} (n:Nat),Vals xs us→Vals (xs.drop n) (us.drop n)
 | _,_,0,r=>r
 | _,_,_+1,.nil=>.nil
 | _,_,n+1,.cons _ t=>Vals.drop n t
def RelO:Option V→Option Value→Prop
 | some v,some u=>RelV v u
 | none,none=>True
 | _,_=>False
def KV {κ:Type}:List (κ × V)→List (κ × Value)→Prop:=Paired fun (p:κ × V) (q:κ × Value)=>p.1=q.1∧RelV p.2 q.2
noncomputable def kV:Key→V
 | .inl i=>.int i
 | .inr x=>.str x
inductive HO where
 | lst (xs:List V)
 | tup (xs:List V)
 | dK (kvs:List (Key × V)) | dT (kvs:List (List Key × V))
 | set (S:Int→Bool) (n:Nat)
 | ins (C dx:Addr) (fs:List (Str × V))
 | own (x:Addr)
 | xd (fs:List (Str × V))
 | met (f x:Addr)
 | rng (lo hi:Int)
 | frz (o:Obj) (u:HO)
 | tbl (ps:Array Value)
 | ext (φ:Heap→Prop)
abbrev Hp:=Addr→Option HO
noncomputable def upd (H:Hp) (a:Addr) (o:HO):Hp:=fun b=>if b=a then some o else H b
theorem zb {H:Hp} {a:Addr} {o:HO}:upd H a o a=some o:=by unfold upd;rw [kE rfl]
theorem zf {H:Hp} {a b:Addr} {o:HO} (h:b≠a):upd H a o b=H b:=by unfold upd;rw [kD h]
theorem z2I {H:Hp} {a:Addr} {o u:HO}:upd (upd H a o) a u=upd H a u:=by
 funext b;unfold upd;split <;> rfl
theorem zA {H:Hp} {a b:Addr} {o u:HO} (h:H a=some o) (h':H b=some u) (d:o≠u):a≠b:=by
 intro e;subst e;rw [h] at h';exact d (kF h')
theorem ze {H:Hp} {a b:Addr} {o:HO} (h:H a=some o) (h':H b=none):a≠b:=by
 intro e;subst e;rw [h] at h';cases h'
section
variable (P:Program) (w:World)
def qz (H:Hp) (h:Heap) (a:Addr):HO→Prop
 | .lst xs=>xs.length≤sizeLine∧∃(its:List Value) (n:Nat),Vals xs its∧h.get? a=some { cls:=.type "list",data:=.seq its.toArray n }
 | .tup xs=>xs.length≤sizeLine∧∃its:List Value,Vals xs its∧IsTup h a its.toArray
 | .dK kvs=>kvs.length≤sizeLine∧(a == sysModules)=false∧∃vs,KV kvs vs∧h.DictOf (zM P w) a vs
 | .dT kvs=>kvs.length≤sizeLine∧(a == sysModules)=false∧∃xs:List (List Key × Addr × Value),
   Paired (fun (p:List Key × V) (q:List Key × Addr × Value)=>p.1=q.1∧H q.2.1=some (.tup (p.1.map kV))∧RelV p.2 q.2.2) kvs xs∧
   ∃o es ep,h.get? a=some o∧o.ExactDict∧o.data=.dict es ep∧es.toList=xs.map (entryOfKey (tupleKind (zM P w)))∧(xs.map (·.1)).Nodup
 | .set S n=>h.SetOf (intKind P w) a S n
 | .ins C dx fs=>H dx=some (.own a)∧fs.length≤1000∧dx≠a∧h.get? a=some (PySem.W.instObj C dx)∧
   ∃mA,h.Ns1 dx mA∧(∀f,RelO (fs.lookup f) (mA f))∧PySem.Within mA (fs.map (·.1))
 | .own _=>∃o,h.get? a=some o
 | .xd fs=>∃mA,h.Ns1 a mA∧∀f,RelO (fs.lookup f) (mA f)
 | .rng lo hi=>∃t u v,h.get? a=some { cls:=.type "range",data:=.fields #[.int lo t,.int hi u,.int 1 v] }
 | .frz o u=>h.get? a=some o∧qz H h a u
 | .tbl ps=>h.get? a=some { cls:=.none,data:=.fields ps }
 | .met f x=>h.get? a=some (PySem.W.methodObj (.ref f) (.ref x))
 | .ext φ=>φ h∧(∃o,h.get? a=some o)∧∀h1 h2:Heap,φ h1→(∀o,h1.get? a=some o→h2.get? a=some o)→φ h2
def HOk (H:Hp) (h:Heap):Prop:=∀a o,H a=some o→qz P w H h a o
end
section
variable {P:Program} {w:World} {H H':Hp} {h h':Heap} {a:Addr} {o:HO}
theorem qz.lt (x:qz P w H h a o):a < h.objs.size:=by
 cases o with
 | lst xs=>obtain ⟨_,_,_,_,e⟩:=x;exact Heap.lt_size e
 | tup xs=>obtain ⟨_,_,_,p⟩:=x;exact p.lt
 | dK kvs=>obtain ⟨_,_,_,_,o,_,_,e,_⟩:=x;exact Heap.lt_size e
 | dT kvs=>obtain ⟨_,_,_,_,o,_,_,e,_⟩:=x;exact Heap.lt_size e
 | set S n=>obtain ⟨o,_,_,_,e,_⟩:=x;exact Heap.lt_size e
 | ins C dx fs=>obtain ⟨_,_,_,e,_⟩:=x;exact Heap.lt_size e
 | own y=>obtain ⟨_,e⟩:=x;exact Heap.lt_size e
 | xd fs=>obtain ⟨_,⟨_,_,_,e,_⟩,_⟩:=x;exact Heap.lt_size e
 | rng lo hi=>obtain ⟨_,_,_,e⟩:=x;exact Heap.lt_size e
 | frz ob u=>obtain ⟨e,_⟩:=x;exact Heap.lt_size e
 | tbl ps=>exact Heap.lt_size (show h.get? a=some _ from x)
 | met f y=>exact Heap.lt_size (show h.get? a=some _ from x)
 | ext φ=>obtain ⟨_,⟨_,e⟩,_⟩:=x;exact Heap.lt_size e
theorem Paired.mapP {α β:Type} {F G:α→β→Prop}:∀{l₁:List α} {l₂:List β},Paired F l₁ l₂→(∀a b,F a b→G a b)→Paired G l₁ l₂
 | _,_,.nil,_=>.nil
 | _,_,.cons r t,f=>.cons (f _ _ r) (Paired.mapP t f)
theorem qz.stay (x:qz P w H h a o) (k:∀b u,(b=a∨H b=some (.own a))→h.get? b=some u→h'.get? b=some u)
  (ho:∀b,H b=some (.own a)→H' b=some (.own a)) (ht:∀b xs,H b=some (.tup xs)→H' b=some (.tup xs)):qz P w H' h' a o:=by
 induction o with
 | lst xs=>obtain ⟨z,its,n,r,e⟩:=x;exact ⟨z,its,n,r,k _ _ (.inl rfl) e⟩
 | tup xs=>obtain ⟨z,its,r,ob,e,c⟩:=x;exact ⟨z,its,r,ob,k _ _ (.inl rfl) e,c⟩
 | dK kvs=>obtain ⟨z,y,vs,r,ob,es,ep,e,c⟩:=x;exact ⟨z,y,vs,r,ob,es,ep,k _ _ (.inl rfl) e,c⟩
 | dT kvs=>
  obtain ⟨z,y,xs,r,ob,es,ep,e,c⟩:=x
  exact ⟨z,y,xs,Paired.mapP r fun p q z=>⟨z.1,ht _ _ z.2.1,z.2.2⟩,ob,es,ep,k _ _ (.inl rfl) e,c⟩
 | set S n=>obtain ⟨ob,es,ep,t,e,c⟩:=x;exact ⟨ob,es,ep,t,k _ _ (.inl rfl) e,c⟩
 | ins C dx fs=>
  obtain ⟨d,z,ne,e,mA,⟨od,es,ep,e2,c⟩,r⟩:=x
  exact ⟨ho _ d,z,ne,k _ _ (.inl rfl) e,mA,⟨od,es,ep,k _ _ (.inr d) e2,c⟩,r⟩
 | own y=>obtain ⟨ob,e⟩:=x;exact ⟨ob,k _ _ (.inl rfl) e⟩
 | xd fs=>obtain ⟨mA,⟨od,es,ep,e,c⟩,r⟩:=x;exact ⟨mA,⟨od,es,ep,k _ _ (.inl rfl) e,c⟩,r⟩
 | rng lo hi=>obtain ⟨t,u,v,e⟩:=x;exact ⟨t,u,v,k _ _ (.inl rfl) e⟩
 | frz ob u ih=>obtain ⟨e,q⟩:=x;exact ⟨k _ _ (.inl rfl) e,ih q⟩
 | tbl ps=>
  have e:h.get? a=some { cls:=.none,data:=.fields ps }:=x
  show h'.get? a=some { cls:=.none,data:=.fields ps }
  exact k a _ (.inl rfl) e
 | met f y=>
  have e:h.get? a=some (PySem.W.methodObj (.ref f) (.ref y)):=x
  show h'.get? a=some (PySem.W.methodObj (.ref f) (.ref y))
  exact k a _ (.inl rfl) e
 | ext φ=>obtain ⟨p,⟨o,e⟩,st⟩:=x;exact ⟨st _ _ p fun o q=>k _ _ (.inl rfl) q,⟨o,k _ _ (.inl rfl) e⟩,st⟩
theorem HOk.lt (x:HOk P w H h) (e:H a=some o):a < h.objs.size:=(x a o e).lt
theorem HOk.fresh (x:HOk P w H h) (e:h.objs.size≤a):H a=none:=by
 cases q:H a with
 | none=>rfl
 | some u=>exact absurd (kP (x.lt q) e) (Nat.lt_irrefl _)
theorem HOk.kept (x:HOk P w H h) (k:∀b u,h.get? b=some u→h'.get? b=some u):HOk P w H h':=fun a o e=>
 (x a o e).stay (fun b u _ q=>k b u q) (fun _ q=>q) fun _ _ q=>q
theorem HOk.laid (x:HOk P w H h) (k:∀b u,h.get? b=some u→h'.get? b=some u) (hp:h.objs.size≤a) (new:qz P w (upd H a o) h' a o):HOk P w (upd H a o) h':=fun b u e=>by
 have hn:=x.fresh hp
 by_cases hb:b=a
 ·subst hb;rw [zb] at e;cases e;exact new
 ·rw [zf hb] at e
  exact (x b u e).stay (fun c v _ q=>k c v q) (fun c q=>by rw [zf (ze q hn)];exact q) fun c xs q=>by rw [zf (ze q hn)];exact q
end
def Rd (H:Hp) (a:Addr) (u:HO):Prop:=H a=some u∨∃o,H a=some (.frz o u)
theorem Rd.of {H:Hp} {a:Addr} {u:HO} (h:H a=some u):Rd H a u:=.inl h
theorem Rd.ok {P:Program} {w:World} {H:Hp} {h:Heap} {a:Addr} {u:HO} (r:Rd H a u) (x:HOk P w H h):qz P w H h a u:=by
 rcases r with r | ⟨o,r⟩
 ·exact x a u r
 ·obtain ⟨_,q⟩:=x a _ r
  exact q
def Mut:Option HO→Prop
 | some (.lst _)=>True
 | some (.dK _)=>True
 | some (.dT _)=>True
 | some (.set _ _)=>True
 | some (.ins _ _ _)=>True
 | some (.ext _)=>True
 | _=>False
section
variable {P:Program} {w:World} {H:Hp} {h h':Heap} {x e:Addr} {o':HO}
theorem HOk.write (ok:HOk P w H h) (mu:Mut (H x)) (he:e=x∨H e=some (.own x)) (k:∀b u,b≠e→h.get? b=some u→h'.get? b=some u) (heo:∃u,h'.get? e=some u)
  (new:qz P w (upd H x o') h' x o'):HOk P w (upd H x o') h':=fun b u q=>by
 have nown:∀c y,H c=some (.own y)→c≠x:=fun c y r z=>by subst z;rw [r] at mu;exact mu
 have ntup:∀c xs,H c=some (.tup xs)→c≠x:=fun c xs r z=>by subst z;rw [r] at mu;exact mu
 by_cases hb:b=x
 ·subst hb;rw [zb] at q;cases q;exact new
 ·rw [zf hb] at q
  by_cases hbe:b=e
  ·have q':H b=some (.own x):=by
    rcases he with z | z
    ·exact absurd (hbe.trans z) hb
    ·rw [hbe];exact z
   rw [q] at q';cases q'
   obtain ⟨v,hv⟩:=heo
   exact ⟨v,by rw [hbe];exact hv⟩
  ·refine (ok b u q).stay (fun c v hc r=>k c v ?_ r) (fun c r=>by rw [zf (nown c b r)];exact r) fun c xs r=>by rw [zf (ntup c xs r)];exact r
   rcases hc with rfl | hc
   ·exact hbe
   ·rintro rfl
    rcases he with z | z
    ·exact nown c b hc z
    ·rw [hc] at z;cases z;exact hb rfl
end
structure Un (fs ex:List Addr) (H H':Hp) (h h':Heap):Prop where
 keep:∀b o,h.get? b=some o→H b=none→b∉fs→b∉ex→h'.get? b=some o
 slot:∀b o,h.get? b=some o→H b=none→b∈fs→b∉ex→∃sl,h'.get? b=some { o with slots:=sl }
 free:∀b o,h.get? b=some o→H b=none→b∉ex→H' b=none
 there:∀b o,h.get? b=some o→b∉ex→∃o',h'.get? b=some o'
 tups:∀b xs,H b=some (.tup xs)→H' b=some (.tup xs)
 frzs:∀b o u,H b=some (.frz o u)→H' b=some (.frz o u)
 tbls:∀b ps,H b=some (.tbl ps)→∃more,H' b=some (.tbl (ps++more))
section
variable {fs fs' ex ex':List Addr} {H H1 H2:Hp} {h h1 h2 h':Heap} {a x e:Addr} {o:HO}
theorem Un.any (u:Un fs ex H H1 h h1) {b:Addr} {ob:Obj} (q:h.get? b=some ob) (n:H b=none) (hx:b∉ex):∃sl,h1.get? b=some { ob with slots:=sl }:=by
 by_cases hb:b∈fs
 ·exact u.slot b ob q n hb hx
 ·exact ⟨ob.slots,u.keep b ob q n hb hx⟩
theorem Un.kept (k:∀b u,h.get? b=some u→h'.get? b=some u):Un fs ex H H h h':=
 ⟨fun b ob q _ _ _=>k b ob q,fun b ob q _ _ _=>⟨ob.slots,k b ob q⟩,fun _ _ _ n _=>n,fun b ob q _=>⟨ob,k b ob q⟩,fun _ _ q=>q,fun _ _ _ q=>q,fun _ ps q=>⟨#[],by rw [q];simp⟩⟩
theorem Un.refl:Un fs ex H H h h:=Un.kept fun _ _ q=>q
theorem Un.laid (k:∀b u,h.get? b=some u→h'.get? b=some u) (hp:h.objs.size≤a) (hn:H a=none):Un fs ex H (upd H a o) h h' where
 keep:=fun b u q _ _ _=>k b u q
 slot:=fun b u q _ _ _=>⟨u.slots,k b u q⟩
 free:=fun b u q n _=>by rw [zf (Nat.ne_of_lt (kP (Heap.lt_size q) hp))];exact n
 there:=fun b u q _=>⟨u,k b u q⟩
 tups:=fun b xs q=>by rw [zf (ze q hn)];exact q
 frzs:=fun b u xs q=>by rw [zf (ze q hn)];exact q
 tbls:=fun b ps q=>⟨#[],by rw [zf (ze q hn),q];simp⟩
theorem Un.write (mu:Mut (H x)) (he:e=x∨H e=some (.own x)) (k:∀b u,b≠e→h.get? b=some u→h'.get? b=some u) (heo:∃u,h'.get? e=some u):Un fs ex H (upd H x o) h h':=by
 have hx:∀b,H b=none→b≠x:=fun b n z=>by subst z;rw [n] at mu;exact mu
 have hb:∀b,H b=none→b≠e:=fun b n z=>by
  subst z
  rcases he with r | r
  ·exact hx b n r
  ·rw [n] at r;cases r
 have hm:∀b u,H b=some u→¬Mut (some u)→b≠x:=fun b u q nm z=>by subst z;rw [q] at mu;exact nm mu
 refine ⟨fun b u q n _ _=>k b u (hb b n) q,fun b u q n _ _=>⟨u.slots,k b u (hb b n) q⟩,fun b u q n _=>by rw [zf (hx b n)];exact n,fun b u q _=>?_,
  fun b xs q=>by rw [zf (hm b _ q fun z=>z)];exact q,fun b u xs q=>by rw [zf (hm b _ q fun z=>z)];exact q,fun b ps q=>⟨#[],by rw [zf (hm b _ q fun z=>z),q];simp⟩⟩
 by_cases hbe:b=e
 ·subst hbe;exact heo
 ·exact ⟨u,k b u hbe q⟩
end
noncomputable def trk (h:Heap) (H:Hp):List Addr:=(List.range h.objs.size).filter fun a=>(H a).isSome
noncomputable def hidT (h:Heap) (H:Hp):Heap:=PySem.W.hideAll h (trk h H)
theorem z3B (h:Heap) (H:Hp):(hidT h H).objs.size=h.objs.size:=PySem.W.hideAll_size _ _
theorem z50 {h:Heap} {H:Hp} {b:Addr} {o:Obj} (e:h.get? b=some o) (n:H b=none):(hidT h H).get? b=some o:=
 PySem.W.hideAll_get _ e fun hm=>by
  have q:(H b).isSome=true:=(List.mem_filter.mp hm).2
  rw [n] at q;simp at q
theorem z6K {h:Heap} {H:Hp} {b:Addr} {o:Obj} (e:(hidT h H).get? b=some o):h.get? b=some o∧H b=none:=by
 have e':h.get? b=some o:=PySem.W.of_hideAll (trk h H) e
 refine ⟨e',?_⟩
 cases q:H b with
 | none=>rfl
 | some x=>
  have hm:b∈trk h H:=List.mem_filter.mpr ⟨List.mem_range.mpr (Heap.lt_size e'),by simp [q]⟩
  have z:(hidT h H).get? b=none:=PySem.W.hideAll_none (trk h H) hm
  rw [z] at e;cases e
end L2
namespace L2
open PySem PySem.Spec PyProof.Rows
structure Mod (K:kC) (mg:Str→Option Value) (base:Heap):Prop where
 kin:K.In base
 glob:base.Ns mainGlobals mg
 blt:∃mb,base.Ns builtinsNs mb∧∀x:Str,x≠"__name__"→mb x=bootBuiltins x
 nolimit:base.NoLimit
structure Cx where
 prog:Program
 w:World
 K:kC
 mg:Str→Option Value
 base:Heap
 A:Around
 N:List Str
 s₀:Shared
 H₀:Hp
 env:Env
 outer:List Env
 stack:List Env
 ex:List Addr
 fn:Str→Bool
 calm:Bool
 pn:List (Addr × Obj)
 xe:Value→Shared→Prop
noncomputable def frs (l:List Env):List Addr:=l.filterMap (·.frame)
noncomputable abbrev Cx.fs (X:Cx):List Addr:=frs X.outer
def Vis (sc:Scope) (x:Str):Prop:=sc.names.lookup x=some .local∨sc.names.lookup x=some .cell∨sc.names.lookup x=some .free
def Loc (sc:Scope) (x:Str):Prop:=sc.names.lookup x=some .local∨sc.names.lookup x=some .cell
def Look (env:Env) (h:Heap) (m:Str→Option Value) (x:Str) (u:Value):Prop:=
 (env.kindOf x=some .local∧m x=some u)∨((env.kindOf x=some .cell∨env.kindOf x=some .free)∧∃c,env.cells.lookup x=some c∧h.IsCell c (some u))
structure Cx.Ok (X:Cx):Prop where
 mod:Mod X.K X.mg X.base
 kind:X.env.scope.kind=.function
 glob:X.env.globals=mainGlobals
 blt:X.env.builtins=builtinsNs
 above:X.s₀.heap.objs.size≤X.env.locals
 inj:∀x y c,X.env.cells.lookup x=some c→X.env.cells.lookup y=some c→x=y
 has:∀x,(X.env.kindOf x=some .cell∨X.env.kindOf x=some .free)→∃c,X.env.cells.lookup x=some c
 cab:∀x c,X.fn x=true→X.env.cells.lookup x=some c→X.s₀.heap.objs.size≤c
 hd:X.calm=true→X.A.handled=none
 frames:X.A.frames=some X.stack
 stk:X.stack=X.outer∨(X.stack=X.env :: X.outer∧X.env.frame=some X.env.locals)
 exf:∀b∈X.ex,b≠X.env.locals∧∀x c,X.env.cells.lookup x=some c→c≠b
 bs:∀b o,X.base.get? b=some o→X.s₀.heap.get? b=some o∧X.H₀ b=none
 bsz:X.base.objs.size≤X.s₀.heap.objs.size
 noex:∀b o,X.base.get? b=some o→b∉X.ex
 exfs:∀b∈X.ex,b∉X.fs
 funs:X.s₀.heap.FunFrames X.base X.outer
 frf:∀b∈X.fs,X.H₀ b=none
structure Inv (X:Cx) (pins:List (Addr × Obj)) (σ:List (Option V)) (H:Hp) (s:Shared):Prop where
 ok:X.Ok
 os:s.os=X.s₀.os
 bare:AllBare s.gens
 base:Un X.fs X.ex X.H₀ H X.s₀.heap s.heap
 loc:∃m,s.heap.Ns X.env.locals m∧∀(i:Nat) (x:Str) (v:V),X.N[i]?=some x→σ[i]?=some (some v)→Vis X.env.scope x→∃u,RelV v u∧Look X.env s.heap m x u
 cell:∀x c,X.env.cells.lookup x=some c→∃v,s.heap.IsCell c v
 free:H X.env.locals=none
 freeC:∀x c,X.env.cells.lookup x=some c→H c=none
 pin:∀p∈X.pn++pins,s.heap.get? p.1=some p.2∧H p.1=none∧p.1≠X.env.locals∧p.1∉X.fs∧∀v,p.2.data≠.cell v
 hok:HOk X.prog X.w H s.heap
 len:σ.length=X.N.length
section
variable {X:Cx} {pins:List (Addr × Obj)} {σ:List (Option V)} {H H':Hp} {s:Shared} {h':Heap}
theorem Cx.Ok.nofr (ok:X.Ok) {b:Addr} {o:Obj} (e:X.base.get? b=some o):b∉X.fs:=fun hb=>by
 have:=(ok.funs.mem hb).1
 rw [e] at this;cases this
theorem Inv.bs (I:Inv X pins σ H s):∀b o,X.base.get? b=some o→s.heap.get? b=some o∧H b=none:=fun b o e=>
 ⟨I.base.keep b o (I.ok.bs b o e).1 (I.ok.bs b o e).2 (I.ok.nofr e) (I.ok.noex b o e),I.base.free b o (I.ok.bs b o e).1 (I.ok.bs b o e).2 (I.ok.noex b o e)⟩
theorem Inv.bk (I:Inv X pins σ H s):∀b o,X.base.get? b=some o→s.heap.get? b=some o:=fun b o e=>(I.bs b o e).1
theorem Inv.mod (I:Inv X pins σ H s):Mod X.K X.mg X.base:=I.ok.mod
theorem Inv.kIn (I:Inv X pins σ H s):X.K.In s.heap:=I.ok.mod.kin.keeps I.bk
theorem Inv.lt (I:Inv X pins σ H s):X.env.locals < s.heap.objs.size:=let ⟨_,hn,_⟩:=I.loc;hn.lt
theorem Inv.sz (I:Inv X pins σ H s):X.s₀.heap.objs.size≤s.heap.objs.size:=kz I.ok.above (Nat.le_of_lt I.lt)
theorem Inv.nofs (I:Inv X pins σ H s) {a:Addr} (h:s.heap.objs.size≤a):a∉X.fs:=fun hb=>by
 obtain ⟨_,o,ho,_⟩:=I.ok.funs.mem hb
 exact absurd (kP (Heap.lt_size ho) (kz I.sz h)) (Nat.lt_irrefl _)
theorem Inv.cne (I:Inv X pins σ H s):∀x c,X.env.cells.lookup x=some c→c≠X.env.locals:=fun x c e z=>by
 obtain ⟨v,o,ho,hd⟩:=I.cell x c e
 obtain ⟨m,⟨o',es,ep,ho',hd',_⟩,_⟩:=I.loc
 rw [z,ho'] at ho;cases ho;rw [hd'] at hd;cases hd
theorem Inv.funs (I:Inv X pins σ H s):s.heap.FunFrames X.base X.outer:=by
 have all:∀(l:List Env),(∀b∈frs l,b∈X.fs)→X.s₀.heap.FunFrames X.base l→s.heap.FunFrames X.base l:=by
  intro l
  induction l with
  | nil=>intro _ _;trivial
  | cons env r ih=>
   intro hs hl
   obtain ⟨hk,⟨L,o,hf,hn,ho,hd⟩,hr⟩:=hl
   have hL:L∈X.fs:=hs L (by unfold frs;rw [List.filterMap_cons,hf];exact kU)
   obtain ⟨sl,e⟩:=I.base.slot L o ho (I.ok.frf L hL) hL fun z=>I.ok.exfs L z hL
   exact ⟨hk,⟨L,_,hf,hn,e,hd⟩,ih (fun b hb=>hs b (by unfold frs;rw [List.filterMap_cons,hf];exact kW _ hb)) hr⟩
 exact all X.outer (fun _ hb=>hb) I.ok.funs
theorem Inv.stack (I:Inv X pins σ H s):s.heap.FunFrames X.base X.stack:=by
 rcases I.ok.stk with e | ⟨e,hf⟩
 ·rw [e];exact I.funs
 ·rw [e]
  obtain ⟨m,hn,_⟩:=I.loc
  refine .cons (by rw [I.ok.kind];decide) hf hn ?_ I.funs
  exact Heap.get?_none_of_le (kz I.ok.bsz I.ok.above)
theorem Inv.stkSub (I:Inv X pins σ H s):∀b∈frs X.stack,b∈X.env.locals :: X.fs:=fun b hb=>by
 rcases I.ok.stk with e | ⟨e,hf⟩
 ·rw [e] at hb;exact kW _ hb
 ·rw [e] at hb
  unfold frs at hb
  rw [List.filterMap_cons,hf] at hb
  exact hb
theorem Inv.stkFree (I:Inv X pins σ H s):∀b∈frs X.stack,H b=none:=fun b hb=>by
 rcases kH.mp (I.stkSub b hb) with e | hb
 ·rw [e];exact I.free
 ·obtain ⟨_,o,ho,_⟩:=I.ok.funs.mem hb
  exact I.base.free b o ho (I.ok.frf b hb) fun z=>I.ok.exfs b z hb
theorem Inv.step {g':Array GenState} {t':Nat} {d':Drawn} {ch:List Addr} (I:Inv X pins σ H s)
  (hch:∀b∈ch,(b∈X.ex∨X.s₀.heap.objs.size≤b)∧b≠X.env.locals∧(∀x c,X.env.cells.lookup x=some c→c≠b)∧∀p∈X.pn++pins,p.1≠b)
  (keep:∀b o,b≠X.env.locals→b∉X.fs→b∉ch→s.heap.get? b=some o→H b=none→h'.get? b=some o)
  (slot:∀b o,b≠X.env.locals→b∈X.fs→b∉ch→s.heap.get? b=some o→H b=none→∃sl,h'.get? b=some { o with slots:=sl }) (free:∀b o,b∉ch→s.heap.get? b=some o→H b=none→H' b=none)
  (there:∀b o,b∉ch→s.heap.get? b=some o→∃o',h'.get? b=some o')
  (tups:∀b xs,H b=some (.tup xs)→H' b=some (.tup xs)) (frzs:∀b o u,H b=some (.frz o u)→H' b=some (.frz o u)) (tbls:∀b ps,H b=some (.tbl ps)→∃more,H' b=some (.tbl (ps++more)))
  (ns:∀m,s.heap.Ns X.env.locals m→h'.Ns X.env.locals m) (hok:HOk X.prog X.w H' h') (hg:AllBare g'):
  Inv X pins σ H' { s with heap:=h',gens:=g',drawn:=d',toks:=t' }:=by
 have neL:∀b o,X.s₀.heap.get? b=some o→b≠X.env.locals:=fun b o e=>Nat.ne_of_lt (kP (Heap.lt_size e) I.ok.above)
 have neC:∀b o,X.s₀.heap.get? b=some o→b∉X.ex→b∉ch:=fun b o e hx hb=>by
  rcases (hch b hb).1 with z | z
  ·exact hx z
  ·exact absurd (kP (Heap.lt_size e) z) (Nat.lt_irrefl _)
 have cellK:∀x c,X.env.cells.lookup x=some c→∀v,s.heap.IsCell c v→h'.IsCell c v:=fun x c e v ⟨o,ho,hd⟩=>by
  have nch:c∉ch:=fun z=>(hch c z).2.2.1 x c e rfl
  by_cases hc:c∈X.fs
  ·obtain ⟨sl,q⟩:=slot c o (I.cne x c e) hc nch ho (I.freeC x c e)
   exact ⟨_,q,hd⟩
  ·exact ⟨o,keep c o (I.cne x c e) hc nch ho (I.freeC x c e),hd⟩
 refine ⟨I.ok,I.os,hg,⟨fun b o e n hb hx=>?_,fun b o e n hb hx=>?_,fun b o e n hx=>?_,fun b o e hx=>?_,fun b xs e=>tups b xs (I.base.tups b xs e),fun b o xs e=>frzs b o xs (I.base.frzs b o xs e),fun b ps e=>?_⟩,?_,fun x c e=>?_,?_,fun x c e=>?_,fun p hp=>?_,hok,I.len⟩
 ·exact keep b o (neL b o e) hb (neC b o e hx) (I.base.keep b o e n hb hx) (I.base.free b o e n hx)
 ·obtain ⟨sl,e1⟩:=I.base.slot b o e n hb hx
  obtain ⟨sl',e2⟩:=slot b _ (neL b o e) hb (neC b o e hx) e1 (I.base.free b o e n hx)
  exact ⟨sl',e2⟩
 ·obtain ⟨o',e1⟩:=I.base.there b o e hx
  exact free b o' (neC b o e hx) e1 (I.base.free b o e n hx)
 ·obtain ⟨o',e1⟩:=I.base.there b o e hx
  exact there b o' (neC b o e hx) e1
 ·obtain ⟨m1,e1⟩:=I.base.tbls b ps e
  obtain ⟨m2,e2⟩:=tbls b _ e1
  exact ⟨m1++m2,by rw [e2,Array.append_assoc]⟩
 ·obtain ⟨m,hn,hl⟩:=I.loc
  refine ⟨m,ns m hn,fun i x v e1 e2 e3=>?_⟩
  obtain ⟨u,r,l⟩:=hl i x v e1 e2 e3
  refine ⟨u,r,?_⟩
  rcases l with l | ⟨k,c,e,z⟩
  ·exact .inl l
  ·exact .inr ⟨k,c,e,cellK x c e _ z⟩
 ·obtain ⟨v,z⟩:=I.cell x c e
  exact ⟨v,cellK x c e v z⟩
 ·obtain ⟨m,⟨o,_,_,ho,_⟩,_⟩:=I.loc
  exact free _ o (fun z=>(hch _ z).2.1 rfl) ho I.free
 ·obtain ⟨v,o,ho,hd⟩:=I.cell x c e
  exact free c o (fun z=>(hch c z).2.2.1 x c e rfl) ho (I.freeC x c e)
 ·obtain ⟨e,n,ne,nf,d⟩:=I.pin p hp
  have nch:p.1∉ch:=fun z=>(hch p.1 z).2.2.2 p hp rfl
  exact ⟨keep p.1 p.2 ne nf nch e n,free p.1 p.2 nch e n,ne,nf,d⟩
theorem Inv.un {t':Nat} (I:Inv X pins σ H s) (u:Un X.fs [] H H' s.heap h') (hok:HOk X.prog X.w H' h'):Inv X pins σ H' { s with heap:=h',toks:=t' }:=by
 obtain ⟨m,⟨o,es,ep,ho,r⟩,_⟩:=id I.loc
 obtain ⟨sl,hL⟩:=u.any ho I.free (by simp)
 exact I.step (g':=s.gens) (d':=s.drawn) (ch:=[]) (fun _ z=>nomatch z) (fun b o _ hb _ e n=>u.keep b o e n hb (by simp)) (fun b o _ hb _ e n=>u.slot b o e n hb (by simp)) (fun b o _ e n=>u.free b o e n (by simp)) (fun b o _ e=>u.there b o e (by simp)) u.tups u.frzs u.tbls (fun m' hm=>by
  obtain ⟨o',es',ep',ho',r'⟩:=hm
  rw [ho] at ho';cases ho'
  exact ⟨_,es',ep',hL,r'⟩) hok I.bare
theorem Inv.call {g':Array GenState} {t':Nat} {d':Drawn} {ch:List Addr} (I:Inv X pins σ H s) (u:Un (frs X.stack) ch H H' s.heap h') (hok:HOk X.prog X.w H' h') (hg:AllBare g')
  (hch:∀b∈ch,(b∈X.ex∨X.s₀.heap.objs.size≤b)∧b≠X.env.locals∧(∀x c,X.env.cells.lookup x=some c→c≠b)∧∀p∈X.pn++pins,p.1≠b):
  Inv X pins σ H' { s with heap:=h',gens:=g',drawn:=d',toks:=t' }:=by
 obtain ⟨m,⟨o,es,ep,ho,r⟩,_⟩:=id I.loc
 obtain ⟨sl,hL⟩:=u.any ho I.free fun z=>(hch _ z).2.1 rfl
 exact I.step (ch:=ch) hch (fun b o hL hb hc e n=>u.keep b o e n (fun z=>(kH.mp (I.stkSub b z)).elim hL hb) hc) (fun b o _ _ hc e n=>u.any e n hc) (fun b o hc e n=>u.free b o e n hc) (fun b o hc e=>u.there b o e hc) u.tups u.frzs u.tbls (fun m' hm=>by
  obtain ⟨o',es',ep',ho',r'⟩:=hm
  rw [ho] at ho';cases ho'
  exact ⟨_,es',ep',hL,r'⟩) hok hg
theorem Inv.turned {t':Nat} {it:Addr} (I:Inv X pins σ H s) (k:∀b o,b≠it→s.heap.get? b=some o→h'.get? b=some o) (hn:H it=none) (hL:it≠X.env.locals)
  (h1:it∈X.ex∨X.s₀.heap.objs.size≤it) (h2:∀x c,X.env.cells.lookup x=some c→c≠it) (h3:∀p∈X.pn++pins,p.1≠it):Inv X pins σ H { s with heap:=h',toks:=t' }:=by
 have nit:∀b u,H b=some u→b≠it:=fun b u e z=>by rw [z,hn] at e;cases e
 refine I.step (g':=s.gens) (d':=s.drawn) (ch:=[it]) (fun b hb=>?_) (fun b o _ _ hc e _=>k b o (fun z=>hc (by simp [z])) e) (fun b o _ _ hc e _=>⟨o.slots,k b o (fun z=>hc (by simp [z])) e⟩) (fun _ _ _ _ n=>n)
  (fun b o hc e=>⟨o,k b o (fun z=>hc (by simp [z])) e⟩) (fun _ _ e=>e) (fun _ _ _ e=>e) (fun b ps e=>⟨#[],by rw [e];simp⟩) (fun m hm=>?_) (fun b u e=>?_) I.bare
 ·have e:b=it:=by simpa using hb
  subst e
  exact ⟨h1,hL,h2,h3⟩
 ·obtain ⟨o,es,ep,ho,r⟩:=hm
  exact ⟨o,es,ep,k _ o (Ne.symm hL) ho,r⟩
 ·refine (I.hok b u e).stay (fun c v hc q=>k c v ?_ q) (fun _ q=>q) fun _ _ q=>q
  rcases hc with z | z
  ·rw [z];exact nit b u e
  ·exact nit c _ z
theorem Inv.tok (I:Inv X pins σ H s) (t:Nat):Inv X pins σ H { s with toks:=t }:=I.un (h':=s.heap) (t':=t) Un.refl I.hok
theorem Inv.kept {t':Nat} (I:Inv X pins σ H s) (k:∀b u,s.heap.get? b=some u→h'.get? b=some u):Inv X pins σ H { s with heap:=h',toks:=t' }:=I.un (Un.kept k) (I.hok.kept k)
theorem Inv.laid {a:Addr} {o:HO} {t':Nat} (I:Inv X pins σ H s) (k:∀b u,s.heap.get? b=some u→h'.get? b=some u) (hp:s.heap.objs.size≤a) (new:qz X.prog X.w (upd H a o) h' a o):
  Inv X pins σ (upd H a o) { s with heap:=h',toks:=t' }:=I.un (Un.laid k hp (I.hok.fresh hp)) (I.hok.laid k hp new)
theorem Inv.write {x e:Addr} {o:HO} {t':Nat} (I:Inv X pins σ H s) (mu:Mut (H x)) (he:e=x∨H e=some (.own x)) (k:∀b u,b≠e→s.heap.get? b=some u→h'.get? b=some u) (heo:∃u,h'.get? e=some u)
  (new:qz X.prog X.w (upd H x o) h' x o):Inv X pins σ (upd H x o) { s with heap:=h',toks:=t' }:=I.un (Un.write mu he k heo) (I.hok.write mu he k heo new)
theorem Inv.pins_of {pins':List (Addr × Obj)} (I:Inv X pins σ H s) (h:∀p∈pins',s.heap.get? p.1=some p.2∧H p.1=none∧p.1≠X.env.locals∧p.1∉X.fs∧∀v,p.2.data≠.cell v):Inv X pins' σ H s:=
 ⟨I.ok,I.os,I.bare,I.base,I.loc,I.cell,I.free,I.freeC,fun p hp=>(kX.mp hp).elim (fun z=>I.pin p (kR _ z)) (h p),I.hok,I.len⟩
theorem z1K {N:List Str} (hN:N.Nodup) {i j:Nat} {x:Str} (a:N[i]?=some x) (b:N[j]?=some x):i=j:=by
 obtain ⟨h1,e1⟩:=ki.mp a
 obtain ⟨h2,e2⟩:=ki.mp b
 exact (List.getElem_inj hN).mp (e1.trans e2.symm)
theorem z01 {M:Model} {A:Around} {E:Value→Shared→Prop} {i:Nat} {x:Str} {v:V} {u:Value} {Q:Unit→Shared→Prop} (I:Inv X pins σ H s) (hN:X.N.Nodup) (hi:X.N[i]?=some x) (hx:Loc X.env.scope x) (r:RelV v u)
  (h:∀s',Inv X pins (σ.set i (some v)) H s'→(∃a,Heap.SameBut a s.heap s'.heap∧(a=X.env.locals∨X.env.cells.lookup x=some a))→Q () s') (hf:X.fn x=true∨X.env.scope.names.lookup x=some .local:=by first | exact .inl rfl | exact .inr rfl | assumption):wpAny M A (storeName X.env x u) Q E s:=by
 obtain ⟨m,hn,hl⟩:=id I.loc
 have hcls:(X.env.scope.kind == .class||(X.env.scope.kind == .module&&X.env.locals != X.env.globals))=false:=by rw [I.ok.kind];rfl
 have hiσ:i < σ.length:=by rw [I.len];exact (ki.mp hi).1
 have cne:=I.cne
 have tracked:∀{a:Addr} {h':Heap},(∃o,s.heap.get? a=some o∧H a=none)→Heap.SameBut a s.heap h'→HOk X.prog X.w H h':=fun {a h'} ha hs b ob e=>by
  obtain ⟨_,_,hfree⟩:=ha
  refine (I.hok b ob e).stay (fun c w' hc q=>(hs.2 c ?_).trans q) (fun _ q=>q) fun _ _ q=>q
  rintro rfl
  rcases hc with rfl | hc
  ·rw [hfree] at e;cases e
  ·rw [hfree] at hc;cases hc
 rcases hx with hk | hk
 ·refine wpAny_storeName_local hk hn (fun h' hn' hs=>?_) hcls
  obtain ⟨oL,_,_,hoL,_⟩:=id hn
  refine h _ ⟨I.ok,I.os,I.bare,⟨fun b o e n hb hx=>?_,fun b o e n hb hx=>?_,I.base.free,fun b o e hx=>?_,I.base.tups,I.base.frzs,I.base.tbls⟩,⟨_,hn',fun j y v' e1 e2 e3=>?_⟩,fun y c e=>?_,I.free,I.freeC,fun p hp=>?_,tracked ⟨oL,hoL,I.free⟩ hs,by simpa using I.len⟩ ⟨_,hs,.inl rfl⟩
  ·exact (hs.2 b (Nat.ne_of_lt (kP (Heap.lt_size e) I.ok.above))).trans (I.base.keep b o e n hb hx)
  ·obtain ⟨sl,e1⟩:=I.base.slot b o e n hb hx
   exact ⟨sl,(hs.2 b (Nat.ne_of_lt (kP (Heap.lt_size e) I.ok.above))).trans e1⟩
  ·obtain ⟨o',e1⟩:=I.base.there b o e hx
   exact ⟨o',(hs.2 b (Nat.ne_of_lt (kP (Heap.lt_size e) I.ok.above))).trans e1⟩
  ·by_cases hj:j=i
   ·subst hj
    rw [hi] at e1;cases e1
    rw [List.getElem?_set_self hiσ] at e2
    cases e2
    exact ⟨u,r,.inl ⟨hk,by simp⟩⟩
   ·rw [List.getElem?_set_ne (Ne.symm hj)] at e2
    obtain ⟨u',r',q⟩:=hl j y v' e1 e2 e3
    refine ⟨u',r',?_⟩
    rcases q with ⟨k,e⟩ | ⟨k,c,e,z⟩
    ·refine .inl ⟨k,?_⟩
     have:y≠x:=fun e=>hj (z1K hN e1 (e▸hi))
     simp [this,e]
    ·exact .inr ⟨k,c,e,z.sameBut hs (cne y c e)⟩
  ·obtain ⟨w',z⟩:=I.cell y c e
   exact ⟨w',z.sameBut hs (cne y c e)⟩
  ·obtain ⟨e,n,ne,nf,d⟩:=I.pin p hp
   exact ⟨(hs.2 p.1 ne).trans e,n,ne,nf,d⟩
 ·have hfn:X.fn x=true:=by
   rcases hf with z | z
   ·exact z
   ·rw [z] at hk;cases hk
  obtain ⟨c,hc⟩:=I.ok.has x (.inl hk)
  obtain ⟨w',z⟩:=I.cell x c hc
  refine wpAny_storeName_cell I.ok.kind hk hc z (fun h' hc' hs=>?_)
  obtain ⟨oc,hoc,hocd⟩:=id z
  refine h { s with heap:=h' } ⟨I.ok,I.os,I.bare,⟨fun b o e n hb hx=>?_,fun b o e n hb hx=>?_,I.base.free,fun b o e hx=>?_,I.base.tups,I.base.frzs,I.base.tbls⟩,⟨m,hn.sameBut hs (Ne.symm (cne x c hc)),fun j y v' e1 e2 e3=>?_⟩,fun y c' e=>?_,I.free,I.freeC,fun p hp=>?_,tracked ⟨oc,hoc,I.freeC x c hc⟩ hs,by simpa using I.len⟩ ⟨c,hs,.inr hc⟩
  ·exact (hs.2 b (Nat.ne_of_lt (kP (Heap.lt_size e) (I.ok.cab x c hfn hc)))).trans (I.base.keep b o e n hb hx)
  ·obtain ⟨sl,e1⟩:=I.base.slot b o e n hb hx
   exact ⟨sl,(hs.2 b (Nat.ne_of_lt (kP (Heap.lt_size e) (I.ok.cab x c hfn hc)))).trans e1⟩
  ·obtain ⟨o',e1⟩:=I.base.there b o e hx
   exact ⟨o',(hs.2 b (Nat.ne_of_lt (kP (Heap.lt_size e) (I.ok.cab x c hfn hc)))).trans e1⟩
  ·by_cases hj:j=i
   ·subst hj
    rw [hi] at e1;cases e1
    rw [List.getElem?_set_self hiσ] at e2
    cases e2
    exact ⟨u,r,.inr ⟨.inl hk,c,hc,hc'⟩⟩
   ·rw [List.getElem?_set_ne (Ne.symm hj)] at e2
    obtain ⟨u',r',q⟩:=hl j y v' e1 e2 e3
    refine ⟨u',r',?_⟩
    rcases q with q | ⟨k,c',e,z'⟩
    ·exact .inl q
    ·refine .inr ⟨k,c',e,z'.sameBut hs ?_⟩
     rintro rfl
     exact hj (z1K hN e1 (I.ok.inj _ _ _ e hc▸hi))
  ·by_cases hcc:c'=c
   ·subst hcc;exact ⟨_,hc'⟩
   ·obtain ⟨w2,z2⟩:=I.cell y c' e
    exact ⟨w2,z2.sameBut hs hcc⟩
  ·obtain ⟨e,n,ne,nf,d⟩:=I.pin p hp
   refine ⟨(hs.2 p.1 ?_).trans e,n,ne,nf,d⟩
   intro q
   rw [q,hoc] at e
   have q':oc=p.2:=kF e
   exact d w' (by rw [←q'];exact hocd)
theorem ZA {M:Model} {A:Around} {E:Value→Shared→Prop} {i:Nat} {x:Str} {v:V} {u:Value} {Q:Unit→Shared→Prop} (I:Inv X pins σ H s) (hN:X.N.Nodup) (hi:X.N[i]?=some x) (hx:Loc X.env.scope x) (r:RelV v u)
  (h:∀s',Inv X pins (σ.set i (some v)) H s'→Q () s') (hf:X.fn x=true∨X.env.scope.names.lookup x=some .local:=by first | exact .inl rfl | exact .inr rfl | assumption):wpAny M A (storeName X.env x u) Q E s:=
 z01 I hN hi hx r (fun s' I' _=>h s' I') hf
theorem Inv.call' {s':Shared} {ch:List Addr} (I:Inv X pins σ H s) (ho:s'.os=s.os) (u:Un (frs X.stack) ch H H' s.heap s'.heap) (hok:HOk X.prog X.w H' s'.heap) (hg:AllBare s'.gens)
  (hch:∀b∈ch,(b∈X.ex∨X.s₀.heap.objs.size≤b)∧b≠X.env.locals∧(∀x c,X.env.cells.lookup x=some c→c≠b)∧∀p∈X.pn++pins,p.1≠b):Inv X pins σ H' s':=by
 obtain ⟨h',g',d',t',o'⟩:=s'
 have e:o'=s.os:=ho
 subst e
 exact I.call (g':=g') (t':=t') (d':=d') u hok hg hch
end
abbrev XK:=Value→Option Addr→Hp→Prop
abbrev St:=List (Option V)
abbrev VK:=V→Hp→Prop
abbrev TE:=St→Hp→VK→Prop
abbrev TT:=St→Hp→(Bool→Hp→Prop)→Prop
abbrev TA:=St→Hp→(List V→Hp→Prop)→Prop
structure Ends where
 nx:St→Hp→Prop
 rt:VK
 bk:St→Hp→Prop:=fun _ _=>False
 ct:St→Hp→Prop:=fun _ _=>False
abbrev TS:=Ends→St→Hp→Prop
def EP (X:Cx) (pins:List (Addr × Obj)) (σ:St) (Q:VK) (u:Value) (s':Shared):Prop:=∃v H',Inv X pins σ H' s'∧RelV v u∧Q v H'
def TP (X:Cx) (pins:List (Addr × Obj)) (σ:St) (Q:Bool→Hp→Prop) (b:Bool) (s':Shared):Prop:=∃H',Inv X pins σ H' s'∧Q b H'
def AP (X:Cx) (pins:List (Addr × Obj)) (σ:St) (Q:List V→Hp→Prop) (us:List Value) (s':Shared):Prop:=∃vs H',Inv X pins σ H' s'∧Vals vs us∧Q vs H'
def SP (X:Cx) (pins:List (Addr × Obj)) (D:Ends) (f:Flow) (s':Shared):Prop:=
 match f with
 | .next=>∃σ' H',Inv X pins σ' H' s'∧D.nx σ' H'
 | .brk=>∃σ' H',Inv X pins σ' H' s'∧D.bk σ' H'
 | .cont=>∃σ' H',Inv X pins σ' H' s'∧D.ct σ' H'
 | .ret u=>∃v σ' H',Inv X pins σ' H' s'∧RelV v u∧D.rt v H'
def PE (X:Cx) (e:Expr) (t:TE):Prop:=
 ∀(pins:List (Addr × Obj)) (s:Shared) (σ:St) (H:Hp) (Q:VK),Inv X pins σ H s→t σ H Q→wpAny (model X.prog X.w) X.A (eval e X.env) (EP X pins σ Q) X.xe s
def PT (X:Cx) (e:Expr) (t:TT):Prop:=
 ∀(pins:List (Addr × Obj)) (s:Shared) (σ:St) (H:Hp) (Q:Bool→Hp→Prop),Inv X pins σ H s→t σ H Q→wpAny (model X.prog X.w) X.A (isTrue e X.env (eval e X.env)) (TP X pins σ Q) X.xe s
def PW (X:Cx) (e:Expr) (t:TT):Prop:=
 ∀(whole:Sem Value) (pins:List (Addr × Obj)) (s:Shared) (σ:St) (H:Hp) (Q:Bool→Hp→Prop),Inv X pins σ H s→t σ H Q→wpAny (model X.prog X.w) X.A (isTrue e X.env whole) (TP X pins σ Q) X.xe s
theorem PW.pt {X:Cx} {e:Expr} {t:TT} (h:PW X e t):PT X e t:=h _
def PA (X:Cx) (es:List Expr) (t:TA):Prop:=
 ∀(pos:Pos) (pins:List (Addr × Obj)) (s:Shared) (σ:St) (H:Hp) (Q:List V→Hp→Prop),Inv X pins σ H s→t σ H Q→wpAny (model X.prog X.w) X.A (spliced (backTo pos (starEach es X.env))) (AP X pins σ Q) X.xe s
def PS (X:Cx) (st:Stmt) (t:TS):Prop:=
 ∀(pins:List (Addr × Obj)) (s:Shared) (σ:St) (H:Hp) (D:Ends),Inv X pins σ H s→t D σ H→wpAny (model X.prog X.w) X.A (exec st X.env) (SP X pins D) X.xe s
def PSs (X:Cx) (st:List Stmt) (t:TS):Prop:=
 ∀(pins:List (Addr × Obj)) (s:Shared) (σ:St) (H:Hp) (D:Ends),Inv X pins σ H s→t D σ H→wpAny (model X.prog X.w) X.A (execs st X.env) (SP X pins D) X.xe s
theorem thn {α:Type} {t:Sem α} {Q Q':α→Shared→Prop} {M:Model} {A:Around} {E:Value→Shared→Prop} {s:Shared} (h:wpAny M A t Q E s) (hQ:∀a s,Q a s→Q' a s):wpAny M A t Q' E s:=wpAny_mono h hQ fun _ _ x=>x
end L2
namespace L2
open PySem PySem.Spec PyProof.Rows
section
variable {X:Cx}
def tVar (i:Nat):TE:=fun σ H Q=>∃v,σ[i]?=some (some v)∧Q v H
abbrev tC (v:V):TE:=fun _ H Q=>Q v H
theorem z8l {i:Nat} {x:Str} {pos:Pos} (hN:X.N[i]?=some x) (hv:Vis X.env.scope x) (hd:autoParam ((x == ("__debug__":Str))=false) aR._auto_2) (hcd:autoParam ((x == ("__classdict__":Str))=false) aR._auto_2):PE X (.Name x pos) (tVar i):=by
 intro pins s σ H Q I h
 obtain ⟨v,e,h⟩:=h
 obtain ⟨m,hn,hl⟩:=I.loc
 obtain ⟨u,r,l⟩:=hl i x v hN e hv
 have fin:EP X pins σ Q u s:=⟨v,H,I,r,h⟩
 rcases l with ⟨hk,hm⟩ | ⟨hk,c,hc,hcell⟩
 ·exact wpAny_Name (wpAny_loadName_local I.ok.kind hk hn hm fin) hd
 ·rcases hk with hk | hk
  ·exact wpAny_Name (wpAny_loadName_cell I.ok.kind hk hc hcell fin) hd
  ·exact wpAny_Name (wpAny_loadName_free I.ok.kind hk hc hcell fin hcd) hd
theorem zg {i j pos}:PE X (.Constant (.int i) j pos) (tC (.int i)):=fun _ _ _ H _ I h=>wpAny_Constant_int ⟨.int i,H,I.tok _,⟨_,rfl⟩,h⟩
theorem ZZ {b j pos}:PE X (.Constant (.bool b) j pos) (tC (.bl b)):=fun _ _ _ H _ I h=>Constant_bool ⟨.bl b,H,I,rfl,h⟩
theorem qm {j pos}:PE X (.Constant .none j pos) (tC .non):=fun _ _ _ H _ I h=>Constant_none ⟨.non,H,I,rfl,h⟩
theorem zk {x j pos}:PE X (.Constant (.str x) j pos) (tC (.str x)):=fun _ _ _ H _ I h=>Calls.Constant_str ⟨.str x,H,I.tok _,⟨_,rfl⟩,h⟩
def Gl (X:Cx) (x:Str):Prop:=X.env.kindOf x=some .globalImplicit
theorem Q3 {E:Value→Shared→Prop} {pins:List (Addr × Obj)} {s:Shared} {σ:St} {H:Hp} {x:Str} {u:Value} {pos:Pos} {Q:Value→Shared→Prop} (I:Inv X pins σ H s) (hg:Gl X x) (hm:X.mg x=some u) (h:Q u s)
  (hd:autoParam ((x == ("__debug__":Str))=false) aR._auto_2):wpAny (model X.prog X.w) X.A (eval (.Name x pos) X.env) Q E s:=
 Calls.Name_function_global I.ok.kind hg (Calls.loadGlobal_global (by rw [I.ok.glob];exact I.mod.glob.keeps I.bk) hm h) hd
theorem z0m {E:Value→Shared→Prop} {pins:List (Addr × Obj)} {s:Shared} {σ:St} {H:Hp} {x:Str} {u:Value} {pos:Pos} {Q:Value→Shared→Prop} (I:Inv X pins σ H s) (hg:Gl X x) (hm:X.mg x=none) (hv:bootBuiltins x=some u) (h:Q u s)
  (hn:autoParam (x≠"__name__") aR._auto_2) (hd:autoParam ((x == ("__debug__":Str))=false) aR._auto_2):wpAny (model X.prog X.w) X.A (eval (.Name x pos) X.env) Q E s:=by
 obtain ⟨mb,h1,h2⟩:=I.mod.blt
 exact Calls.Name_function_global I.ok.kind hg (Calls.loadGlobal_builtin (by rw [I.ok.glob];exact I.mod.glob.keeps I.bk) hm (by rw [I.ok.blt];exact h1.keeps I.bk) ((h2 x hn).trans hv) h) hd
theorem qb {x:Str} {v:V} {u:Value} {pos:Pos} (hg:Gl X x) (hm:X.mg x=some u) (r:RelV v u) (hd:autoParam ((x == ("__debug__":Str))=false) aR._auto_2):PE X (.Name x pos) (tC v):=
 fun _ _ _ H _ I h=>Q3 I hg hm ⟨v,H,I,r,h⟩ hd
theorem z6G {x:Str} {v:V} {u:Value} {pos:Pos} (hg:Gl X x) (hm:X.mg x=none) (hv:bootBuiltins x=some u) (r:RelV v u) (hn:autoParam (x≠"__name__") aR._auto_2) (hd:autoParam ((x == ("__debug__":Str))=false) aR._auto_2):PE X (.Name x pos) (tC v):=
 fun _ _ _ H _ I h=>z0m I hg hm hv ⟨v,H,I,r,h⟩ hn hd
variable {a b:Expr} {ta tb:TE} {pos:Pos}
def PC (X:Cx) (op:CmpOp) (a b:Expr) (t:TE):Prop:=
 ∀(pins:List (Addr × Obj)) (s:Shared) (σ:St) (H:Hp) (Q:VK),Inv X pins σ H s→t σ H Q→
  wpAny (model X.prog X.w) X.A (eval a X.env) (fun v s₁=>wpAny (model X.prog X.w) X.A (eval b X.env) (fun u s₂=>wpAny (model X.prog X.w) X.A (compareOp op v u) (EP X pins σ Q) X.xe s₂) X.xe s₁) X.xe s
def tB (t:TE):TT:=fun σ H Q=>t σ H fun x H1=>∃c,x=.bl c∧Q c H1
theorem z1F {op:CmpOp} {t:TE} (h:PC X op a b t) (h1:behindInMarks op b=false:=by first | exact nobehind _ (by decide) (by decide) | rfl):PE X (.Compare a [op] [b] pos) t:=fun pins s σ H Q I hw=>wpAny_Compare1 (h pins s σ H Q I hw) h1
theorem z5W {op:CmpOp} {t:TE} (h:PC X op a b t) (h1:behindInMarks op b=false:=by first | exact nobehind _ (by decide) (by decide) | rfl):PT X (.Compare a [op] [b] pos) (tB t):=by
 intro pins s σ H Q I hw
 refine wpAny_isTrue_Compare1 (thn (h pins s σ H _ I hw) fun v s1 h1=>thn h1 fun u s2 h2=>thn h2 fun c s3 ⟨x,H1,I1,r1,q1⟩=>?_) h1
 obtain ⟨d,rfl,q⟩:=q1
 cases r1
 exact wpAny_truthy_bool ⟨H1,I1,q⟩
theorem qZ {e:Expr} {t:TE} (h:PE X e t) (he:∀whole,isTrue e X.env whole=(do let v ←whole;standAt e.pos;holding [v] (truthy v)):=by intro _;rfl):PT X e (tB t):=by
 intro pins s σ H Q I hw
 refine isTrue_plain (thn (h pins s σ H _ I hw) fun v s1 ⟨x,H1,I1,r1,q1⟩=>?_) (he _)
 obtain ⟨d,rfl,q⟩:=q1
 cases r1
 exact wpAny_truthy_bool ⟨H1,I1,q⟩
variable {tA tB':TT} {rest:List Expr}
def tAnd (t u:TT):TT:=fun σ H Q=>t σ H fun c H1=>if c=true then u σ H1 Q else Q false H1
def tOr (t u:TT):TT:=fun σ H Q=>t σ H fun c H1=>if c=true then Q true H1 else u σ H1 Q
def tNot (t:TT):TT:=fun σ H Q=>t σ H fun c H1=>Q (!c) H1
theorem jM (ha:PT X a tA):PW X (.BoolOp .And [a] pos) tA:=by
 intro wh pins s σ H Q I h
 refine isTrue_and (thn (ha pins s σ H Q I h) fun c s1 e=>?_)
 cases c with
 | true=>exact isTrue_and_nil e
 | false=>exact e
theorem ZC (ha:PT X a tA):PW X (.BoolOp .Or [a] pos) tA:=by
 intro wh pins s σ H Q I h
 refine isTrue_or (thn (ha pins s σ H Q I h) fun c s1 e=>?_)
 cases c with
 | false=>exact isTrue_or_nil e
 | true=>exact e
theorem Qa (ha:PT X a tA) (hb:PW X (.BoolOp .And (b :: rest) pos) tB'):PW X (.BoolOp .And (a :: b :: rest) pos) (tAnd tA tB'):=by
 intro wh pins s σ H Q I h
 refine isTrue_and (thn (ha pins s σ H _ I h) fun c s1 zz=>?_)
 obtain ⟨H1,I1,q1⟩:=zz
 cases c with
 | true=>exact hb wh pins s1 σ H1 Q I1 q1
 | false=>exact ⟨H1,I1,q1⟩
theorem Jv (ha:PT X a tA) (hb:PW X (.BoolOp .Or (b :: rest) pos) tB'):PW X (.BoolOp .Or (a :: b :: rest) pos) (tOr tA tB'):=by
 intro wh pins s σ H Q I h
 refine isTrue_or (thn (ha pins s σ H _ I h) fun c s1 zz=>?_)
 obtain ⟨H1,I1,q1⟩:=zz
 cases c with
 | true=>exact ⟨H1,I1,q1⟩
 | false=>exact hb wh pins s1 σ H1 Q I1 q1
theorem Za (ha:PT X a tA):PT X (.UnaryOp .Not a pos) (tNot tA):=by
 intro pins s σ H Q I h
 exact isTrue_not (ha pins s σ H (fun c H1=>Q (!c) H1) I h)
def z9q (ta tb:TE):TE:=fun σ H Q=>ta σ H fun x H1=>∃c,x=.bl c∧if c=true then tb σ H1 Q else Q (.bl false) H1
def tOrV (ta tb:TE):TE:=fun σ H Q=>ta σ H fun x H1=>∃c,x=.bl c∧if c=true then Q (.bl true) H1 else tb σ H1 Q
def z9l (ta:TE):TE:=fun σ H Q=>ta σ H fun x H1=>∃c,x=.bl c∧Q (.bl (!c)) H1
theorem jB {op} {t:TE} (h:PE X a t):PE X (.BoolOp op [a] pos) t:=fun pins s σ H Q I hw=>BoolOp_one (h pins s σ H Q I hw)
theorem jm (ha:PE X a ta) (hb:PE X (.BoolOp .And (b :: rest) pos) tb):PE X (.BoolOp .And (a :: b :: rest) pos) (z9q ta tb):=by
 intro pins s σ H Q I h
 refine BoolOp_and (thn (ha pins s σ H _ I h) fun v s1 zz=>?_)
 obtain ⟨x,H1,I1,r1,q1⟩:=zz
 obtain ⟨c,rfl,q1⟩:=q1
 cases r1
 refine wpAny_truthy_bool ?_
 cases c with
 | true=>exact hb pins s1 σ H1 Q I1 q1
 | false=>exact ⟨.bl false,H1,I1,rfl,q1⟩
theorem z8m (ha:PE X a ta) (hb:PE X (.BoolOp .Or (b :: rest) pos) tb):PE X (.BoolOp .Or (a :: b :: rest) pos) (tOrV ta tb):=by
 intro pins s σ H Q I h
 refine BoolOp_or (thn (ha pins s σ H _ I h) fun v s1 zz=>?_)
 obtain ⟨x,H1,I1,r1,q1⟩:=zz
 obtain ⟨c,rfl,q1⟩:=q1
 cases r1
 refine wpAny_truthy_bool ?_
 cases c with
 | false=>exact hb pins s1 σ H1 Q I1 q1
 | true=>exact ⟨.bl true,H1,I1,rfl,q1⟩
theorem z5Z (ha:PE X a ta):PE X (.UnaryOp .Not a pos) (z9l ta):=by
 intro pins s σ H Q I h
 refine UnaryOp_ (thn (ha pins s σ H _ I h) fun v s1 zz=>?_)
 obtain ⟨x,H1,I1,r1,q1⟩:=zz
 obtain ⟨c,rfl,q1⟩:=q1
 cases r1
 exact not_of (wpAny_truthy_bool ⟨.bl (!c),H1,I1,rfl,q1⟩)
def tIf (t:TT) (ta tb:TE):TE:=fun σ H Q=>t σ H fun c H1=>if c=true then ta σ H1 Q else tb σ H1 Q
theorem jh {c:Expr} (hc:PT X c tA) (ha:PE X a ta) (hb:PE X b tb):PE X (.IfExp c a b pos) (tIf tA ta tb):=by
 intro pins s σ H Q I h
 refine wpAny_IfExp (thn (hc pins s σ H _ I h) fun d s1 zz=>?_)
 obtain ⟨H1,I1,q1⟩:=zz
 cases d with
 | true=>exact ha pins s1 σ H1 Q I1 q1
 | false=>exact hb pins s1 σ H1 Q I1 q1
end
end L2
namespace L2
open PySem PySem.Spec PyProof.Rows
def SqL (K:kC) (H:Hp) (a:Addr) (xs:List V):Prop:=
 Rd H a (.lst xs)∨
  ∃(o:Obj) (its:Array Value) (n:Nat),K.lookup a=some o∧o.cls=.type "list"∧o.dict=none∧o.data=.seq its n∧its.size≤sizeLine∧Vals xs its.toList
def SqT (K:kC) (H:Hp) (a:Addr) (xs:List V):Prop:=
 Rd H a (.tup xs)∨
  ∃(o:Obj) (its:Array Value) (n:Nat),K.lookup a=some o∧o.cls=.type "tuple"∧o.data=.seq its n∧its.size≤sizeLine∧Vals xs its.toList
noncomputable def absV:Value→Option V
 | .none=>some .non
 | .bool b=>some (.bl b)
 | .int i _=>some (.int i)
 | .str x _=>some (.str x)
 | .bytes b _=>some (.byt b)
 | .float b _=>some (.flt b)
 | .ref a=>some (.ref a)
 | .type n=>some (.ty n)
 | _=>none
theorem RelV.abs {x:V} {u:Value} (r:RelV x u):absV u=some x:=by
 cases x with
 | non=>cases r;rfl
 | bl _=>cases r;rfl
 | int _=>obtain ⟨t,rfl⟩:=r;rfl
 | str _=>obtain ⟨t,rfl⟩:=r;rfl
 | byt _=>obtain ⟨t,rfl⟩:=r;rfl
 | flt _=>obtain ⟨t,rfl⟩:=r;rfl
 | ref _=>cases r;rfl
 | ty _=>cases r;rfl
theorem RelV.inj {x y:V} {u:Value} (r:RelV x u) (q:RelV y u):x=y:=kF (r.abs.symm.trans q.abs)
theorem Vals.inj:∀{xs ys:List V} {us:List Value},Vals xs us→Vals ys us→xs=ys
 | _,_,_,.nil,.nil=>rfl
 | _,_,_,.cons r t,.cons r' t'=>by rw [r.inj r',Vals.inj t t']
section
variable {X:Cx} {pins:List (Addr × Obj)} {σ:St} {H:Hp} {s:Shared} {a:Addr} {xs ys:List V}
theorem SqL.of {K:kC} (h:H a=some (.lst xs)):SqL K H a xs:=.inl (.inl h)
theorem SqT.of {K:kC} (h:H a=some (.tup xs)):SqT K H a xs:=.inl (.inl h)
theorem Inv.list (I:Inv X pins σ H s) (h:SqL X.K H a xs):∃its:List Value,Vals xs its∧PlainL s.heap a its.toArray∧xs.length≤sizeLine:=by
 rcases h with h | ⟨o,its,n,hk,hc,hd,hs,hz,r⟩
 ·obtain ⟨z,its,n,r,e⟩:=h.ok I.hok
  exact ⟨its,r,⟨_,n,e,rfl,rfl,rfl⟩,z⟩
 ·refine ⟨its.toList,r,⟨o,n,I.kIn a o hk,hc,hd,by simpa using hs⟩,?_⟩
  have e:=r.length
  simp only [Array.length_toList] at e
  lia
theorem Inv.tuple (I:Inv X pins σ H s) (h:SqT X.K H a xs):∃its:List Value,Vals xs its∧IsTup s.heap a its.toArray∧xs.length≤sizeLine:=by
 rcases h with h | ⟨o,its,n,hk,hc,hs,hz,r⟩
 ·obtain ⟨z,its,r,p⟩:=h.ok I.hok
  exact ⟨its,r,p,z⟩
 ·refine ⟨its.toList,r,⟨o,I.kIn a o hk,hc,n,by simpa using hs⟩,?_⟩
  have e:=r.length
  simp only [Array.length_toList] at e
  lia
theorem Inv.list_inj (I:Inv X pins σ H s) (h:SqL X.K H a xs) (h':SqL X.K H a ys):xs=ys:=by
 obtain ⟨its,r,⟨o,n,e,_,_,d⟩,_⟩:=I.list h
 obtain ⟨its',r',⟨o',n',e',_,_,d'⟩,_⟩:=I.list h'
 rw [e] at e';cases e'
 rw [d] at d'
 injection d' with d1 _
 have:its=its':=by simpa using congrArg Array.toList d1
 subst this
 exact r.inj r'
theorem Inv.tuple_inj (I:Inv X pins σ H s) (h:SqT X.K H a xs) (h':SqT X.K H a ys):xs=ys:=by
 obtain ⟨its,r,⟨o,e,_,n,d⟩,_⟩:=I.tuple h
 obtain ⟨its',r',⟨o',e',_,n',d'⟩,_⟩:=I.tuple h'
 rw [e] at e';cases e'
 rw [d] at d'
 injection d' with d1 _
 have:its=its':=by simpa using congrArg Array.toList d1
 subst this
 exact r.inj r'
end
noncomputable abbrev Cx.wish (X:Cx) (E:Value→Shared→Prop):Cx:={ X with xe:=E }
noncomputable abbrev Cx.nox (X:Cx):Cx:=X.wish fun _ _=>False
theorem Cx.Ok.wish {X:Cx} (ok:X.Ok) (E:Value→Shared→Prop):(X.wish E).Ok:=
 ⟨ok.mod,ok.kind,ok.glob,ok.blt,ok.above,ok.inj,ok.has,ok.cab,ok.hd,ok.frames,ok.stk,ok.exf,ok.bs,ok.bsz,ok.noex,ok.exfs,ok.funs,ok.frf⟩
theorem Cx.Ok.unwish {X:Cx} {E:Value→Shared→Prop} (ok:(X.wish E).Ok):X.Ok:=
 ⟨ok.mod,ok.kind,ok.glob,ok.blt,ok.above,ok.inj,ok.has,ok.cab,ok.hd,ok.frames,ok.stk,ok.exf,ok.bs,ok.bsz,ok.noex,ok.exfs,ok.funs,ok.frf⟩
section
variable {X:Cx} {pins:List (Addr × Obj)} {σ:St} {H:Hp} {s:Shared} {E:Value→Shared→Prop}
theorem Inv.wish (I:Inv X pins σ H s) (E:Value→Shared→Prop):Inv (X.wish E) pins σ H s:=⟨I.ok.wish E,I.os,I.bare,I.base,I.loc,I.cell,I.free,I.freeC,I.pin,I.hok,I.len⟩
theorem Inv.unwish (I:Inv (X.wish E) pins σ H s):Inv X pins σ H s:=⟨I.ok.unwish,I.os,I.bare,I.base,I.loc,I.cell,I.free,I.freeC,I.pin,I.hok,I.len⟩
theorem SP.unwish {D:Ends} {f:Flow} {s':Shared} (h:SP (X.wish E) pins D f s'):SP X pins D f s':=by
 cases f with
 | next=>obtain ⟨σ',H',I,q⟩:=h;exact ⟨σ',H',I.unwish,q⟩
 | brk=>obtain ⟨σ',H',I,q⟩:=h;exact ⟨σ',H',I.unwish,q⟩
 | cont=>obtain ⟨σ',H',I,q⟩:=h;exact ⟨σ',H',I.unwish,q⟩
 | ret u=>obtain ⟨v,σ',H',I,r,q⟩:=h;exact ⟨v,σ',H',I.unwish,r,q⟩
theorem PSs.nox {st:List Stmt} {t:TS} (h:PSs X.nox st t):PSs X st t:=fun pins s σ H D I hw=>
 wpAny_mono (h pins s σ H D (I.wish _) hw) (fun _ _ q=>q.unwish) fun _ _ z=>False.elim z
end
section
variable {X:Cx} {st:Stmt} {rest:List Stmt} {t u:TS} {e:Expr} {te:TE} {pos:Pos}
def z7L:TS:=fun D σ H=>D.nx σ H
def tSeq (t u:TS):TS:=fun D σ H=>t { D with nx:=u D } σ H
theorem zw:PSs X [] z7L:=fun _ _ σ H _ I h=>wpAny_execs_nil ⟨σ,H,I,h⟩
theorem z8 (h1:PS X st t) (h2:PSs X rest u):PSs X (st :: rest) (tSeq t u):=by
 intro pins s σ H D I h
 refine wpAny_execs_cons (thn (h1 pins s σ H { D with nx:=u D } I h) fun f s1 q=>?_)
 cases f with
 | next=>
  obtain ⟨σ',H',I',q⟩:=q
  exact h2 pins s1 σ' H' D I' q
 | ret v=>exact q
 | brk=>exact q
 | cont=>exact q
theorem zd (h1:PS X st t):PSs X [st] t:=by
 intro pins s σ H D I h
 refine wpAny_execs_cons (thn (h1 pins s σ H D I h) fun f s1 q=>?_)
 cases f with
 | next=>exact wpAny_execs_nil q
 | ret v=>exact q
 | brk=>exact q
 | cont=>exact q
theorem Inv.quiet {pins:List (Addr × Obj)} {σ:St} {H:Hp} {s:Shared} (I:Inv X pins σ H s):interactive X.env=false:=by simp [interactive,I.ok.kind]
def z7P (te:TE):TS:=fun D σ H=>te σ H fun _ H1=>D.nx σ H1
theorem zj (he:PE X e te) (hs:autoParam (swapsWith e none pos.line X.env=pure false) aR._auto_1):PS X (.Expr e pos) (z7P te):=by
 intro pins s σ H D I h
 exact wpAny_Expr_any (thn (he pins s σ H _ I h) fun v s1 ⟨x,H1,I1,r1,q1⟩=>⟨σ,H1,I1,q1⟩) I.quiet hs
def tRet (te:TE):TS:=fun D σ H=>te σ H D.rt
theorem zl (he:PE X e te):PS X (.Return (some e) pos) (tRet te):=by
 intro pins s σ H D I h
 exact wpAny_Return_some (thn (he pins s σ H _ I h) fun v s1 ⟨x,H1,I1,r1,q1⟩=>⟨x,σ,H1,I1,r1,q1⟩)
def z9j:TS:=fun D _ H=>D.rt .non H
theorem z6B:PS X (.Return none pos) z9j:=fun _ _ σ H _ I h=>wpAny_Return_none ⟨.non,σ,H,I,rfl,h⟩
def tIfS (c:TT) (t u:TS):TS:=fun D σ H=>c σ H fun b H1=>if b=true then t D σ H1 else u D σ H1
theorem zJ {c:Expr} {a b:List Stmt} {tc:TT} (hc:PT X c tc) (ha:PSs X a t) (hb:PSs X b u):PS X (.If c a b pos) (tIfS tc t u):=by
 intro pins s σ H D I h
 refine wpAny_If (thn (hc pins s σ H _ I h) fun d s1 zz=>?_)
 obtain ⟨H1,I1,q1⟩:=zz
 cases d with
 | true=>exact ha pins s1 σ H1 D I1 q1
 | false=>exact hb pins s1 σ H1 D I1 q1
def z7M:TS:=fun _ _ _=>False
theorem qL {sts:List Stmt}:PSs X sts z7M:=fun _ _ _ _ _ _ h=>h.elim
end
abbrev TG:=V→St→Hp→(St→Hp→Prop)→Prop
abbrev TGs:=List V→St→Hp→(St→Hp→Prop)→Prop
def PG (X:Cx) (target:Expr) (t:TG):Prop:=
 ∀(pins:List (Addr × Obj)) (s:Shared) (σ:St) (H:Hp) (v:V) (u:Value) (Q:St→Hp→Prop),Inv X pins σ H s→RelV v u→t v σ H Q→
  wpAny (model X.prog X.w) X.A (assign target X.env u) (fun _ s'=>∃σ' H',Inv X pins σ' H' s'∧Q σ' H') X.xe s
def PGs (X:Cx) (ts:List Expr) (t:TGs):Prop:=
 ∀(pins:List (Addr × Obj)) (s:Shared) (σ:St) (H:Hp) (vs:List V) (us:List Value) (Q:St→Hp→Prop),Inv X pins σ H s→Vals vs us→t vs σ H Q→
  wpAny (model X.prog X.w) X.A (assignInOrder ((assignEach ts X.env).map (·.2)) us) (fun _ s'=>∃σ' H',Inv X pins σ' H' s'∧Q σ' H') X.xe s
abbrev TSet:=V→V→V→Hp→(Hp→Prop)→Prop
def PSet (X:Cx) (t:TSet):Prop:=
 ∀(pins:List (Addr × Obj)) (s:Shared) (σ:St) (H:Hp) (o i v:V) (ov iv u:Value) (Q:Hp→Prop),Inv X pins σ H s→RelV o ov→RelV i iv→RelV v u→t o i v H Q→
  wpAny (model X.prog X.w) X.A (setItem ov iv u) (fun _ s'=>∃H',Inv X pins σ H' s'∧Q H') X.xe s
abbrev TIp:=V→V→Hp→VK→Prop
def PIp (X:Cx) (op:Operator) (t:TIp):Prop:=
 ∀(pins:List (Addr × Obj)) (s:Shared) (σ:St) (H:Hp) (x y:V) (v u:Value) (Q:VK),Inv X pins σ H s→RelV x v→RelV y u→t x y H Q→
  wpAny (model X.prog X.w) X.A (inplaceOp op v u) (EP X pins σ Q) X.xe s
section
variable {X:Cx} {pos:Pos}
def z3F (i:Nat):TG:=fun v σ H Q=>Q (σ.set i (some v)) H
theorem zu {i:Nat} {x:Str} (hN:X.N.Nodup) (hi:X.N[i]?=some x) (hx:Loc X.env.scope x) (hf:X.fn x=true∨X.env.scope.names.lookup x=some .local:=by first | exact .inl rfl | exact .inr rfl | assumption):PG X (.Name x pos) (z3F i):=by
 intro pins s σ H v u Q I r h
 exact wpAny_assign_Name (ZA I hN hi hx r (fun s' I'=>⟨_,H,I',h⟩) hf)
def gNil:TGs:=fun vs σ H Q=>vs=[]∧Q σ H
def z9N (t:TG) (u:TGs):TGs:=fun vs σ H Q=>∃v r,vs=v :: r∧t v σ H fun σ' H'=>u r σ' H' Q
theorem qx:PGs X [] gNil:=by
 intro pins s σ H vs us Q I r h
 obtain ⟨e,h⟩:=h
 subst e
 cases r
 exact assignInOrder_nil ⟨σ,H,I,h⟩
theorem zr {e:Expr} {es:List Expr} {t:TG} {u:TGs} (h1:PG X e t) (h2:PGs X es u)
  (hs:autoParam ((assignEach (e :: es) X.env).map (·.2)=assign e X.env :: (assignEach es X.env).map (·.2)) aR._auto_1):PGs X (e :: es) (z9N t u):=by
 intro pins s σ H vs us Q I r h
 obtain ⟨v,vr,e1,h⟩:=h
 subst e1
 cases r with
 | cons r rr=>
  rw [hs]
  refine assignInOrder_cons (thn (h1 pins s σ H _ _ _ I r h) fun _ s1 zz=>?_)
  obtain ⟨σ1,H1,I1,q1⟩:=zz
  exact h2 pins s1 σ1 H1 _ _ Q I1 rr q1
def gTup (K:kC) (n:Nat) (t:TGs):TG:=fun v σ H Q=>∃a xs,v=.ref a∧SqT K H a xs∧xs.length=n∧t xs σ H Q
theorem jc {es:List Expr} {k:Nat} {t:TGs} {n:Nat} (hc:X.calm=true) (h:PGs X es t)
  (hn:autoParam ((assignEach es X.env).length=n) aR._auto_1) (hst:autoParam ((assignEach es X.env).findIdx? (·.1)=none) aR._auto_1):PG X (.Tuple es k pos) (gTup X.K n t):=by
 intro pins s σ H v u Q I r hw
 obtain ⟨a,xs,e1,hq,hl,hw⟩:=hw
 subst e1
 cases r
 obtain ⟨its,rv,ht,hz⟩:=I.tuple hq
 refine assign_Tuple_tuple (I.ok.hd hc) ht (by simp [hn,←hl,rv.length]) hst fun h' hx=>?_
 have I1:Inv X pins σ H { s with heap:=h' }:=I.kept (t':=s.toks) fun b o e=>hx b o (Nat.ne_of_lt (Heap.lt_size e)) e
 exact h pins _ σ H xs _ Q I1 (by simpa using rv) hw
def gSub (to ti:TE) (t:TSet):TG:=fun v σ H Q=>to σ H fun o H1=>ti σ H1 fun i H2=>t o i v H2 fun H3=>Q σ H3
theorem Jd {o i:Expr} {to ti:TE} {t:TSet} (ho:PE X o to) (hi:PE X i ti) (hs:PSet X t)
  (ha:∀v,assign (.Subscript o i pos) X.env v=(do
   let ov ←holding [v] (eval o X.env)
   let iv ←holding [v,ov] (eval i X.env)
   standAt pos
   holding [v,ov,iv] (setItem ov iv v)
   release [v,ov,iv] []):=by intro _;rfl):PG X (.Subscript o i pos) (gSub to ti t):=by
 intro pins s σ H v u Q I r h
 rw [ha]
 refine wpAny_bind (wpAny_holding (thn (ho pins s σ H _ I h) fun ov s1 zz=>?_))
 obtain ⟨x,H1,I1,r1,q1⟩:=zz
 refine wpAny_bind (wpAny_holding (thn (hi pins s1 σ H1 _ I1 q1) fun iv s2 zz=>?_))
 obtain ⟨y,H2,I2,r2,q2⟩:=zz
 refine wpAny_bind (wpAny_standAt (wpAny_bind (wpAny_holding (thn (hs pins s2 σ H2 x y v ov iv u _ I2 r1 r2 r q2) fun _ s3 zz=>?_))))
 obtain ⟨H3,I3,q3⟩:=zz
 exact wpAny_release ⟨σ,H3,I3,q3⟩
def tAsg (te:TE) (g:TG):TS:=fun D σ H=>te σ H fun x H1=>g x σ H1 D.nx
theorem jb {tg e:Expr} {te:TE} {g:TG} (he:PE X e te) (hg:PG X tg g) (hs:autoParam (swapsWithSole [tg] e pos.line X.env=pure false) aR._auto_1) (hw:autoParam (swappedStores [tg] e X.env=pure none) aR._auto_1)
  (h1:autoParam ((assignEach [tg] X.env).map (·.2)=[assign tg X.env]) aR._auto_1):PS X (.Assign [tg] e pos) (tAsg te g):=by
 intro pins s σ H D I h
 refine wpAny_Assign_stores (thn (he pins s σ H _ I h) fun v s1 ⟨x,H1,I1,r1,q1⟩=>?_) hs hw
 rw [h1]
 exact thn (hg pins s1 σ H1 x v _ I1 r1 q1) fun _ s2 q=>q
theorem zG {i:Nat} {x:Str} {e:Expr} {te:TE} {pos':Pos} (hN:X.N.Nodup) (hi:X.N[i]?=some x) (hx:Loc X.env.scope x) (he:PE X e te) (hs:autoParam (swapsWith e (some (.Name x pos')) pos.line X.env=pure false) aR._auto_1) (hf:X.fn x=true∨X.env.scope.names.lookup x=some .local:=by first | exact .inl rfl | exact .inr rfl | assumption):
  PS X (.Assign [.Name x pos'] e pos) (tAsg te (z3F i)):=by
 intro pins s σ H D I h
 refine wpAny_Assign_Name (thn (he pins s σ H _ I h) fun v s1 ⟨y,H1,I1,r1,q1⟩=>?_) hs
 exact ZA I1 hN hi hx r1 (fun s2 I2=>⟨_,H1,I2,q1⟩) hf
def tPar (i j:Nat) (ta:TA):TS:=fun D σ H=>ta σ H fun vs H1=>∃v w,vs=[v,w]∧D.nx ((σ.set i (some v)).set j (some w)) H1
theorem Qb {i j:Nat} {x y:Str} {a b:Expr} {ta:TA} {px py pt:Pos} {kt k2 pt2} (hc:X.calm=true) (hN:X.N.Nodup) (hi:X.N[i]?=some x) (hj:X.N[j]?=some y) (hij:i≠j)
  (hx:X.env.scope.names.lookup x=some .local) (hy:X.env.scope.names.lookup y=some .local) (ha:PA X [a,b] ta)
  (hw:swappedStores [.Tuple [.Name x px,.Name y py] kt pt] (.Tuple [a,b] k2 pt2) X.env=pure (some [x,y]))
  (hs:autoParam (swapsWithSole [.Tuple [.Name x px,.Name y py] kt pt] (.Tuple [a,b] k2 pt2) pos.line X.env=pure false) aR._auto_1):
  PS X (.Assign [.Tuple [.Name x px,.Name y py] kt pt] (.Tuple [a,b] k2 pt2) pos) (tPar i j ta):=by
 intro pins s σ H D I h
 rw [exec_Assign_arm]
 refine wpAny_bind (wpAny_standAt ?_)
 rw [hs]
 refine wpAny_bind (wpAny_pure ?_)
 rw [kD (by decide)]
 refine wpAny_bind (Tuple_ (thn (ha _ pins s σ H _ I h) fun us s1 zz=>?_))
 obtain ⟨vs,H1,I1,r1,q1⟩:=zz
 obtain ⟨v,w,e1,q1⟩:=q1
 subst e1
 obtain ⟨u1,u2,rfl,rv,rw'⟩:∃u1 u2,us=[u1,u2]∧RelV v u1∧RelV w u2:=by
  cases r1 with
  | cons p q=>
   cases q with
   | cons p' q'=>
    cases q'
    exact ⟨_,_,rfl,p,p'⟩
 refine wpAny_newObj_type ?_ (by show 2≤sizeLine;decide)
 have I2:Inv X pins σ H1 { s1 with heap:=s1.heap.push { cls:=.type "tuple",data:=.seq [u1,u2].toArray } }:=I1.kept (t':=s1.toks) fun b o e=>Heap.get?_push_of_some _ e
 rw [hw]
 refine wpAny_bind (wpAny_pure ?_)
 show wpAny (model X.prog X.w) X.A (do rule "assign.swapped-stores";let items ←unpackItems (.ref s1.heap.objs.size) 2 none;assignInOrder [fun v=>bindName X.env y v,fun v=>bindName X.env x v] items.reverse;pure Flow.next) _ _ _
 refine wpAny_bind (wpAny_rule (wpAny_bind (unpackItems_tuple (items:=#[u1,u2]) (I.ok.hd hc) (IsTup.new s1.heap _) fun h' hx'=>?_)))
 have I3:=I2.kept (h':=h') (t':=s1.toks) fun b o e=>hx' b o (Nat.ne_of_lt (Heap.lt_size e)) e
 show wpAny _ _ (assignInOrder [fun v=>bindName X.env y v,fun v=>bindName X.env x v] [u2,u1] >>= fun _=>pure Flow.next) _ _ _
 refine wpAny_bind (assignInOrder_cons (wpAny_bindName (ZA I3 hN hj (.inl hy) rw' (fun s2 I4=>?_) (.inr hy))))
 refine assignInOrder_cons (wpAny_bindName (ZA I4 hN hi (.inl hx) rv (fun s3 I5=>assignInOrder_nil (wpAny_pure ?_)) (.inr hx)))
 rw [List.set_comm _ _ (Ne.symm hij)] at I5
 exact ⟨_,H1,I5,q1⟩
def tAug (i:Nat) (te:TE) (ti:TIp):TS:=fun D σ H=>∃x,σ[i]?=some (some x)∧te σ H fun y H1=>ti x y H1 fun z H2=>D.nx (σ.set i (some z)) H2
theorem z8h {i:Nat} {x:Str} {e:Expr} {te:TE} {op:Operator} {ti:TIp} {pos':Pos} (hN:X.N.Nodup) (hi:X.N[i]?=some x) (hx:Loc X.env.scope x) (he:PE X e te) (ho:PIp X op ti) (hf:X.fn x=true∨X.env.scope.names.lookup x=some .local:=by first | exact .inl rfl | exact .inr rfl | assumption):
  PS X (.AugAssign (.Name x pos') op e pos) (tAug i te ti):=by
 intro pins s σ H D I h
 obtain ⟨v,e1,h⟩:=h
 obtain ⟨m,hn,hl⟩:=I.loc
 have vis:Vis X.env.scope x:=by rcases hx with k | k;exact .inl k;exact .inr (.inl k)
 obtain ⟨u,r,l⟩:=hl i x v hi e1 vis
 refine wpAny_AugAssign_Name ?_
 have go:wpAny (model X.prog X.w) X.A (eval e X.env) (fun w s₂=>wpAny (model X.prog X.w) X.A (inplaceOp op u w) (fun r s₃=>wpAny (model X.prog X.w) X.A (storeName X.env x r) (fun _=>SP X pins D .next) X.xe s₃) X.xe s₂) X.xe s:=by
  refine thn (he pins s σ H _ I h) fun w s1 zz=>?_
  obtain ⟨y,H1,I1,r1,q1⟩:=zz
  refine thn (ho pins s1 σ H1 v y u w _ I1 r r1 q1) fun z s2 zz=>?_
  obtain ⟨zv,H2,I2,r2,q2⟩:=zz
  exact ZA I2 hN hi hx r2 (fun s3 I3=>⟨_,H2,I3,q2⟩) hf
 rcases l with ⟨hk,hm⟩ | ⟨hk,c,hc,hcell⟩
 ·exact wpAny_loadName_local I.ok.kind hk hn hm go
 ·rcases hk with hk | hk
  ·exact wpAny_loadName_cell I.ok.kind hk hc hcell go
  ·rcases hx with k | k
   ·have:X.env.scope.names.lookup x=some .free:=hk
    rw [k] at this;cases this
   ·have:X.env.scope.names.lookup x=some .free:=hk
    rw [k] at this;cases this
def ipI (f:Int→Int→Int):TIp:=fun x y H Q=>∃i j,x=.int i∧y=.int j∧Q (.int (f i j)) H
theorem z8H:PIp X .Add (ipI fun i j=>i+j):=by
 intro pins s σ H x y v u Q I r1 r2 h
 obtain ⟨i,j,e1,e2,q⟩:=h
 subst e1;subst e2
 obtain ⟨t,rfl⟩:=r1
 obtain ⟨t',rfl⟩:=r2
 exact iadd_int ⟨.int _,H,I.tok _,⟨_,rfl⟩,q⟩
end
section
variable {X:Cx} {pos:Pos}
def z7I (c:TT) (tb:TS):TS:=fun D σ H=>∃W:Nat→St→Hp→Prop,(∃m,W m σ H)∧∀m σ H,W m σ H→
 c σ H fun b H1=>if b=true then ∃N:St→Hp→Prop,(∀σ' H',N σ' H'→∃m',m' < m∧W m' σ' H')∧tb { D with nx:=N,ct:=N,bk:=D.nx } σ H1 else D.nx σ H1
theorem z1B {c:Expr} {body:List Stmt} {tc:TT} {tb:TS} (hp:PassesOwn (model X.prog X.w) X.A X.env X.xe) (hc:PT X c tc) (hb:PSs X body tb):PS X (.While c body [] pos) (z7I tc tb):=by
 intro pins s σ H D I h
 obtain ⟨W,⟨m0,w0⟩,turn⟩:=h
 refine wpAny_While (codeAny_whileLoop (fun n s'=>∃σ' H',Inv X pins σ' H' s'∧W n σ' H') ?_ m0 ⟨σ,H,I,w0⟩)
 rintro n s1 ⟨σ1,H1,I1,w1⟩
 refine wpAny_passesOwn hp (thn (hc pins s1 σ1 H1 _ I1 (turn n σ1 H1 w1)) fun b s2 zz=>?_)
 obtain ⟨H2,I2,q2⟩:=zz
 cases b with
 | true=>
  obtain ⟨N,hN,q2⟩:=q2
  rw [kE rfl]
  refine wpAny_passesOwn hp (thn (hb pins s2 σ1 H2 _ I2 q2) fun f s3 q3=>?_)
  cases f with
  | next=>
   obtain ⟨σ3,H3,I3,n3⟩:=q3
   obtain ⟨m',hm,w3⟩:=hN σ3 H3 n3
   exact ⟨m',hm,σ3,H3,I3,w3⟩
  | cont=>
   obtain ⟨σ3,H3,I3,n3⟩:=q3
   obtain ⟨m',hm,w3⟩:=hN σ3 H3 n3
   exact ⟨m',hm,σ3,H3,I3,w3⟩
  | brk=>exact q3
  | ret v=>exact q3
 | false=>
  rw [kD ke]
  exact wpAny_execs_nil ⟨σ1,H2,I2,q2⟩
end
structure It where
 go:Nat→Hp→Prop
 yld:Nat→Hp→V→Hp→Prop
 stop:Nat→Hp→Prop
def FpOk (X:Cx) (pins:List (Addr × Obj)) (H:Hp) (b:Addr):Prop:=
 H b=none∧b≠X.env.locals∧b∉X.fs∧(b∈X.ex∨X.s₀.heap.objs.size≤b)∧(∀x c,X.env.cells.lookup x=some c→c≠b)∧∀p∈X.pn++pins,p.1≠b
theorem Inv.fpOk {X:Cx} {pins:List (Addr × Obj)} {σ:St} {H H':Hp} {s:Shared} {b:Addr} (I:Inv X pins σ H s) (hb:s.heap.objs.size≤b) (hn:H' b=none):FpOk X pins H' b:=by
 refine ⟨hn,Nat.ne_of_gt (kP I.lt hb),I.nofs hb,.inr (kz I.sz hb),fun x c e z=>?_,fun p hp z=>?_⟩
 ·obtain ⟨v,q⟩:=I.cell x c e
  exact absurd (kP q.lt (by rw [z];exact hb)) (Nat.lt_irrefl _)
 ·exact absurd (kP (Heap.lt_size (I.pin p hp).1) (by rw [z];exact hb)) (Nat.lt_irrefl _)
structure Turn (P:Program) (w:World) (K:kC) (tg:Expr) (J:It) (fp:List Addr) (it:Addr) (tn:Nat→Heap→Prop):Prop where
 mem:it∈fp
 obj:∀i h,tn i h→∀b∈fp,∃o,h.get? b=some o∧∀v,o.data≠.cell v
 keep:∀i h h',tn i h→(∀b∈fp,∀o,h.get? b=some o→h'.get? b=some o)→tn i h'
 item:∀(X:Cx),X.prog=P→X.w=w→X.K=K→X.calm=true→∀(i:Nat) (pins:List (Addr × Obj)) (s:Shared) (σ:St) (H:Hp) (E:Value→Shared→Prop),Inv X pins σ H s→(∀b∈fp,FpOk X pins H b)→tn i s.heap→J.go i H→
  wpAny (model P w) X.A (pyNext (.ref it)) (fun r s1=>∃u,r=some u∧
   wpAny (model P w) X.A (letOwnedTupleGo tg (.ref it) u) (fun _ s2=>∃x H',Inv X pins σ H' s2∧RelV x u∧J.yld i H x H'∧tn (i+1) s2.heap∧∀b∈fp,H' b=none) E s1) E s
 done:∀(X:Cx),X.prog=P→X.w=w→X.K=K→X.calm=true→∀(i:Nat) (pins:List (Addr × Obj)) (s:Shared) (σ:St) (H:Hp) (E:Value→Shared→Prop),Inv X pins σ H s→(∀b∈fp,FpOk X pins H b)→tn i s.heap→J.stop i H→
  wpAny (model P w) X.A (pyNext (.ref it)) (fun r s1=>r=none∧Inv X pins σ H s1) E s
 self:∀(A:Around) (i:Nat) (s:Shared) (Q:Value→Shared→Prop) (E:Value→Shared→Prop),tn i s.heap→Q (.ref it) s→wpAny (model P w) A (pyIter (.ref it)) Q E s
abbrev TI:=St→Hp→(It→Hp→Prop)→Prop
def PIE (X:Cx) (pins:List (Addr × Obj)) (σ:St) (tg:Expr) (R:It→Hp→Prop) (itv:Value) (s2:Shared):Prop:=
 ∃(it:Addr) (fp:List Addr) (tn:Nat→Heap→Prop) (J:It) (H':Hp),itv=.ref it∧Inv X pins σ H' s2∧Turn X.prog X.w X.K tg J fp it tn∧tn 0 s2.heap∧(∀b∈fp,FpOk X pins H' b)∧R J H'
def PI (X:Cx) (tg iter:Expr) (wi:TI):Prop:=
 ∀(pins:List (Addr × Obj)) (s:Shared) (σ:St) (H:Hp) (R:It→Hp→Prop),Inv X pins σ H s→wi σ H R→
  wpAny (model X.prog X.w) X.A (eval iter X.env) (fun v s1=>wpAny (model X.prog X.w) X.A (pyIter v) (PIE X pins σ tg R) X.xe s1) X.xe s
theorem z6W {M:Model} {A:Around} {E:Value→Shared→Prop} {s:Shared} {tg:Expr} {it:Addr} {u:Value} {o:Obj} {n:String} {vs:Array Value} {Q:Unit→Shared→Prop} (ho:s.heap.get? it=some o) (hc:o.cls=.type n) (hd:o.data=.fields vs)
  (hn:["enumerate","zip","dict_itemiterator","dict_reverseitemiterator","odict_iterator","itertools.zip_longest","itertools.pairwise"].contains n=false) (hQ:Q () s):wpAny M A (letOwnedTupleGo tg (.ref it) u) Q E s:=by
 unfold letOwnedTupleGo
 cases tg <;> first
  | exact wpAny_pure hQ
  | (cases u <;> first
    | exact wpAny_pure hQ
    | (refine wpAny_bind (wpAny_load ho ?_);rw [hc,hd];show wpAny M A (if (["enumerate","zip","dict_itemiterator","dict_reverseitemiterator","odict_iterator","itertools.zip_longest","itertools.pairwise"].contains n&&vs[0]? == some (rawInt _))=true then _ else _) Q E s;rw [kD (by intro h;rw [hn,Bool.false_and] at h;cases h)];exact wpAny_pure hQ))
noncomputable def Itl (K:kC) (a:Addr):It:=
 ⟨fun i H=>∃xs x,SqL K H a xs∧xs[i]?=some x,fun i H x H'=>H'=H∧∀xs,SqL K H a xs→xs[i]?=some x,fun i H=>∃xs,SqL K H a xs∧xs.length≤i⟩
noncomputable def Itt (K:kC) (a:Addr):It:=
 ⟨fun i H=>∃xs x,SqT K H a xs∧xs[i]?=some x,fun i H x H'=>H'=H∧∀xs,SqT K H a xs→xs[i]?=some x,fun i H=>∃xs,SqT K H a xs∧xs.length≤i⟩
noncomputable def Itr (lo:Int) (n:Nat):It:=⟨fun i _=>i < n,fun i H x H'=>H'=H∧x=.int (lo+i),fun i _=>n≤i⟩
theorem z2K {P:Program} {w:World} {K:kC} {tg:Expr} (a it:Addr):Turn P w K tg (Itl K a) [it] it (fun i h=>h.IsListIter it a i) where
 mem:=by simp
 obj:=fun i h st b hb=>by
  have e:b=it:=by simpa using hb
  subst e
  obtain ⟨o,e,c,d⟩:=st
  exact ⟨o,e,fun v z=>by rw [d] at z;cases z⟩
 keep:=fun i h h' st k=>st.at fun o e=>k it (by simp) o e
 item:=by
  intro X hP hw hK hc i pins s σ H E I hf st hg
  subst hP hw hK
  obtain ⟨xs,x,hq,hx⟩:=hg
  obtain ⟨its,rv,p,hz⟩:=I.list hq
  obtain ⟨u,hu,ru⟩:=rv.get hx
  obtain ⟨f0,f1,f2,f3,f4,f5⟩:=hf it (by simp)
  refine wpAny_pyNext_list_item st p.isList (x:=u) (by simpa using hu) fun h' st' sb=>?_
  have I1:Inv X pins σ H { s with heap:=h' }:=I.turned (t':=s.toks) (fun b o hb e=>(sb.2 b hb).trans e) f0 f1 f3 f4 f5
  obtain ⟨o,e,c,d⟩:=id st'
  exact ⟨u,rfl,z6W (s:={ s with heap:=h' }) e c d (by decide) ⟨x,H,I1,ru,⟨rfl,fun ys hy=>by rw [I.list_inj hy hq];exact hx⟩,st',fun b hb=>(hf b hb).1⟩⟩
 done:=by
  intro X hP hw hK hc i pins s σ H E I hf st hg
  subst hP hw hK
  obtain ⟨xs,hq,hx⟩:=hg
  obtain ⟨its,rv,p,hz⟩:=I.list hq
  obtain ⟨f0,f1,f2,f3,f4,f5⟩:=hf it (by simp)
  have hl:=rv.length
  exact wpAny_pyNext_list_end (I.ok.hd hc) st p.isList (by simp;lia) fun h' eb=>⟨rfl,I.turned (t':=s.toks) (fun b o hb e=>eb b o hb e) f0 f1 f3 f4 f5⟩
 self:=fun _ _ _ _ _ st h=>wpAny_pyIter_listiter st h
theorem z23 {P:Program} {w:World} {K:kC} {tg:Expr} (a it:Addr):Turn P w K tg (Itt K a) [it] it (fun i h=>h.IsTupleIter it a i) where
 mem:=by simp
 obj:=fun i h st b hb=>by
  have e:b=it:=by simpa using hb
  subst e
  obtain ⟨o,e,c,d⟩:=st
  exact ⟨o,e,fun v z=>by rw [d] at z;cases z⟩
 keep:=fun i h h' st k=>st.at fun o e=>k it (by simp) o e
 item:=by
  intro X hP hw hK hc i pins s σ H E I hf st hg
  subst hP hw hK
  obtain ⟨xs,x,hq,hx⟩:=hg
  obtain ⟨its,rv,p,hz⟩:=I.tuple hq
  obtain ⟨u,hu,ru⟩:=rv.get hx
  obtain ⟨f0,f1,f2,f3,f4,f5⟩:=hf it (by simp)
  refine wpAny_pyNext_tuple_item st (show s.heap.IsTuple a its.toArray from p) (x:=u) (by simpa using hu) fun h' st' sb=>?_
  have I1:Inv X pins σ H { s with heap:=h' }:=I.turned (t':=s.toks) (fun b o hb e=>(sb.2 b hb).trans e) f0 f1 f3 f4 f5
  obtain ⟨o,e,c,d⟩:=id st'
  exact ⟨u,rfl,z6W (s:={ s with heap:=h' }) e c d (by decide) ⟨x,H,I1,ru,⟨rfl,fun ys hy=>by rw [I.tuple_inj hy hq];exact hx⟩,st',fun b hb=>(hf b hb).1⟩⟩
 done:=by
  intro X hP hw hK hc i pins s σ H E I hf st hg
  subst hP hw hK
  obtain ⟨xs,hq,hx⟩:=hg
  obtain ⟨its,rv,p,hz⟩:=I.tuple hq
  obtain ⟨f0,f1,f2,f3,f4,f5⟩:=hf it (by simp)
  have hl:=rv.length
  exact wpAny_pyNext_tuple_end (I.ok.hd hc) st (show s.heap.IsTuple a its.toArray from p) (by simp;lia) fun h' eb=>⟨rfl,I.turned (t':=s.toks) (fun b o hb e=>eb b o hb e) f0 f1 f3 f4 f5⟩
 self:=fun _ _ _ _ _ st h=>wpAny_pyIter_tupleiter st h
theorem z24 {P:Program} {w:World} {K:kC} {tg:Expr} (it:Addr) (lo:Int) (n:Nat):Turn P w K tg (Itr lo n) [it] it (fun i h=>IsRangeIter h it (lo+(i:Nat) * 1) ((n:Int) - (i:Nat)) 1) where
 mem:=by simp
 obj:=fun i h st b hb=>by
  have e:b=it:=by simpa using hb
  subst e
  exact ⟨_,st,fun v z=>by
   have z':Data.fields _=Data.cell v:=z
   cases z'⟩
 keep:=fun i h h' st k=>k it (by simp) _ st
 item:=by
  intro X hP hw hK hc i pins s σ H E I hf st hg
  subst hP hw hK
  obtain ⟨f0,f1,f2,f3,f4,f5⟩:=hf it (by simp)
  have W:=Walks.range (prog:=X.prog) (w:=X.w) (I.ok.hd hc) it lo 1 n
  refine W.item i s _ _ hg st fun v h' tk hv st' kk=>?_
  obtain ⟨t,rfl⟩:=hv
  have I1:Inv X pins σ H { s with heap:=h',toks:=tk }:=I.turned (fun b o hb e=>kk b o (by simpa using hb) e) f0 f1 f3 f4 f5
  refine ⟨_,rfl,z6W (s:={ s with heap:=h',toks:=tk }) (n:="range_iterator") st' rfl rfl (by decide) ⟨.int (lo+i),H,I1,⟨t,?_⟩,⟨rfl,rfl⟩,st',fun b hb=>(hf b hb).1⟩⟩
  rw [Int.mul_one]
 done:=by
  intro X hP hw hK hc i pins s σ H E I hf st hg
  subst hP hw hK
  obtain ⟨f0,f1,f2,f3,f4,f5⟩:=hf it (by simp)
  exact wpAny_pyNext_range_end (I.ok.hd hc) st (by have:n≤i:=hg;lia) fun h' eb=>⟨rfl,I.turned (t':=s.toks) (fun b o hb e=>eb b o hb e) f0 f1 f3 f4 f5⟩
 self:=fun _ _ _ _ _ st h=>wpAny_pyIter_rangeiter st h
end L2
namespace L2
open PySem PySem.Spec PyProof.Rows
section
variable {X:Cx} {tg:Expr}
def z9J (K:kC) (tl:TE):TI:=fun σ H R=>tl σ H fun x H1=>∃a,x=.ref a∧(∃xs,SqL K H1 a xs)∧R (Itl K a) H1
def iTup (K:kC) (tl:TE):TI:=fun σ H R=>tl σ H fun x H1=>∃a,x=.ref a∧(∃xs,SqT K H1 a xs)∧R (Itt K a) H1
theorem Jw {l:Expr} {tl:TE} (hl:PE X l tl):PI X tg l (z9J X.K tl):=by
 intro pins s σ H R I h
 refine thn (hl pins s σ H _ I h) fun v s1 zz=>?_
 obtain ⟨x,H1,I1,r1,q1⟩:=zz
 obtain ⟨a,e,⟨xs,hq⟩,q⟩:=q1
 subst e
 cases r1
 obtain ⟨its,rv,p,hz⟩:=I1.list hq
 refine wpAny_pyIter_list p.isList ?_
 refine ⟨s1.heap.objs.size,[s1.heap.objs.size],_,_,H1,rfl,I1.kept (t':=s1.toks) fun b o e=>Heap.get?_push_of_some _ e,z2K a _,⟨_,Heap.get?_push_size _ rfl,rfl,rfl⟩,fun b hb=>?_,q⟩
 have e:b=s1.heap.objs.size:=by simpa using hb
 subst e
 exact I1.fpOk (kh _) (I1.hok.fresh (kh _))
theorem z8k {l:Expr} {tl:TE} (hl:PE X l tl):PI X tg l (iTup X.K tl):=by
 intro pins s σ H R I h
 refine thn (hl pins s σ H _ I h) fun v s1 zz=>?_
 obtain ⟨x,H1,I1,r1,q1⟩:=zz
 obtain ⟨a,e,⟨xs,hq⟩,q⟩:=q1
 subst e
 cases r1
 obtain ⟨its,rv,p,hz⟩:=I1.tuple hq
 refine wpAny_pyIter_tuple (show s1.heap.IsTuple a its.toArray from p) ?_
 refine ⟨s1.heap.objs.size,[s1.heap.objs.size],_,_,H1,rfl,I1.kept (t':=s1.toks) fun b o e=>Heap.get?_push_of_some _ e,z23 a _,⟨_,Heap.get?_push_size _ rfl,rfl,rfl⟩,fun b hb=>?_,q⟩
 have e:b=s1.heap.objs.size:=by simpa using hb
 subst e
 exact I1.fpOk (kh _) (I1.hok.fresh (kh _))
theorem z4C {pins:List (Addr × Obj)} {σ:St} {H:Hp} {s:Shared} {R:It→Hp→Prop} {E:Value→Shared→Prop} {lo hi:Int} {t u v:Tok} {tk:Nat} (I:Inv X pins σ H s) (h1: -(2 ^ 62)≤lo) (h2:lo < 2 ^ 62) (h3: -(2 ^ 62)≤hi) (h4:hi < 2 ^ 62)
  (q:R (Itr lo (hi - lo).toNat) H):wpAny (model X.prog X.w) X.A (pyIter (.ref s.heap.objs.size)) (PIE X pins σ tg R) E { s with heap:=s.heap.push { cls:=.type "range",data:=.fields #[.int lo t,.int hi u,.int 1 v] },toks:=tk }:=by
 refine wpAny_pyIter_range (IsRange.new ..) (small_one h1 h2 h3 h4) ?_
 have I1:Inv X pins σ H { s with heap:=s.heap.push { cls:=.type "range",data:=.fields #[.int lo t,.int hi u,.int 1 v] },toks:=tk }:=I.kept fun b o e=>Heap.get?_push_of_some _ e
 refine ⟨(s.heap.push { cls:=.type "range",data:=.fields #[.int lo t,.int hi u,.int 1 v] }).objs.size,[(s.heap.push { cls:=.type "range",data:=.fields #[.int lo t,.int hi u,.int 1 v] }).objs.size],_,_,H,rfl,
  I1.kept (t':=tk) fun b o e=>Heap.get?_push_of_some _ e,z24 _ lo (hi - lo).toNat,?_,fun b hb=>?_,q⟩
 ·have e1:lo+((0:Nat):Int) * 1=lo:=by simp
  have e2:(((hi - lo).toNat:Nat):Int) - ((0:Nat):Int)=Builtin.Range.rangeSize lo hi 1:=by rw [rangeSize_one];split <;> lia
  show IsRangeIter _ _ (lo+((0:Nat):Int) * 1) ((((hi - lo).toNat:Nat):Int) - ((0:Nat):Int)) 1
  rw [e1,e2]
  exact Heap.get?_push_size _ rfl
 ·have e:b=(s.heap.push { cls:=.type "range",data:=.fields #[.int lo t,.int hi u,.int 1 v] }).objs.size:=by simpa using hb
  subst e
  exact I1.fpOk (kh _) (I1.hok.fresh (kh _))
def z8I (ta:TA):TI:=fun σ H R=>ta σ H fun vs H1=>∃j:Int,vs=[.int j]∧-(2 ^ 62)≤j∧j < 2 ^ 62∧R (Itr 0 j.toNat) H1
theorem jO {a:Expr} {ta:TA} {p pos:Pos} (hg:Gl X "range") (hm:X.mg "range"=none) (ha:PA X [a] ta) (hs:autoParam (starEach [a] X.env=[(false,eval a X.env)]) aR._auto_1):PI X tg (.Call (.Name "range" p) [a] [] pos) (z8I ta):=by
 intro pins s σ H R I h
 refine Call_ (z0m I hg hm boot_range (PyProof.Rows.callWith_type1 (thn (ha pos pins s σ H _ I h) fun us s1 ⟨vs,H1,I1,r1,q1⟩=>?_) hs rfl))
 obtain ⟨j,e,q1,q2,q⟩:=q1
 subst e
 cases r1 with
 | cons r rr=>
  cases rr
  obtain ⟨t,rfl⟩:=r
  exact call_range_1 (z4C I1 (by lia) (by lia) q1 q2 (by simpa using q))
def tFor (wi:TI) (g:TG) (tb:TS):TS:=fun D σ H=>wi σ H fun J H1=>∃W:Nat→Nat→St→Hp→Prop,(∃m,W 0 m σ H1)∧∀i m σ H,W i m σ H→
 (J.stop i H∧D.nx σ H)∨(J.go i H∧∃N:St→Hp→Prop,(∀σ' H',N σ' H'→∃m',m' < m∧W (i+1) m' σ' H')∧∀x H',J.yld i H x H'→g x σ H' fun σ2 H2=>tb { D with nx:=N,ct:=N,bk:=D.nx } σ2 H2)
noncomputable def z09 (fp:List Addr) (h:Heap):List (Addr × Obj):=fp.filterMap fun b=>(h.get? b).map fun o=>(b,o)
theorem Z3 {fp:List Addr} {h:Heap} {b:Addr} {o:Obj} (hb:b∈fp) (e:h.get? b=some o):(b,o)∈z09 fp h:=List.mem_filterMap.mpr ⟨b,hb,by rw [e];rfl⟩
theorem z3p {fp:List Addr} {h:Heap} {p:Addr × Obj} (hp:p∈z09 fp h):p.1∈fp∧h.get? p.1=some p.2:=by
 obtain ⟨b,hb,e⟩:=List.mem_filterMap.mp hp
 cases q:h.get? b with
 | none=>rw [q] at e;cases e
 | some o=>
  rw [q] at e
  have e':(b,o)=p:=kF e
  subst e'
  exact ⟨hb,q⟩
theorem Inv.pinned {pins:List (Addr × Obj)} {σ:St} {H:Hp} {s:Shared} {fp:List Addr} (I:Inv X pins σ H s) (hf:∀b∈fp,FpOk X pins H b) (ho:∀b∈fp,∃o,s.heap.get? b=some o∧∀v,o.data≠.cell v):Inv X (pins++z09 fp s.heap) σ H s:=
 I.pins_of fun p hp=>(kX.mp hp).elim (fun z=>I.pin p (kQ _ z)) fun z=>by
  obtain ⟨hb,e⟩:=z3p z
  obtain ⟨f0,f1,f2,_⟩:=hf p.1 hb
  obtain ⟨o,e',d⟩:=ho p.1 hb
  rw [e] at e';cases e'
  exact ⟨e,f0,f1,f2,d⟩
theorem Inv.unpinned {pins pl:List (Addr × Obj)} {σ:St} {H:Hp} {s:Shared} (I:Inv X (pins++pl) σ H s):Inv X pins σ H s:=I.pins_of fun p hp=>I.pin p (kQ _ (kR _ hp))
theorem Zb {iter:Expr} {body:List Stmt} {wi:TI} {g:TG} {tb:TS} {pos:Pos} (hp:PassesOwn (model X.prog X.w) X.A X.env X.xe) (hc:X.calm=true) (hi:PI X tg iter wi) (hg:PG X tg g) (hb:PSs X body tb)
  (hs:∀x,foldedSetIterable iter X.env x=pure x:=by intro _;rfl):PS X (.For tg iter body [] pos) (tFor wi g tb):=by
 intro pins s σ H D I h
 refine wpAny_For (thn (hi pins s σ H _ I h) fun v s1 h1=>thn h1 fun itv s2 h2=>?_) hs
 obtain ⟨it,fp,tn,J,H2,e,I2,T,st2,f2,W,⟨m0,w0⟩,turn⟩:=h2
 subst e
 have stat:∀{H':Hp},(∀b∈fp,H' b=none)→∀b∈fp,FpOk X pins H' b:=fun hn b hb=>⟨hn b hb,(f2 b hb).2⟩
 refine codeAny_forLoop_any (fun n s'=>∃i σ' H',Inv X pins σ' H' s'∧tn i s'.heap∧(∀b∈fp,H' b=none)∧W i n σ' H') ?_ m0 ⟨0,σ,H2,I2,st2,fun b hb=>(f2 b hb).1,w0⟩
 rintro n s3 ⟨i,σ3,H3,I3,st3,fr3,w3⟩
 rcases turn i n σ3 H3 w3 with ⟨stop,qn⟩ | ⟨go,N,hN,step⟩
 ·refine wpAny_passesOwn hp (thn (T.done X rfl rfl rfl hc i pins s3 σ3 H3 X.xe I3 (stat fr3) st3 stop) fun r s4 zz=>?_)
  obtain ⟨hr,I4⟩:=zz
  subst hr
  exact wpAny_execs_nil ⟨σ3,H3,I4,qn⟩
 ·refine wpAny_passesOwn hp (thn (T.item X rfl rfl rfl hc i pins s3 σ3 H3 X.xe I3 (stat fr3) st3 go) fun r s4 zz=>?_)
  obtain ⟨u,hr,h4⟩:=zz
  subst hr
  refine wpAny_passesOwn hp (thn h4 fun _ s5 zz=>?_)
  obtain ⟨x,H5,I5,r5,y5,st5,fr5⟩:=zz
  have I5':=I5.pinned (stat fr5) (T.obj _ _ st5)
  refine wpAny_passesOwn hp (thn (hg _ s5 σ3 H5 x u _ I5' r5 (step x H5 y5)) fun _ s6 zz=>?_)
  obtain ⟨σ6,H6,I6,q6⟩:=zz
  refine wpAny_passesOwn hp (thn (hb _ s6 σ6 H6 _ I6 q6) fun f s7 q7=>?_)
  have again:∀{σ7:St} {H7:Hp},Inv X (pins++z09 fp s5.heap) σ7 H7 s7→N σ7 H7→∃m,m < n∧∃i σ' H',Inv X pins σ' H' s7∧tn i s7.heap∧(∀b∈fp,H' b=none)∧W i m σ' H':=fun {σ7 H7} I7 n7=>by
   obtain ⟨m',hm,w7⟩:=hN σ7 H7 n7
   refine ⟨m',hm,i+1,σ7,H7,I7.unpinned,T.keep _ _ _ st5 fun b hb o e=>(I7.pin (b,o) (kQ _ (kQ _ (Z3 hb e)))).1,fun b hb=>?_,w7⟩
   obtain ⟨o,e,d⟩:=T.obj _ _ st5 b hb
   exact (I7.pin (b,o) (kQ _ (kQ _ (Z3 hb e)))).2.1
  cases f with
  | next=>obtain ⟨σ7,H7,I7,n7⟩:=q7;exact again I7 n7
  | cont=>obtain ⟨σ7,H7,I7,n7⟩:=q7;exact again I7 n7
  | brk=>obtain ⟨σ7,H7,I7,q7⟩:=q7;exact ⟨σ7,H7,I7.unpinned,q7⟩
  | ret v=>obtain ⟨x7,σ7,H7,I7,r7,q7⟩:=q7;exact ⟨x7,σ7,H7,I7.unpinned,r7,q7⟩
end
theorem z1R {K:kC} {a:Addr} {xs:List V} {g:TG} {tb:TS} {D:Ends} {σ:St} {H:Hp} (Pv:Nat→St→Hp→Prop) (h0:Pv 0 σ H) (hl:∀i σ H,i≤xs.length→Pv i σ H→SqL K H a xs)
  (hs:∀i x σ H,xs[i]?=some x→Pv i σ H→g x σ H fun σ2 H2=>tb { D with nx:=Pv (i+1),ct:=Pv (i+1),bk:=D.nx } σ2 H2) (hd:∀σ H,Pv xs.length σ H→D.nx σ H):
  ∃W:Nat→Nat→St→Hp→Prop,(∃m,W 0 m σ H)∧∀i m σ H,W i m σ H→
   ((Itl K a).stop i H∧D.nx σ H)∨((Itl K a).go i H∧∃N:St→Hp→Prop,(∀σ' H',N σ' H'→∃m',m' < m∧W (i+1) m' σ' H')∧∀x H',(Itl K a).yld i H x H'→g x σ H' fun σ2 H2=>tb { D with nx:=N,ct:=N,bk:=D.nx } σ2 H2):=by
 refine ⟨fun i m σ H=>m=xs.length - i∧i≤xs.length∧Pv i σ H,⟨xs.length,by simp,Nat.zero_le _,h0⟩,?_⟩
 rintro i m σ H ⟨rfl,hi,p⟩
 have q:=hl i σ H hi p
 by_cases hlt:i < xs.length
 ·refine .inr ⟨⟨xs,xs[i],q,by simp [hlt]⟩,Pv (i+1),fun σ' H' p'=>⟨xs.length - (i+1),by lia,rfl,hlt,p'⟩,fun x H' y=>?_⟩
  obtain ⟨e,y⟩:=y
  subst e
  exact hs i x σ _ (y xs q) p
 ·have e:i=xs.length:=by lia
  subst e
  exact .inl ⟨⟨xs,q,kh _⟩,hd σ H p⟩
theorem z6Y {K:kC} {a:Addr} {xs:List V} {g:TG} {tb:TS} {D:Ends} {σ:St} {H:Hp} (Pv:Nat→St→Hp→Prop) (h0:Pv 0 σ H) (hl:∀i σ H,i≤xs.length→Pv i σ H→SqT K H a xs)
  (hs:∀i x σ H,xs[i]?=some x→Pv i σ H→g x σ H fun σ2 H2=>tb { D with nx:=Pv (i+1),ct:=Pv (i+1),bk:=D.nx } σ2 H2) (hd:∀σ H,Pv xs.length σ H→D.nx σ H):
  ∃W:Nat→Nat→St→Hp→Prop,(∃m,W 0 m σ H)∧∀i m σ H,W i m σ H→
   ((Itt K a).stop i H∧D.nx σ H)∨((Itt K a).go i H∧∃N:St→Hp→Prop,(∀σ' H',N σ' H'→∃m',m' < m∧W (i+1) m' σ' H')∧∀x H',(Itt K a).yld i H x H'→g x σ H' fun σ2 H2=>tb { D with nx:=N,ct:=N,bk:=D.nx } σ2 H2):=by
 refine ⟨fun i m σ H=>m=xs.length - i∧i≤xs.length∧Pv i σ H,⟨xs.length,by simp,Nat.zero_le _,h0⟩,?_⟩
 rintro i m σ H ⟨rfl,hi,p⟩
 have q:=hl i σ H hi p
 by_cases hlt:i < xs.length
 ·refine .inr ⟨⟨xs,xs[i],q,by simp [hlt]⟩,Pv (i+1),fun σ' H' p'=>⟨xs.length - (i+1),by lia,rfl,hlt,p'⟩,fun x H' y=>?_⟩
  obtain ⟨e,y⟩:=y
  subst e
  exact hs i x σ _ (y xs q) p
 ·have e:i=xs.length:=by lia
  subst e
  exact .inl ⟨⟨xs,q,kh _⟩,hd σ H p⟩
theorem jU {lo:Int} {n:Nat} {g:TG} {tb:TS} {D:Ends} {σ:St} {H:Hp} (Pv:Nat→St→Hp→Prop) (h0:Pv 0 σ H)
  (hs:∀i σ H,i < n→Pv i σ H→g (.int (lo+i)) σ H fun σ2 H2=>tb { D with nx:=Pv (i+1),ct:=Pv (i+1),bk:=D.nx } σ2 H2) (hd:∀σ H,Pv n σ H→D.nx σ H):
  ∃W:Nat→Nat→St→Hp→Prop,(∃m,W 0 m σ H)∧∀i m σ H,W i m σ H→
   ((Itr lo n).stop i H∧D.nx σ H)∨((Itr lo n).go i H∧∃N:St→Hp→Prop,(∀σ' H',N σ' H'→∃m',m' < m∧W (i+1) m' σ' H')∧∀x H',(Itr lo n).yld i H x H'→g x σ H' fun σ2 H2=>tb { D with nx:=N,ct:=N,bk:=D.nx } σ2 H2):=by
 refine ⟨fun i m σ H=>m=n - i∧i≤n∧Pv i σ H,⟨n,by simp,Nat.zero_le _,h0⟩,?_⟩
 rintro i m σ H ⟨rfl,hi,p⟩
 by_cases hlt:i < n
 ·refine .inr ⟨hlt,Pv (i+1),fun σ' H' p'=>⟨n - (i+1),by lia,rfl,hlt,p'⟩,fun x H' y=>?_⟩
  obtain ⟨e,y⟩:=y
  subst e y
  exact hs i σ _ hlt p
 ·have e:i=n:=by lia
  subst e
  exact .inl ⟨kh _,hd σ H p⟩
end L2
namespace L2
open PySem PySem.Spec PyProof.Rows
abbrev R2:=V→V→Hp→VK→Prop
def OpR (X:Cx) (f:Value→Value→Sem Value) (r:R2):Prop:=
 ∀(pins:List (Addr × Obj)) (s:Shared) (σ:St) (H:Hp) (x y:V) (v u:Value) (Q:VK),Inv X pins σ H s→RelV x v→RelV y u→r x y H Q→
  wpAny (model X.prog X.w) X.A (f v u) (EP X pins σ Q) X.xe s
def UnR (X:Cx) (f:Value→Sem Value) (r:V→Hp→VK→Prop):Prop:=
 ∀(pins:List (Addr × Obj)) (s:Shared) (σ:St) (H:Hp) (x:V) (v:Value) (Q:VK),Inv X pins σ H s→RelV x v→r x H Q→
  wpAny (model X.prog X.w) X.A (f v) (EP X pins σ Q) X.xe s
def Z8 (X:Cx) (f:Value) (r:List V→Hp→VK→Prop):Prop:=
 ∀(pins:List (Addr × Obj)) (s:Shared) (σ:St) (H:Hp) (xs:List V) (us:List Value) (Q:VK),Inv X pins σ H s→Vals xs us→r xs H Q→
  wpAny (model X.prog X.w) X.A (call f us) (EP X pins σ Q) X.xe s
def TruR (X:Cx) (r:V→Hp→(Bool→Hp→Prop)→Prop):Prop:=
 ∀(pins:List (Addr × Obj)) (s:Shared) (σ:St) (H:Hp) (x:V) (v:Value) (Q:Bool→Hp→Prop),Inv X pins σ H s→RelV x v→r x H Q→
  wpAny (model X.prog X.w) X.A (truthy v) (TP X pins σ Q) X.xe s
def tOp (r:R2) (ta tb:TE):TE:=fun σ H Q=>ta σ H fun x H1=>tb σ H1 fun y H2=>r x y H2 Q
def tUn (r:V→Hp→VK→Prop) (ta:TE):TE:=fun σ H Q=>ta σ H fun x H1=>r x H1 Q
def rI (C:Int→Int→Prop) (g:Int→Int→V):R2:=fun x y H Q=>∃i j,x=.int i∧y=.int j∧C i j∧Q (g i j) H
def rI0 (g:Int→Int→V):R2:=fun x y H Q=>∃i j,x=.int i∧y=.int j∧Q (g i j) H
def rU (g:Int→V):V→Hp→VK→Prop:=fun x H Q=>∃i,x=.int i∧Q (g i) H
section
variable {X:Cx} {a b c:Expr} {ta tb tc:TE} {pos:Pos}
theorem binT (ha:PE X a ta) (hb:PE X b tb) {pins:List (Addr × Obj)} {s:Shared} {σ:St} {H:Hp} {R:V→V→Hp→Prop} (I:Inv X pins σ H s)
  (h:ta σ H fun x H1=>tb σ H1 fun y H2=>R x y H2) {Q:Value→Shared→Prop} {f:Value→Value→Sem Value}
  (hf:∀v u s2 x y H2,Inv X pins σ H2 s2→RelV x v→RelV y u→R x y H2→wpAny (model X.prog X.w) X.A (f v u) Q X.xe s2):
  wpAny (model X.prog X.w) X.A (eval a X.env) (fun v s₁=>wpAny (model X.prog X.w) X.A (eval b X.env) (fun u s₂=>wpAny (model X.prog X.w) X.A (f v u) Q X.xe s₂) X.xe s₁) X.xe s:=by
 refine thn (ha pins s σ H _ I h) fun v s1 zz=>?_
 obtain ⟨x,H1,I1,r1,q1⟩:=zz
 refine thn (hb pins s1 σ H1 _ I1 q1) fun u s2 zz=>?_
 obtain ⟨y,H2,I2,r2,q2⟩:=zz
 exact hf v u s2 x y H2 I2 r1 r2 q2
theorem zO {op:Operator} {r:R2} (ho:OpR X (binaryOp op) r) (ha:PE X a ta) (hb:PE X b tb):PE X (.BinOp a op b pos) (tOp r ta tb):=by
 intro pins s σ H Q I h
 exact wpAny_BinOp (binT ha hb I h fun v u s2 x y H2 I2 rx ry q=>ho pins s2 σ H2 x y v u Q I2 rx ry q)
theorem Z7 {op:UnaryOp} {r:V→Hp→VK→Prop} (ho:UnR X (unaryOp op) r) (ha:PE X a ta):PE X (.UnaryOp op a pos) (tUn r ta):=by
 intro pins s σ H Q I h
 exact UnaryOp_ (thn (ha pins s σ H _ I h) fun v s1 ⟨x,H1,I1,r1,q1⟩=>ho pins s1 σ H1 x v Q I1 r1 q1)
theorem opI {f:Value→Value→Sem Value} {C:Int→Int→Prop} {g:Int→Int→Int}
  (rule:∀(i j:Int) (t u:Tok) (s:Shared) (Q:Value→Shared→Prop) (E:Value→Shared→Prop),C i j→Q (.int (g i j) s.toks) { s with toks:=s.toks+1 }→wpAny (model X.prog X.w) X.A (f (.int i t) (.int j u)) Q E s):
  OpR X f (rI C fun i j=>.int (g i j)):=by
 intro pins s σ H x y v u Q I rx ry h
 obtain ⟨i,j,rfl,rfl,hc,q⟩:=h
 obtain ⟨t,rfl⟩:=rx
 obtain ⟨t',rfl⟩:=ry
 exact rule i j t t' s _ _ hc ⟨.int (g i j),H,I.tok _,⟨_,rfl⟩,q⟩
theorem opI0 {f:Value→Value→Sem Value} {g:Int→Int→Int}
  (rule:∀(i j:Int) (t u:Tok) (s:Shared) (Q:Value→Shared→Prop) (E:Value→Shared→Prop),Q (.int (g i j) s.toks) { s with toks:=s.toks+1 }→wpAny (model X.prog X.w) X.A (f (.int i t) (.int j u)) Q E s):
  OpR X f (rI0 fun i j=>.int (g i j)):=by
 intro pins s σ H x y v u Q I rx ry h
 obtain ⟨i,j,rfl,rfl,q⟩:=h
 obtain ⟨t,rfl⟩:=rx
 obtain ⟨t',rfl⟩:=ry
 exact rule i j t t' s _ _ ⟨.int (g i j),H,I.tok _,⟨_,rfl⟩,q⟩
theorem opB0 {f:Value→Value→Sem Value} {g:Int→Int→Bool}
  (rule:∀(i j:Int) (t u:Tok) (s:Shared) (Q:Value→Shared→Prop) (E:Value→Shared→Prop),Q (.bool (g i j)) s→wpAny (model X.prog X.w) X.A (f (.int i t) (.int j u)) Q E s):
  OpR X f (rI0 fun i j=>.bl (g i j)):=by
 intro pins s σ H x y v u Q I rx ry h
 obtain ⟨i,j,rfl,rfl,q⟩:=h
 obtain ⟨t,rfl⟩:=rx
 obtain ⟨t',rfl⟩:=ry
 exact rule i j t t' s _ _ ⟨.bl (g i j),H,I,rfl,q⟩
def CDiv (i j:Int):Prop:=0 < j∧j < 1073741824
def CPow (i j:Int):Prop:=0≤j∧j≤1000000∧i.natAbs < 2 ^ 64
def CMul (i j:Int):Prop:=(-(2 ^ 64) < i∧i < 2 ^ 64)∨(-(2 ^ 64) < j∧j < 2 ^ 64)
theorem CMul.ok {i j:Int} (h:CMul i j):IntMulOk i j:=by
 rcases h with ⟨h1,h2⟩ | ⟨h1,h2⟩
 ·exact .of_left (intBits_le_64 h1 h2)
 ·exact .of_right (intBits_le_64 h1 h2)
theorem je:OpR X (binaryOp .Add) (rI0 fun i j=>.int (i+j)):=opI0 fun _ _ _ _ _ _ _ q=>add_int q
theorem j4:OpR X (binaryOp .Sub) (rI0 fun i j=>.int (i - j)):=opI0 fun _ _ _ _ _ _ _ q=>sub_int q
theorem z0e:OpR X (binaryOp .Mult) (rI CMul fun i j=>.int (i * j)):=opI fun _ _ _ _ _ _ _ hc q=>mul_int q hc.ok
theorem QM:OpR X (binaryOp .FloorDiv) (rI CDiv fun i j=>.int (i / j)):=opI fun i j _ _ _ _ _ hc q=>by
 have h1:(0:Int) < j:=hc.1
 have h2:j < 1073741824:=hc.2
 exact floordiv_int (by lia) (by rw [Int.fdiv_eq_ediv_of_nonneg i (by lia)];exact q) (.inl (PyProof.noPylong_small (by lia)))
theorem QL:OpR X (binaryOp .Mod) (rI (fun _ j=>0 < j) fun i j=>.int (i % j)):=opI fun i j _ _ _ _ _ hc q=>by
 have h1:(0:Int) < j:=hc
 exact mod_int' (by lia) (by rw [Int.fmod_eq_emod_of_nonneg i (by lia)];exact q)
theorem z6I:OpR X (binaryOp .Mod) (rI (fun _ j=>j≠0) fun i j=>.int (i.fmod j)):=opI fun _ _ _ _ _ _ _ hc q=>mod_int' hc q
theorem z3m:OpR X (binaryOp .Pow) (rI CPow fun i j=>.int (i ^ j.toNat)):=opI fun _ _ _ _ _ _ _ hc q=>pow_int_small hc.1 hc.2.1 hc.2.2 q
theorem unI {f:Value→Sem Value} {g:Int→Int}
  (rule:∀(i:Int) (t:Tok) (s:Shared) (Q:Value→Shared→Prop) (E:Value→Shared→Prop),Q (.int (g i) s.toks) { s with toks:=s.toks+1 }→wpAny (model X.prog X.w) X.A (f (.int i t)) Q E s):
  UnR X f (rU fun i=>.int (g i)):=by
 intro pins s σ H x v Q I rx h
 obtain ⟨i,rfl,q⟩:=h
 obtain ⟨t,rfl⟩:=rx
 exact rule i t s _ _ ⟨.int (g i),H,I.tok _,⟨_,rfl⟩,q⟩
theorem qY:UnR X (unaryOp .USub) (rU fun i=>.int (-i)):=unI fun _ _ _ _ _ q=>neg_int q
end
noncomputable def scal:V→V→Bool
 | .non,.non=>true | .non,.int _=>true | .int _,.non=>true | .non,.bl _=>true | .bl _,.non=>true | .non,.str _=>true | .str _,.non=>true
 | .int _,.int _=>true | .bl _,.bl _=>true | .str _,.str _=>true | .byt _,.byt _=>true
 | .int _,.str _=>true | .str _,.int _=>true | .bl _,.str _=>true | .str _,.bl _=>true
 | _,_=>false
def rEq:R2:=fun x y H Q=>scal x y=true∧Q (.bl (decide (x=y))) H
def rNe:R2:=fun x y H Q=>scal x y=true∧Q (.bl (!decide (x=y))) H
theorem z40 {i j:Int}:decide (V.int i=V.int j)=(i == j):=by
 rw [Bool.eq_iff_iff]
 simp
theorem z0A {i j:Bool}:decide (V.bl i=V.bl j)=(i == j):=by
 rw [Bool.eq_iff_iff]
 simp
theorem z3Z {i j:Str}:decide (V.str i=V.str j)=(i == j):=by
 rw [Bool.eq_iff_iff]
 simp
theorem z41 {i j:Array UInt8}:decide (V.byt i=V.byt j)=(i.toList == j.toList):=by
 rw [Bool.eq_iff_iff]
 cases i
 cases j
 simp
section
variable {X:Cx} {a b c:Expr} {ta tb tc:TE} {pos:Pos}
theorem zN {pins:List (Addr × Obj)} {σ:St} {H:Hp} {s:Shared} {Q:VK} {k k':Bool} (I:Inv X pins σ H s) (q:Q (.bl k) H) (e:k=k'):EP X pins σ Q (.bool k') s:=by
 subst e
 exact ⟨.bl k,H,I,rfl,q⟩
theorem qJ:OpR X (compareOp .Eq) rEq:=by
 intro pins s σ H x y v u Q I rx ry h
 obtain ⟨hs,q⟩:=h
 cases x with
 | non=>
  cases rx
  cases y with
  | non=>cases ry;exact PySem.EqNone.eq_none_none (zN I q (by simp))
  | bl j=>cases ry;exact PySem.EqNone.eq_none_bool (zN I q (by simp))
  | int j=>obtain ⟨t',rfl⟩:=ry;exact PySem.EqNone.eq_none_int (zN I q (by simp))
  | str j=>obtain ⟨t',rfl⟩:=ry;exact PySem.EqNone.eq_none_str (zN I q (by simp))
  | _=>exact absurd (show false=true from hs) ke
 | bl i=>
  cases rx
  cases y with
  | non=>cases ry;exact PySem.EqNone.eq_bool_none (zN I q (by simp))
  | bl j=>cases ry;exact eq_bool (zN I q z0A)
  | str j=>obtain ⟨t',rfl⟩:=ry;exact PySem.EqMixed.eq_bool_str (zN I q (by simp))
  | _=>exact absurd (show false=true from hs) ke
 | int i=>
  obtain ⟨t,rfl⟩:=rx
  cases y with
  | non=>cases ry;exact PySem.EqNone.eq_int_none (zN I q (by simp))
  | int j=>obtain ⟨t',rfl⟩:=ry;exact eq_int (zN I q z40)
  | str j=>obtain ⟨t',rfl⟩:=ry;exact PySem.EqMixed.eq_int_str (zN I q (by simp))
  | _=>exact absurd (show false=true from hs) ke
 | str i=>
  obtain ⟨t,rfl⟩:=rx
  cases y with
  | non=>cases ry;exact PySem.EqNone.eq_str_none (zN I q (by simp))
  | bl j=>cases ry;exact PySem.EqMixed.eq_str_bool (zN I q (by simp))
  | int j=>obtain ⟨t',rfl⟩:=ry;exact PySem.EqMixed.eq_str_int (zN I q (by simp))
  | str j=>obtain ⟨t',rfl⟩:=ry;exact eq_str (zN I q z3Z)
  | _=>exact absurd (show false=true from hs) ke
 | byt i=>
  obtain ⟨t,rfl⟩:=rx
  cases y with
  | byt j=>obtain ⟨t',rfl⟩:=ry;exact PySem.W.eq_bytes (zN I q z41)
  | _=>exact absurd (show false=true from hs) ke
 | _=>cases y <;> exact absurd (show false=true from hs) ke
theorem z0d:OpR X (compareOp .NotEq) rNe:=by
 intro pins s σ H x y v u Q I rx ry h
 obtain ⟨hs,q⟩:=h
 cases x with
 | non=>
  cases rx
  cases y with
  | non=>cases ry;exact PySem.EqNone.ne_none_none (zN I q (by simp))
  | bl j=>cases ry;exact PySem.EqNone.ne_none_bool (zN I q (by simp))
  | int j=>obtain ⟨t',rfl⟩:=ry;exact PySem.EqNone.ne_none_int (zN I q (by simp))
  | str j=>obtain ⟨t',rfl⟩:=ry;exact PySem.EqNone.ne_none_str (zN I q (by simp))
  | _=>exact absurd (show false=true from hs) ke
 | bl i=>
  cases rx
  cases y with
  | non=>cases ry;exact PySem.EqNone.ne_bool_none (zN I q (by simp))
  | bl j=>cases ry;exact ne_bool (zN I q (congrArg not z0A))
  | str j=>obtain ⟨t',rfl⟩:=ry;exact PySem.EqMixed.ne_bool_str (zN I q (by simp))
  | _=>exact absurd (show false=true from hs) ke
 | int i=>
  obtain ⟨t,rfl⟩:=rx
  cases y with
  | non=>cases ry;exact PySem.EqNone.ne_int_none (zN I q (by simp))
  | int j=>obtain ⟨t',rfl⟩:=ry;exact ne_int (zN I q (congrArg not z40))
  | str j=>obtain ⟨t',rfl⟩:=ry;exact PySem.EqMixed.ne_int_str (zN I q (by simp))
  | _=>exact absurd (show false=true from hs) ke
 | str i=>
  obtain ⟨t,rfl⟩:=rx
  cases y with
  | non=>cases ry;exact PySem.EqNone.ne_str_none (zN I q (by simp))
  | bl j=>cases ry;exact PySem.EqMixed.ne_str_bool (zN I q (by simp))
  | int j=>obtain ⟨t',rfl⟩:=ry;exact PySem.EqMixed.ne_str_int (zN I q (by simp))
  | str j=>obtain ⟨t',rfl⟩:=ry;exact ne_str (zN I q (congrArg not z3Z))
  | _=>exact absurd (show false=true from hs) ke
 | byt i=>
  obtain ⟨t,rfl⟩:=rx
  cases y with
  | byt j=>obtain ⟨t',rfl⟩:=ry;exact PySem.W.ne_bytes (zN I q (congrArg not z41))
  | _=>exact absurd (show false=true from hs) ke
 | _=>cases y <;> exact absurd (show false=true from hs) ke
theorem J4:OpR X (compareOp .Lt) (rI0 fun i j=>.bl (decide (i < j))):=opB0 fun _ _ _ _ _ _ _ q=>lt_int q
theorem z2f:OpR X (compareOp .LtE) (rI0 fun i j=>.bl (decide (i≤j))):=opB0 fun _ _ _ _ _ _ _ q=>le_int q
theorem JD:OpR X (compareOp .Gt) (rI0 fun i j=>.bl (decide (j < i))):=opB0 fun _ _ _ _ _ _ _ q=>gt_int q
theorem z9G:OpR X (compareOp .GtE) (rI0 fun i j=>.bl (decide (j≤i))):=opB0 fun _ _ _ _ _ _ _ q=>ge_int q
theorem Qd:OpR X (compareOp .Is) (fun x y H Q=>y=.non∧Q (.bl (decide (x=.non))) H):=by
 intro pins s σ H x y v u Q I rx ry h
 obtain ⟨rfl,q⟩:=h
 cases ry
 refine is_none_gen (zN I q ?_)
 cases x <;> first
  | (cases rx;rfl)
  | (obtain ⟨t,rfl⟩:=rx;rfl)
theorem JB:OpR X (compareOp .IsNot) (fun x y H Q=>y=.non∧Q (.bl (!decide (x=.non))) H):=by
 intro pins s σ H x y v u Q I rx ry h
 obtain ⟨rfl,q⟩:=h
 cases ry
 refine isnot_none_gen (zN I q ?_)
 cases x <;> first
  | (cases rx;rfl)
  | (obtain ⟨t,rfl⟩:=rx;rfl)
theorem zq (b:Expr) {op:CmpOp} (h:autoParam (op≠.In) aR._auto_2) (h2:autoParam (op≠.NotIn) aR._auto_2):behindInMarks op b=false:=by
 have e1:(op == CmpOp.In)=false:=by cases op <;> first | rfl | exact absurd rfl h
 have e2:(op == CmpOp.NotIn)=false:=by cases op <;> first | rfl | exact absurd rfl h2
 cases b <;> simp [behindInMarks,e1,e2]
theorem qI {op:CmpOp} {r:R2} (ho:OpR X (compareOp op) r) (ha:PE X a ta) (hb:PE X b tb) (hm:behindInMarks op b=false):PE X (.Compare a [op] [b] pos) (tOp r ta tb):=by
 intro pins s σ H Q I h
 exact wpAny_Compare1 (binT ha hb I h fun v u s2 x y H2 I2 rx ry q=>ho pins s2 σ H2 x y v u Q I2 rx ry q) hm
def z9i (t:TE):TT:=fun σ H Q=>t σ H fun x H'=>∃k,x=.bl k∧Q k H'
theorem zm {op:CmpOp} {r:R2} (ho:OpR X (compareOp op) r) (ha:PE X a ta) (hb:PE X b tb) (hm:behindInMarks op b=false):PT X (.Compare a [op] [b] pos) (z9i (tOp r ta tb)):=by
 intro pins s σ H Q I h
 refine wpAny_isTrue_Compare1 (thn (ha pins s σ H _ I h) fun v s1 ⟨x,H1,I1,r1,q1⟩=>thn (hb pins s1 σ H1 _ I1 q1) fun u s2 ⟨y,H2,I2,r2,q2⟩=>
  thn (ho pins s2 σ H2 x y v u _ I2 r1 r2 q2) fun c s3 ⟨z,H3,I3,r3,k,e,q3⟩=>?_) hm
 subst e
 cases r3
 exact wpAny_truthy_bool ⟨H3,I3,q3⟩
def z7V (r r':R2) (ta tb tc:TE):TE:=fun σ H Q=>ta σ H fun x H1=>tb σ H1 fun y H2=>r x y H2 fun z H3=>∃k,z=.bl k∧
 (if k=true then tc σ H3 fun w' H4=>r' y w' H4 Q else Q (.bl false) H3)
theorem Jz {op op':CmpOp} {r r':R2} (ho:OpR X (compareOp op) r) (ho':OpR X (compareOp op') r') (ha:PE X a ta) (hb:PE X b tb) (hc:PE X c tc)
  (hm:lastMarks [op,op'] [b,c]=false:=by with_unfolding_all rfl):PE X (.Compare a [op,op'] [b,c] pos) (z7V r r' ta tb tc):=by
 intro pins s σ H Q I h
 refine Compare_chain (thn (ha pins s σ H _ I h) fun v s1 ⟨x,H1,I1,r1,q1⟩=>chain_link (thn (hb pins s1 σ H1 _ I1 q1) fun u s2 ⟨y,H2,I2,r2,q2⟩=>
  thn (ho pins s2 σ H2 x y v u _ I2 r1 r2 q2) fun d s3 ⟨z,H3,I3,r3,k,e,q3⟩=>?_)) hm
 subst e
 cases r3
 refine wpAny_truthy_bool ?_
 cases k with
 | false=>exact ite_ff ⟨.bl false,H3,I3,rfl,q3⟩
 | true=>exact ite_tt (chain_last (thn (hc pins s3 σ H3 _ I3 q3) fun w' s4 ⟨z',H4,I4,r4,q4⟩=>ho' pins s4 σ H4 y z' u w' Q I4 r2 r4 q4))
def TruV (K:kC) (x:V) (H:Hp) (k:Bool):Prop:=
 match x with
 | .non=>k=false
 | .bl b=>k=b
 | .int i=>k=(i != 0)
 | .str y=>y.length≤sizeLine∧k=((y.length:Int) != 0)
 | .byt y=>y.size≤sizeLine∧k=((y.size:Int) != 0)
 | .ref p=>(∃xs,SqL K H p xs∧k= !xs.isEmpty)∨(∃xs,SqT K H p xs∧k= !xs.isEmpty)∨∃kvs,H p=some (.dK kvs)∧k= !kvs.isEmpty
 | _=>False
theorem z2r {κ:Type} {kvs:List (κ × V)} {vs:List (κ × Value)} (r:KV kvs vs):(!vs.isEmpty)= !kvs.isEmpty:=by
 cases r <;> rfl
theorem Jf {xs:List V} {its:List Value} (r:Vals xs its):(!its.toArray.isEmpty)= !xs.isEmpty:=by
 cases r <;> simp
theorem QQ:(sizeLine:Nat) < 2 ^ 63:=by rw [sizeLine_eq];decide
theorem z7H:TruR X (fun x H Q=>∃k,TruV X.K x H k∧Q k H):=by
 intro pins s σ H x v Q I rx h
 obtain ⟨k,e,q⟩:=h
 have hl:=QQ
 have hs:sizeLine=16777216:=sizeLine_eq
 cases x with
 | non=>
  cases rx
  have e':k=false:=e
  subst e'
  exact truthy_none ⟨H,I,q⟩
 | bl b=>
  cases rx
  have e':k=b:=e
  subst e'
  exact wpAny_truthy_bool ⟨H,I,q⟩
 | int i=>
  obtain ⟨t,rfl⟩:=rx
  have e':k=(i != 0):=e
  subst e'
  exact PySem.P.truthy_int ⟨H,I,q⟩
 | str y=>
  obtain ⟨t,rfl⟩:=rx
  obtain ⟨hy,e'⟩:y.length≤sizeLine∧k=((y.length:Int) != 0):=e
  subst e'
  exact PySem.P.truthy_str (by lia) ⟨H,I.tok _,q⟩
 | byt y=>
  obtain ⟨t,rfl⟩:=rx
  obtain ⟨hy,e'⟩:y.size≤sizeLine∧k=((y.size:Int) != 0):=e
  subst e'
  exact PySem.W.truthy_bytes (by lia) ⟨H,I.tok _,q⟩
 | ref p=>
  cases rx
  have e':(∃xs,SqL X.K H p xs∧k= !xs.isEmpty)∨(∃xs,SqT X.K H p xs∧k= !xs.isEmpty)∨∃kvs,H p=some (.dK kvs)∧k= !kvs.isEmpty:=e
  rcases e' with ⟨xs,hx,e'⟩ | ⟨xs,hx,e'⟩ | ⟨kvs,hx,e'⟩
  ·subst e'
   obtain ⟨its,r,pl,hz⟩:=I.list hx
   have hlen:=r.length
   exact wpAny_truthy_list pl.isList (by simp only [kI];lia) ⟨H,I.tok _,by rw [Jf r];exact q⟩
  ·subst e'
   obtain ⟨its,r,pl,hz⟩:=I.tuple hx
   have hlen:=r.length
   exact truthy_tuple pl (by simp only [kI];lia) ⟨H,I.tok _,by rw [Jf r];exact q⟩
  ·subst e'
   obtain ⟨hz,hS,vs,r,m⟩:kvs.length≤sizeLine∧(p == sysModules)=false∧∃vs,KV kvs vs∧s.heap.DictOf (zM X.prog X.w) p vs:=I.hok p _ hx
   have hlen:kvs.length=vs.length:=Paired.length r
   exact wpAny_truthy_dict hS m (by lia) ⟨H,I.tok _,by rw [z2r r];exact q⟩
 | _=>exact (show False from e).elim
theorem Qw (ha:PE X a ta) (he:∀whole,isTrue a X.env whole=(do let v ←whole;standAt a.pos;holding [v] (truthy v))):
  PT X a (fun σ H Q=>ta σ H fun x H'=>∃k,TruV X.K x H' k∧Q k H'):=by
 intro pins s σ H Q I h
 exact isTrue_plain (thn (ha pins s σ H _ I h) fun v s1 ⟨x,H1,I1,r1,q1⟩=>z7H pins s1 σ H1 x v Q I1 r1 q1) (he _)
theorem QD {x:V} {us:List Value} (r:Vals [x] us):∃u,us=[u]∧RelV x u:=by
 cases r with
 | cons r1 r2=>cases r2;exact ⟨_,rfl,r1⟩
theorem z6e {x y:V} {us:List Value} (r:Vals [x,y] us):∃u w',us=[u,w']∧RelV x u∧RelV y w':=by
 cases r with
 | cons r1 r2=>
  cases r2 with
  | cons r3 r4=>cases r4;exact ⟨_,_,rfl,r1,r3⟩
theorem z5y:Z8 X (.builtin "abs") (fun xs H Q=>∃i,xs=[.int i]∧Q (.int (if i < 0 then -i else i)) H):=by
 intro pins s σ H xs us Q I r h
 obtain ⟨i,rfl,q⟩:=h
 obtain ⟨u,rfl,t,rfl⟩:=QD r
 exact call_abs_int fun u tk=>⟨.int (if i < 0 then -i else i),H,I.tok _,⟨_,rfl⟩,q⟩
theorem z4b (hc:X.calm=true):Z8 X (.builtin "max") (fun xs H Q=>∃i j,xs=[.int i,.int j]∧Q (.int (if j > i then j else i)) H):=by
 intro pins s σ H xs us Q I r h
 obtain ⟨i,j,rfl,q⟩:=h
 obtain ⟨u,w',rfl,⟨t,rfl⟩,⟨t',rfl⟩⟩:=z6e r
 refine max_two_ints (I.ok.hd hc) fun h' tk k=>⟨_,H,I.kept k,?_,q⟩
 by_cases hj:j > i
 ·rw [kE hj,kE hj];exact ⟨_,rfl⟩
 ·rw [kD hj,kD hj];exact ⟨_,rfl⟩
theorem z0G (hc:X.calm=true):Z8 X (.builtin "min") (fun xs H Q=>∃i j,xs=[.int i,.int j]∧Q (.int (if j < i then j else i)) H):=by
 intro pins s σ H xs us Q I r h
 obtain ⟨i,j,rfl,q⟩:=h
 obtain ⟨u,w',rfl,⟨t,rfl⟩,⟨t',rfl⟩⟩:=z6e r
 refine min_two_ints (I.ok.hd hc) fun h' tk k=>⟨_,H,I.kept k,?_,q⟩
 by_cases hj:j < i
 ·rw [kE hj,kE hj];exact ⟨_,rfl⟩
 ·rw [kD hj,kD hj];exact ⟨_,rfl⟩
end
end L2
namespace L2
open PySem PySem.Spec PyProof.Rows
structure ObjM (h:Heap) (x dx C:Addr) (mA:Str→Option Value):Prop where
 obj:h.get? x=some (PySem.W.instObj C dx)
 ns:h.Ns1 dx mA
 ne:dx≠x
theorem z3t {h:Heap} {dx:Addr} {mA:Str→Option Value} (n:h.Ns1 dx mA):∃od,h.get? dx=some od∧∀name,PySem.W.lookIn name od=some (mA name):=by
 obtain ⟨o,es,ep,ho,hd,hk,_,hm⟩:=n
 refine ⟨o,ho,fun name=>?_⟩
 have e:=hm name
 unfold nsFind findBy at e
 rw [←Array.find?_toList] at e
 unfold PySem.W.lookIn
 rw [hd]
 dsimp only
 split
 ·rename_i y q
  rw [q] at e
  exact congrArg some e
 ·rename_i q
  rw [q] at e
  have a:es.toList.any (·.refKey)=false:=by
   rw [List.any_eq_false]
   intro y hy
   obtain ⟨z,t,hkey⟩:=hk y (Array.mem_toList_iff.mp hy)
   simp [DictEntry.refKey,hkey]
  have a':¬es.toList.any (·.refKey)=true:=by rw [a];exact ke
  rw [kD a']
  exact congrArg some e
theorem ObjM.look {h:Heap} {x dx C:Addr} {mA:Str→Option Value} (I:ObjM h x dx C mA):∃od,PySem.W.InstAt h x (PySem.W.instObj C dx) C (some od)∧∀name,PySem.W.lookIn name od=some (mA name):=
 let ⟨od,ho,hl⟩:=z3t I.ns
 ⟨od,⟨I.obj,rfl,rfl,ho⟩,hl⟩
section
variable {prog:Program} {w:World} {A:Around} {E:Value→Shared→Prop} {s:Shared} {K:kC} {x dx C f:Addr} {mA:Str→Option Value} {name:Str} {v:Value}
theorem z6X {expr:Bool} {Q:Value→Shared→Prop} (X:K.In s.heap) (I:ObjM s.heap x dx C mA) (hg:PySem.W.plainGet K C name=true) (hh:PySem.W.hasDictIn K C=true)
  (ha:PySem.W.findIn K (.ref C) name=some none) (hv:mA name=some v) (hv':PySem.W.handedIn v=true) (h:Q v { s with toks:=s.toks+1 }):
  wpAny (model prog w) A (getAttr (.ref x) name expr) Q E s:=by
 obtain ⟨od,J,hl⟩:=I.look
 exact PySem.W.get_value X J (PySem.W.plainGet_of hg).1 (PySem.W.findObj_own hh ha rfl (by rw [hl,hv])) hv' h
theorem z55 {pl:Sem Bool} {Q:Value × List Value→Shared→Prop} (X:K.In s.heap) (I:ObjM s.heap x dx C mA) (hg:PySem.W.plainGet K C name=true)
  (hf:PySem.W.findIn K (.ref C) name=some (some (.ref f))) (ht:PySem.W.isFn K (.ref f)=true) (hv:mA name=none) (h:Q (.ref f,[.ref x]) s):
  wpAny (model prog w) A (getMethod (.ref x) name pl) Q E s:=by
 obtain ⟨od,J,hl⟩:=I.look
 exact PySem.W.method_fn X J (PySem.W.plainGet_of hg).1 (PySem.W.plainGet_of hg).2 hf (beq_iff_eq.mp ht) (by show (PySem.W.lookIn name od).map (·.isSome)=some false;rw [hl,hv];rfl) h
theorem z6v {ns:List Str} {Q:Unit→Shared→Prop} (X:K.In s.heap) (I:ObjM s.heap x dx C mA)
  (hs:PySem.W.findIn K (.ref C) "__setattr__"=some (some (.builtin "object.__setattr__"))) (hp:PySem.W.plainOver K C=true) (ht:PySem.W.takerIn K C name=some none) (hh:PySem.W.hasDictIn K C=true)
  (hw:PySem.Within mA ns) (hsz:ns.length≤sizeLine)
  (h:∀h',ObjM h' x dx C (fun y=>if y=name then some v else mA y)→Heap.SameBut dx s.heap h'→Q () { s with heap:=h',toks:=s.toks+2 }):
  wpAny (model prog w) A (setAttr (.ref x) name v) Q E s:=by
 obtain ⟨od,J,hl⟩:=I.look
 refine PySem.W.set_plain X J hs (PySem.W.osa_open (s:={ s with toks:=s.toks+1 }) (r:=none) X J hp ht fun b=>?_)
 obtain ⟨cd,hc,hd'⟩:=PySem.W.any_some hh
 have hx:s.heap.get? x=some ⟨.ref C,some dx,.plain,#[]⟩:=I.obj
 refine wpAny_bind (wpAny_pure (wpAny_bind (wpAny_bind (wpAny_loadPart hx (wpAny_bind (PySem.W.Looks.here (s:={ s with toks:=s.toks+1 }) (PySem.W.looks_clsIn X hc) ?_))))))
 rw [hd']
 refine wpAny_pure (a:=some dx) (wpAny_bind (wpAny_pure (wpAny_bind ?_)))
 refine wpAny_nsSet1 (s:={ s with toks:=s.toks+1 }) I.ns fun h' hn2 hs2=>?_
 obtain ⟨oD,esD,epD,hoD,hdD,hcD⟩:=hn2.count (PySem.Within.cons name v hw)
 refine wpAny_bind (wpAny_lookBehind hoD (by rw [hdD];exact pastItsLine_dict (kz hcD (by rw [kS];lia))) ?_)
 exact wpAny_pure (h _ ⟨(hs2.2 _ (Ne.symm I.ne)).trans I.obj,hn2,I.ne⟩ hs2)
theorem z4S {R:Result→Shared→Prop} {vs:List Value} {kw:List (Str × Value)} (X:K.In s.heap) (hm:PySem.W.makesIn K C=true)
  (hi:PySem.W.findIn K (.ref C) "__init__"=some (some (.ref f))) (hf:PySem.W.typeIn K (.ref f)=some (.type "function"))
  (h:codeAny (model prog w) (A.under (.builtin "type.__call__" ⟨.ref C :: vs,kw⟩)) (.call (.ref f) ⟨.ref (s.heap.objs.size+1) :: vs,kw⟩) (PySem.W.InitBack (s.heap.objs.size+1) R)
   { s with heap:=(s.heap.push PySem.W.emptyDict).push (PySem.W.instObj C s.heap.objs.size) }):
  codeAny (model prog w) A (.call (.ref C) ⟨vs,kw⟩) R s:=by
 obtain ⟨hh,g,d,t,os⟩:=s
 exact PySem.W.make_core (PySem.W.makes_of X hm) (PySem.W.looks_findIn X hi) (fun self=>PySem.W.bind_fn X self hf) (.inl rfl) h
end
noncomputable def putF (f:Str) (v:V):List (Str × V)→List (Str × V)
 | []=>[(f,v)]
 | (g,x) :: r=>if g=f then (g,v) :: r else (g,x) :: putF f v r
theorem QP (f g:Str) (v:V):∀fs:List (Str × V),(putF f v fs).lookup g=if g=f then some v else fs.lookup g
 | []=>by
  show List.lookup g [(f,v)]=_
  by_cases h:g=f
  ·have hb:(g == f)=true:=beq_iff_eq.mpr h
   simp only [List.lookup,hb,kE h]
  ·have hb:(g == f)=false:=beq_eq_false_iff_ne.mpr h
   simp only [List.lookup,hb,kD h]
 | (k,x) :: r=>by
  have ih:=QP f g v r
  rw [show putF f v ((k,x) :: r)=(if k=f then (k,v) :: r else (k,x) :: putF f v r) from rfl]
  by_cases hk:k=f
  ·rw [kE hk]
   by_cases h:g=k
   ·have hb:(g == k)=true:=beq_iff_eq.mpr h
    simp only [List.lookup,hb,kE (h.trans hk)]
   ·have hb:(g == k)=false:=beq_eq_false_iff_ne.mpr h
    simp only [List.lookup,hb,kD (fun e:g=f=>h (e.trans hk.symm))]
  ·rw [kD hk]
   by_cases h:g=k
   ·have hb:(g == k)=true:=beq_iff_eq.mpr h
    simp only [List.lookup,hb,kD (fun e:g=f=>hk (h.symm.trans e))]
   ·have hb:(g == k)=false:=beq_eq_false_iff_ne.mpr h
    simp only [List.lookup,hb]
    exact ih
theorem QS (f:Str) (v:V):∀fs:List (Str × V),f∈(putF f v fs).map (·.1)∧∀g,g∈fs.map (·.1)→g∈(putF f v fs).map (·.1)
 | []=>⟨by simp [putF],fun g h=>by simp at h⟩
 | (k,x) :: r=>by
  obtain ⟨i1,i2⟩:=QS f v r
  rw [show putF f v ((k,x) :: r)=(if k=f then (k,v) :: r else (k,x) :: putF f v r) from rfl]
  by_cases hk:k=f
  ·rw [kE hk]
   subst hk
   exact ⟨by simp,fun g h=>by simpa using h⟩
  ·rw [kD hk]
   refine ⟨?_,fun g h=>?_⟩
   ·rw [kY]
    exact kW _ i1
   ·rw [kY] at h ⊢
    rcases kH.mp h with e | e
    ·exact kH.mpr (.inl e)
    ·exact kW _ (i2 g e)
theorem QR (f:Str) (v:V):∀fs:List (Str × V),(putF f v fs).length≤fs.length+1
 | []=>by simp [putF]
 | (k,x) :: r=>by
  have ih:=QR f v r
  rw [show putF f v ((k,x) :: r)=(if k=f then (k,v) :: r else (k,x) :: putF f v r) from rfl]
  by_cases hk:k=f
  ·rw [kE hk,kS,kS];lia
  ·rw [kD hk,kS,kS];lia
theorem RelO.some_of {v:V} {o:Option Value} (r:RelO (some v) o):∃u,o=some u∧RelV v u:=by
 cases o with
 | none=>exact (show False from r).elim
 | some u=>exact ⟨u,rfl,r⟩
theorem RelO.none_of {o:Option Value} (r:RelO none o):o=none:=by
 cases o with
 | none=>rfl
 | some u=>exact (show False from r).elim
theorem z3C {v:V} {u:Value} (r:RelV v u):PySem.W.handedIn u=true:=by
 cases v with
 | non=>cases (show u=Value.none from r);rfl
 | bl b=>cases (show u=Value.bool b from r);rfl
 | int i=>obtain ⟨t,e⟩:=(show ∃t,u=Value.int i t from r);cases e;rfl
 | str x=>obtain ⟨t,e⟩:=(show ∃t,u=Value.str x t from r);cases e;rfl
 | byt b=>obtain ⟨t,e⟩:=(show ∃t,u=Value.bytes b t from r);cases e;rfl
 | flt b=>obtain ⟨t,e⟩:=(show ∃t,u=Value.float b t from r);cases e;rfl
 | ref a=>cases (show u=Value.ref a from r);rfl
 | ty n=>cases (show u=Value.type n from r);rfl
section
variable {P:Program} {w:World} {H H':Hp} {h h':Heap} {a C dx:Addr} {fs fs':List (Str × V)}
theorem JM (hok:HOk P w H h) (e:H a=some (.ins C dx fs)):∃mA,ObjM h a dx C mA∧(∀f,RelO (fs.lookup f) (mA f))∧PySem.Within mA (fs.map (·.1))∧fs.length≤1000∧H dx=some (.own a):=by
 obtain ⟨d,z,ne,ob,mA,n,r,q⟩:=(show qz P w H h a (.ins C dx fs) from hok a _ e)
 exact ⟨mA,⟨ob,n,ne⟩,r,q,z,d⟩
end
structure Cls (K:kC) (C:Addr):Prop where
 pg:PySem.W.plainGet K C Str.empty=true
 hd:PySem.W.hasDictIn K C=true
 po:PySem.W.plainOver K C=true
 sa:PySem.W.findIn K (.ref C) "__setattr__"=some (some (.builtin "object.__setattr__"))
theorem Cls.get {K:kC} {C:Addr} (c:Cls K C) (f:Str):PySem.W.plainGet K C f=true:=c.pg
def j5 (K:kC) (C:Addr) (f:Str):Prop:=PySem.W.findIn K (.ref C) f=some none
theorem j5.taker {K:kC} {C:Addr} {f:Str} (n:j5 K C f):PySem.W.takerIn K C f=some none:=by
 unfold PySem.W.takerIn
 rw [show PySem.W.findIn K (.ref C) f=some none from n]
 rfl
structure Meth (K:kC) (C:Addr) (m:Str) (f:Addr):Prop where
 at_:PySem.W.findIn K (.ref C) m=some (some (.ref f))
 fn:PySem.W.isFn K (.ref f)=true
 kp:PySem.W.keepIn K (.ref f)=true
section
variable {X:Cx} {pins:List (Addr × Obj)} {σ:St} {H:Hp} {s:Shared} {a C dx:Addr} {fs:List (Str × V)} {f:Str} {v:V} {A:Around} {E:Value→Shared→Prop}
theorem z2t {b:Bool} {Q:Value→Shared→Prop} (I:Inv X pins σ H s) (e:H a=some (.ins C dx fs)) (c:Cls X.K C) (n:j5 X.K C f) (l:fs.lookup f=some v)
  (h:∀u s',Inv X pins σ H s'→RelV v u→Q u s'):wpAny (model X.prog X.w) A (getAttr (.ref a) f b) Q E s:=by
 obtain ⟨mA,O,r,_,_,_⟩:=JM I.hok e
 obtain ⟨u,hu,ru⟩:=RelO.some_of (v:=v) (o:=mA f) (by rw [←l];exact r f)
 exact z6X I.kIn O (c.get f) c.hd n hu (z3C ru) (h u _ (I.tok _) ru)
theorem Jg {m:Str} {g:Addr} {pl:Sem Bool} {Q:Value × List Value→Shared→Prop} (I:Inv X pins σ H s) (e:H a=some (.ins C dx fs)) (c:Cls X.K C) (k:Meth X.K C m g) (l:fs.lookup m=none)
  (h:Q (.ref g,[.ref a]) s):wpAny (model X.prog X.w) A (getMethod (.ref a) m pl) Q E s:=by
 obtain ⟨mA,O,r,_,_,_⟩:=JM I.hok e
 have hn:mA m=none:=RelO.none_of (by rw [←l];exact r m)
 exact z55 I.kIn O (c.get m) k.at_ k.fn hn h
theorem z27 {y:V} {u:Value} {Q:Unit→Shared→Prop} (I:Inv X pins σ H s) (e:H a=some (.ins C dx fs)) (c:Cls X.K C) (n:j5 X.K C f) (hl:fs.length < 1000) (ry:RelV y u)
  (h:∀s',Inv X pins σ (upd H a (.ins C dx (putF f y fs))) s'→Q () s'):wpAny (model X.prog X.w) A (setAttr (.ref a) f u) Q E s:=by
 obtain ⟨mA,O,r,wi,_,ho⟩:=JM I.hok e
 have hz:(fs.map (·.1)).length≤sizeLine:=by rw [km,sizeLine_eq];lia
 refine z6v I.kIn O c.sa c.po n.taker c.hd wi hz fun h' O' sb=>h _ ?_
 have hd:∃o,h'.get? dx=some o:=let ⟨o,_,_,e',_⟩:=O'.ns;⟨o,e'⟩
 refine I.write (x:=a) (e:=dx) (by rw [e];exact True.intro) (.inr ho) (fun b q hb z=>(sb.2 b hb).trans z) hd ?_
 refine ⟨by rw [zf O.ne];exact ho,?_,O.ne,O'.obj,_,O'.ns,fun g=>?_,fun g hg=>?_⟩
 ·have:=QR f y fs;lia
 ·show RelO ((putF f y fs).lookup g) (if g=f then some u else mA g)
  rw [QP]
  by_cases q:g=f
  ·rw [kE q,kE q];exact ry
  ·rw [kD q,kD q];exact r g
 ·by_cases q:g=f
  ·rw [q];exact (QS f y fs).1
  ·refine (QS f y fs).2 g (wi g fun z=>hg ?_)
   show (if g=f then some u else mA g)=none
   rw [kD q];exact z
theorem Inv.made (I:Inv X pins σ H s):Inv X pins σ (upd (upd H s.heap.objs.size (.own (s.heap.objs.size+1))) (s.heap.objs.size+1) (.ins C s.heap.objs.size []))
  { s with heap:=(s.heap.push PySem.W.emptyDict).push (PySem.W.instObj C s.heap.objs.size) }:=by
 have e1:(s.heap.push PySem.W.emptyDict).get? s.heap.objs.size=some PySem.W.emptyDict:=Heap.get?_push_size s.heap rfl
 have e2:((s.heap.push PySem.W.emptyDict).push (PySem.W.instObj C s.heap.objs.size)).get? (s.heap.objs.size+1)=some (PySem.W.instObj C s.heap.objs.size):=by
  have:=Heap.get?_push_size (s.heap.push PySem.W.emptyDict) (o:=PySem.W.instObj C s.heap.objs.size) rfl
  rwa [Heap.size_push] at this
 have e3:(s.heap.push PySem.W.emptyDict).Ns s.heap.objs.size (fun _=>none):=⟨PySem.W.emptyDict,#[],_,e1,rfl,(fun e he=>absurd he (by simp)),fun _=>rfl⟩
 have I1:=I.laid (a:=s.heap.objs.size) (o:=.own (s.heap.objs.size+1)) (h':=s.heap.push PySem.W.emptyDict) (t':=s.toks) (fun b u q=>Heap.get?_push_of_some _ q) (kh _) ⟨_,e1⟩
 refine I1.laid (a:=s.heap.objs.size+1) (o:=.ins C s.heap.objs.size []) (t':=s.toks) (fun b u q=>Heap.get?_push_of_some _ q) (yb (Heap.size_push _ _)) ?_
 have ne:s.heap.objs.size≠s.heap.objs.size+1:=Nat.ne_of_lt (ye _)
 refine ⟨by rw [zf ne,zb],Nat.zero_le _,ne,e2,fun _=>none,(Heap.Ns1.of_empty e3).at fun o q=>Heap.get?_push_of_some _ q,fun _=>True.intro,fun y hy=>absurd rfl hy⟩
theorem z7z {prog:Program} {w:World} {env:Env} {e:Expr} {f:Str} {pos:Pos} {s:Shared} {Q:Value→Shared→Prop} (hb:attributeBase e f env (eval e env)=eval e env)
  (h:wpAny (model prog w) A (eval e env) (fun o s₁=>wpAny (model prog w) A (getAttr o f true) Q E s₁) E s):wpAny (model prog w) A (eval (.Attribute e f pos) env) Q E s:=
 Attribute_any_ h (by rw [arm_eval_Attribute,hb])
end
def tFld (K:kC) (ta:TE) (f:Str):TE:=fun σ H Q=>ta σ H fun x H1=>∃a C dx fs v,x=.ref a∧H1 a=some (.ins C dx fs)∧Cls K C∧j5 K C f∧fs.lookup f=some v∧Q v H1
def sFld (K:kC) (ta tv:TE) (f:Str):TS:=fun D σ H=>tv σ H fun y H1=>ta σ H1 fun x H2=>∃a C dx fs,x=.ref a∧H2 a=some (.ins C dx fs)∧Cls K C∧j5 K C f∧fs.length < 1000∧
 D.nx σ (upd H2 a (.ins C dx (putF f y fs)))
section
variable {X:Cx} {o e value:Expr} {f:Str} {pos pos' tpos:Pos} {ta tv:TE}
theorem zx (he:PE X e ta) (hb:attributeBase e f X.env (eval e X.env)=eval e X.env):PE X (.Attribute e f pos) (tFld X.K ta f):=by
 intro pins s σ H Q I h
 refine z7z hb (thn (he pins s σ H _ I h) fun u s1 zz=>?_)
 obtain ⟨x,H1,I1,rx,a,C,dx,fs,v,ex,ea,c,n,l,q⟩:=zz
 subst ex
 obtain rfl:u=Value.ref a:=rx
 exact z2t I1 ea c n l fun u' s2 I2 ru=>⟨v,H1,I2,ru,q⟩
theorem j3 (ha:PE X o ta) (hv:PE X value tv) (hs:swapsWith value (some (.Attribute o f pos')) pos.line X.env=pure false):PS X (.Assign [.Attribute o f pos'] value pos) (sFld X.K ta tv f):=by
 intro pins s σ H D I h
 refine plainObj_wpAny_Assign_Attribute (thn (hv pins s σ H _ I h) fun u s1 ⟨y,H1,I1,ry,q⟩=>thn (ha pins s1 σ H1 _ I1 q) fun ov s2 ⟨x,H2,I2,rx,a,C,dx,fs,ex,ea,c,n,l,q2⟩=>?_) hs
 subst ex
 obtain rfl:ov=Value.ref a:=rx
 exact z27 I2 ea c n l ry fun s3 I3=>⟨σ,_,I3,q2⟩
end
section
variable {X:Cx} {pins:List (Addr × Obj)} {σ:St} {H:Hp} {s:Shared} {A:Around} {E:Value→Shared→Prop} {Q:Value→Shared→Prop} {c:Value} {b:Bool}
inductive TyOf (K:kC) (H:Hp):V→Value→Prop where
 | non:TyOf K H .non (.type "NoneType")
 | bl (x:Bool):TyOf K H (.bl x) (.type "bool")
 | int (i:Int):TyOf K H (.int i) (.type "int")
 | str (x:Str):TyOf K H (.str x) (.type "str")
 | flt (x:UInt64):TyOf K H (.flt x) (.type "float")
 | lst {a:Addr} {xs:List V} (e:H a=some (.lst xs)):TyOf K H (.ref a) (.type "list")
 | frz {a:Addr} {o:Obj} {xs:List V} (e:H a=some (.frz o (.lst xs))):TyOf K H (.ref a) (.type "list")
 | tup {a:Addr} {xs:List V} (e:H a=some (.tup xs)):TyOf K H (.ref a) (.type "tuple")
 | dK {a:Addr} {kvs:List (Key × V)} (e:H a=some (.dK kvs)):TyOf K H (.ref a) (.type "dict")
 | dT {a:Addr} {kvs:List (List Key × V)} (e:H a=some (.dT kvs)):TyOf K H (.ref a) (.type "dict")
 | ins {a C dx:Addr} {fs:List (Str × V)} (e:H a=some (.ins C dx fs)) (cl:Cls K C) (ha:PySem.W.findIn K (.ref C) "__class__"=some (some (.builtin "object.__class__")))
   (hn:PySem.W.specialIn K (.builtin "object.__class__") "__get__"=some (some (.builtin "getset_descriptor.__get__"))) (htk:PySem.W.takesIn K (.builtin "object.__class__")=some true)
   (hm:PySem.W.mroIn K C (.type "object")=some true):TyOf K H (.ref a) (.ref C)
theorem z3z {x:V} {u t:Value} (I:Inv X pins σ H s) (rx:RelV x u) (ty:TyOf X.K H x t) (e:PySem.W.kitOne X.K t c=some b) (h:∀tk,Q (.bool b) { s with toks:=tk }):
  wpAny (model X.prog X.w) A (call (.builtin "isinstance") [u,c]) Q E s:=by
 cases ty with
 | non=>cases (show u=Value.none from rx);exact PySem.W.kia_one PySem.W.kitx_none I.kIn True.intro e (fun z=>nomatch z) h
 | bl y=>cases (show u=Value.bool y from rx);exact PySem.W.kia_one PySem.W.kitx_bool I.kIn True.intro e (fun z=>nomatch z) h
 | int i=>obtain ⟨t,q⟩:=(show ∃t,u=Value.int i t from rx);cases q;exact PySem.W.kia_one PySem.W.kitx_int I.kIn True.intro e (fun z=>nomatch z) h
 | str y=>obtain ⟨t,q⟩:=(show ∃t,u=Value.str y t from rx);cases q;exact PySem.W.kia_one PySem.W.kitx_str I.kIn True.intro e (fun z=>nomatch z) h
 | flt y=>obtain ⟨t,q⟩:=(show ∃t,u=Value.float y t from rx);cases q;exact PySem.W.kia_one PySem.W.kitx_float I.kIn True.intro e (fun z=>nomatch z) h
 | @lst a xs ea=>
  cases (show u=Value.ref a from rx)
  obtain ⟨_,_,n,_,h1⟩:=(show qz X.prog X.w H s.heap a (.lst xs) from I.hok a _ ea)
  exact PySem.W.kia_one PySem.W.kitx_list I.kIn ⟨_,h1,rfl⟩ e (fun z=>nomatch z) h
 | @frz a ob xs ea=>
  cases (show u=Value.ref a from rx)
  obtain ⟨_,_,_,n,_,h1⟩:=(show qz X.prog X.w H s.heap a (.frz ob (.lst xs)) from I.hok a _ ea)
  exact PySem.W.kia_one PySem.W.kitx_list I.kIn ⟨_,h1,rfl⟩ e (fun z=>nomatch z) h
 | @tup a xs ea=>
  cases (show u=Value.ref a from rx)
  obtain ⟨_,_,_,p⟩:=(show qz X.prog X.w H s.heap a (.tup xs) from I.hok a _ ea)
  obtain ⟨o,h1,h2,_⟩:=p
  exact PySem.W.kia_one PySem.W.kitx_tuple I.kIn ⟨o,h1,h2⟩ e (fun z=>nomatch z) h
 | @dK a kvs ea=>
  cases (show u=Value.ref a from rx)
  obtain ⟨_,_,vs,_,p⟩:=(show qz X.prog X.w H s.heap a (.dK kvs) from I.hok a _ ea)
  obtain ⟨o,es,ep,h1,h2,_⟩:=p
  exact PySem.W.kia_one PySem.W.kitx_dict I.kIn ⟨o,h1,h2.1⟩ e (fun z=>nomatch z) h
 | @dT a kvs ea=>
  cases (show u=Value.ref a from rx)
  obtain ⟨_,_,xs,_,o,es,ep,h1,h2,_⟩:=(show qz X.prog X.w H s.heap a (.dT kvs) from I.hok a _ ea)
  exact PySem.W.kia_one PySem.W.kitx_dict I.kIn ⟨o,h1,h2.1⟩ e (fun z=>nomatch z) h
 | @ins a C dx fs ea cl ha hn htk hm=>
  cases (show u=Value.ref a from rx)
  obtain ⟨mA,O,_⟩:=JM I.hok ea
  obtain ⟨od,J,_⟩:=O.look
  exact PySem.W.kia_one (PySem.W.kitx_own (cl.get _) cl.hd ha hn htk hm) I.kIn J e (fun z=>nomatch z) h
end
end L2
namespace L2
open PySem PySem.Spec PyProof.Rows
structure Room (k:Nat) (A:Around):Prop where
 hd:A.handled=none
 dp:A.depth+3 * k+5 < recursionLimit
 un:A.units+16 * k+200 < cLine
 gd:A.guards=some []
theorem Room.mono {j k:Nat} {A:Around} (r:Room k A) (h:j≤k):Room j A:=⟨r.hd,by have:=r.dp;lia,by have:=r.un;lia,r.gd⟩
theorem Room.deeper {k:Nat} {A:Around} (r:Room (k+1) A) (env:Env):Room k (A.deeper env):=
 ⟨r.hd,by have:=r.dp;show A.depth+1+3 * k+5 < _;lia,by have:=r.un;show A.units+3+16 * k+200 < _;lia,r.gd⟩
theorem z2n {A:Around} {C:Addr} {us:List Value} {kw:List (Str × Value)}:(A.under (.builtin "type.__call__" ⟨.ref C :: us,kw⟩)).depth=A.depth+1:=by
 first | rfl | simp [Around.under,Code.weight,Code.isCreation,Code.isGuard,Code.isCaller,Code.frames,Code.isFrame,guardIds]
theorem z2m {A:Around} {C:Addr} {us:List Value} {kw:List (Str × Value)}:(A.under (.builtin "type.__call__" ⟨.ref C :: us,kw⟩)).units=A.units+1:=by
 first | rfl | simp [Around.under,Code.cUnits,Code.frames,Code.isFrame]
theorem z1c {A:Around} {C:Addr} {us:List Value} {kw:List (Str × Value)}:(A.under (.builtin "type.__call__" ⟨.ref C :: us,kw⟩)).guards=A.guards:=by
 first | rfl | simp [Around.under,Code.isGuard,guardIds,pushGuard]
theorem Room.make {k:Nat} {A:Around} (r:Room (k+1) A) (C:Addr) (us:List Value) (kw:List (Str × Value)):Room k (A.under (.builtin "type.__call__" ⟨.ref C :: us,kw⟩)):=
 ⟨r.hd,by have:=r.dp;rw [z2n];lia,by have:=r.un;rw [z2m];lia,by rw [z1c];exact r.gd⟩
theorem Room.depth {k:Nat} {A:Around} (r:Room k A):A.depth < recursionLimit:=by have:=r.dp;lia
theorem Room.units {k:Nat} {A:Around} (r:Room k A):A.units+64 < cLine:=by have:=r.un;lia
theorem Room.units0 {k:Nat} {A:Around} (r:Room k A):A.units < cLine:=by have:=r.un;lia
abbrev tNil:TA:=fun _ H Q=>Q [] H
abbrev jE (ta:TE) (tr:TA):TA:=fun σ H Q=>ta σ H fun x H1=>tr σ H1 fun xs H2=>Q (x :: xs) H2
section
variable {X:Cx} {e:Expr} {es:List Expr} {te:TE} {t:TA} {pos:Pos}
theorem z7:PA X [] tNil:=fun _ _ _ _ H Q I h=>Calls.spliced_nil ⟨[],H,I,.nil,h⟩
theorem z6 (ha:PE X e te) (hr:PA X es t) (hs:autoParam (starEach (e :: es) X.env=(false,eval e X.env) :: starEach es X.env) aR._auto_1):PA X (e :: es) (jE te t):=by
 intro pos pins s σ H Q I h
 rw [hs]
 show wpAny _ _ (spliced ((false,eval e X.env) :: backTo pos (starEach es X.env))) _ _ s
 refine Calls.spliced_cons (thn (ha pins s σ H _ I h) fun u s1 zz=>?_)
 obtain ⟨x,H1,I1,r1,q1⟩:=zz
 exact thn (hr pos pins s1 σ H1 _ I1 q1) fun us s2 ⟨xs,H2,I2,r2,q2⟩=>⟨x :: xs,H2,I2,.cons r1 r2,q2⟩
def tTup (t:TA):TE:=fun σ H Q=>t σ H fun xs H1=>xs.length≤sizeLine∧∀p,H1 p=none→Q (.ref p) (upd H1 p (.tup xs))
def tLst (t:TA):TE:=fun σ H Q=>t σ H fun xs H1=>xs.length≤sizeLine∧∀p,H1 p=none→Q (.ref p) (upd H1 p (.lst xs))
theorem zZ {x1} (h:PA X es t):PE X (.Tuple es x1 pos) (tTup t):=by
 intro pins s σ H Q I hq
 refine wpAny_Tuple_spliced (thn (h pos pins s σ H _ I hq) fun us s1 ⟨xs,H1,I1,r,z,q⟩=>⟨by rw [←r.length];exact z,?_⟩)
 have hf:H1 s1.heap.objs.size=none:=I1.hok.fresh (kh _)
 refine ⟨.ref s1.heap.objs.size,upd H1 s1.heap.objs.size (.tup xs),I1.laid (t':=s1.toks) (fun b u e=>Heap.get?_push_of_some _ e) (kh _) ?_,rfl,q _ hf⟩
 exact ⟨z,us,r,⟨_,Heap.get?_push_size _ rfl,rfl,_,rfl⟩⟩
theorem qq (h:PA X es t):PE X (.List es pos) (tLst t):=by
 intro pins s σ H Q I hq
 refine wpAny_List_spliced (thn (h pos pins s σ H _ I hq) fun us s1 ⟨xs,H1,I1,r,z,q⟩=>⟨by rw [←r.length];exact z,?_⟩)
 have hf:H1 s1.heap.objs.size=none:=I1.hok.fresh (kh _)
 refine ⟨.ref s1.heap.objs.size,upd H1 s1.heap.objs.size (.lst xs),I1.laid (t':=s1.toks) (fun b u e=>Heap.get?_push_of_some _ e) (kh _) ?_,rfl,q _ hf⟩
 exact ⟨z,us,0,r,Heap.get?_push_size _ rfl⟩
end
abbrev Sp:=List V→Hp→VK→XK→Prop
abbrev CXT:=List Env→Hp→Shared→XK→Value→Shared→Prop
structure Env0 (P:Program) (w:World) (K:kC) (mg:Str→Option Value) (base:Heap) (A:Around) (outer:List Env) (s:Shared) (H:Hp):Prop where
 frames:A.frames=some outer
 mod:Mod K mg base
 bs:∀b o,base.get? b=some o→s.heap.get? b=some o∧H b=none
 bsz:base.objs.size≤s.heap.objs.size
 funs:s.heap.FunFrames base outer
 frf:∀b∈frs outer,H b=none
 hok:HOk P w H s.heap
 bare:AllBare s.gens
def CE (outer:List Env) (P:Program) (w:World) (H:Hp) (s:Shared) (Q:VK) (u:Value) (s':Shared):Prop:=
 ∃v H',s'.os=s.os∧AllBare s'.gens∧Un (frs outer) [] H H' s.heap s'.heap∧HOk P w H' s'.heap∧RelV v u∧Q v H'
def CR (CX:CXT) (outer:List Env) (P:Program) (w:World) (H:Hp) (s:Shared) (Q:VK) (E:XK) (r:Result) (s':Shared):Prop:=
 match r with
 | .ok (.ret u)=>CE outer P w H s Q u s'
 | .ok _=>False
 | .error e=>CX outer H s E e s'
structure FnOk (P:Program) (w:World) (K:kC) (mg:Str→Option Value) (base:Heap) (CX:CXT) (k:Nat) (f:Addr) (fd:FuncData) (ps:List Str) (sp:Sp):Prop where
 len:∀vs H Q E,sp vs H Q E→vs.length=ps.length
 run:∀(A:Around) (outer:List Env) (s:Shared) (H:Hp) (args:Args) (us:List Value) (vs:List V) (Q:VK) (E:XK),Room k A→Env0 P w K mg base A outer s H→BindsTo s fd args (ps.zip us)→Vals vs us→sp vs H Q E→
  codeAny (model P w) A (.call (.ref f) args) (CR CX outer P w H s Q E) s
theorem FnOk.mono {P:Program} {w:World} {K:kC} {mg:Str→Option Value} {base:Heap} {CX:CXT} {j k:Nat} {f:Addr} {fd:FuncData} {ps:List Str} {sp:Sp} (F:FnOk P w K mg base CX j f fd ps sp) (h:j≤k):
  FnOk P w K mg base CX k f fd ps sp:=⟨F.len,fun A outer s H args us vs Q E hr=>F.run A outer s H args us vs Q E (hr.mono h)⟩
theorem FnOk.imp {P:Program} {w:World} {K:kC} {mg:Str→Option Value} {base:Heap} {CX:CXT} {k:Nat} {f:Addr} {fd:FuncData} {ps:List Str} {sp sp':Sp} (F:FnOk P w K mg base CX k f fd ps sp)
  (h:∀vs H Q E,sp' vs H Q E→sp vs H Q E):FnOk P w K mg base CX k f fd ps sp':=
 ⟨fun vs H Q E q=>F.len vs H Q E (h _ _ _ _ q),fun A outer s H args us vs Q E hr he hb hv hs=>F.run A outer s H args us vs Q E hr he hb hv (h _ _ _ _ hs)⟩
theorem Env0.make {P:Program} {w:World} {K:kC} {mg:Str→Option Value} {base:Heap} {A:Around} {outer:List Env} {s:Shared} {H:Hp} (e:Env0 P w K mg base A outer s H) (C:Addr) (us:List Value) (kw:List (Str × Value)):
  Env0 P w K mg base (A.under (.builtin "type.__call__" ⟨.ref C :: us,kw⟩)) outer s H:=⟨by first | exact e.frames | (simpa [Around.under,Code.envs,Code.isFrame,pushEnvs] using e.frames),e.mod,e.bs,e.bsz,e.funs,e.frf,e.hok,e.bare⟩
section
variable {X:Cx} {pins:List (Addr × Obj)} {σ:St} {H:Hp} {s s':Shared}
theorem Inv.env0 (I:Inv X pins σ H s):Env0 X.prog X.w X.K X.mg X.base X.A X.stack s H:=
 ⟨I.ok.frames,I.ok.mod,I.bs,kz I.ok.bsz I.sz,I.stack,I.stkFree,I.hok,I.bare⟩
theorem Inv.after {Q:VK} {u:Value} (I:Inv X pins σ H s) (h:CE X.stack X.prog X.w H s Q u s'):EP X pins σ Q u s':=by
 obtain ⟨v,H',os,bare,un,hok,r,q⟩:=h
 obtain ⟨hh,g,d,t,os'⟩:=s'
 obtain rfl:os'=s.os:=os
 exact ⟨v,H',I.call (h':=hh) (g':=g) (d':=d) (t':=t) (ch:=[]) un hok bare (fun b z=>absurd z (by simp)),r,q⟩
end
abbrev z2N (sp:Sp) (dvs:List V) (E:XK) (t:TA):TE:=fun σ H Q=>t σ H fun vs H1=>sp (vs++dvs) H1 Q E
def z4t (C:Addr) (m:Str) (sp:Sp) (dvs:List V) (E:XK) (ta:TE) (t:TA):TE:=fun σ H Q=>ta σ H fun x H1=>∃a dx fs,x=.ref a∧H1 a=some (.ins C dx fs)∧fs.lookup m=none∧
 t σ H1 fun vs H2=>sp (x :: (vs++dvs)) H2 Q E
def z7N (C:Addr) (sp:Sp) (dvs:List V) (E:XK) (t:TA):TE:=fun σ H Q=>t σ H fun vs H1=>∀x dx,H1 x=none→H1 dx=none→dx≠x→
 sp (.ref x :: (vs++dvs)) (upd (upd H1 dx (.own x)) x (.ins C dx [])) (fun v H2=>v=.non∧Q (.ref x) H2) E
def Z9 (K:kC) (fd:FuncData) (ps:List Str) (ds:List Value):Prop:=
 ∀(s:Shared) (us:List Value),K.In s.heap→(us++ds).length=ps.length→BindsTo s fd ⟨us,[]⟩ (ps.zip (us++ds))
theorem Z9.all {K:kC} {fd:FuncData} {ps:List Str} (h:∀us:List Value,us.length=ps.length→bindArgs fd ⟨us,[]⟩=pure (ps.zip us)):Z9 K fd ps []:=fun s us _ hl=>by
 rw [kZ] at hl ⊢
 exact .of_eq (h us hl)
def J2 (CX:CXT) (X:Cx) (E:XK):Prop:=∀(pins:List (Addr × Obj)) (σ:St) (H:Hp) (s:Shared) (e:Value) (s':Shared),Inv X pins σ H s→CX X.stack H s E e s'→X.xe e s'
section
variable {X:Cx} {CX:CXT} {k:Nat} {f C:Addr} {fd:FuncData} {ps:List Str} {sp:Sp} {dvs:List V} {ds:List Value} {E:XK} {x m:Str} {p pos apos:Pos} {e o:Expr} {es:List Expr} {ta:TE} {t:TA}
theorem z1A {pins:List (Addr × Obj)} {σ:St} {H:Hp} {s:Shared} {Q:VK} {us:List Value} {vs:List V} (F:FnOk X.prog X.w X.K X.mg X.base CX k f fd ps sp) (hr:Room k X.A) (hb:Z9 X.K fd ps ds) (hd:Vals dvs ds) (hx:J2 CX X E)
  (I:Inv X pins σ H s) (r:Vals vs us) (h:sp (vs++dvs) H Q E):wpAny (model X.prog X.w) X.A (call (.ref f) us) (EP X pins σ Q) X.xe s:=by
 have r2:Vals (vs++dvs) (us++ds):=r.append hd
 have hl:(us++ds).length=ps.length:=by rw [←r2.length];exact F.len _ _ _ _ h
 refine wpAny_call (codeAny_mono (F.run X.A X.stack s H ⟨us,[]⟩ (us++ds) (vs++dvs) Q E hr I.env0 (hb s us I.kIn hl) r2 h) fun r s' hq=>?_)
 cases r with
 | error e=>exact hx pins σ H s e s' I hq
 | ok fl=>
  cases fl with
  | ret u=>exact I.after hq
  | next=>exact False.elim hq
  | brk=>exact False.elim hq
  | cont=>exact False.elim hq
theorem z3k (F:FnOk X.prog X.w X.K X.mg X.base CX k f fd ps sp) (hr:Room k X.A) (hg:Gl X x) (hm:X.mg x=some (.ref f)) (hk:PySem.W.keepIn X.K (.ref f)=true) (hb:Z9 X.K fd ps ds) (hd:Vals dvs ds) (hx:J2 CX X E)
  (ha:PA X (e :: es) t) (hdb:autoParam ((x == ("__debug__":Str))=false) aR._auto_2) (he:autoParam (starEach (e :: es) X.env=(false,eval e X.env) :: starEach es X.env) aR._auto_1) (hpl:autoParam ((backTo pos (starEach es X.env)).any (·.1)=false) aR._auto_1):
  PE X (.Call (.Name x p) (e :: es) [] pos) (z2N sp dvs E t):=by
 intro pins s σ H Q I h
 refine wpAny_Call_Name_kw (Q3 I hg hm ?_ hdb)
 refine PySem.W.callWith_K (h₀:=X.base) I.ok.mod.kin hk (thn (ha pos pins s σ H _ I h) fun us s1 ⟨vs,H1,I1,r,q⟩=>⟨I1.kIn,?_⟩) he hpl
 exact z1A F hr hb hd hx I1 r q
theorem z6E {pl:Sem Bool} (he:PE X o ta) (c:Cls X.K C) (hm:Meth X.K C m f) (F:FnOk X.prog X.w X.K X.mg X.base CX k f fd ps sp) (hr:Room k X.A) (hb:Z9 X.K fd ps ds) (hd:Vals dvs ds) (hx:J2 CX X E) (ha:PA X (e :: es) t)
  (hst:autoParam (starEach (e :: es) X.env=(false,eval e X.env) :: starEach es X.env) aR._auto_1) (hpl:autoParam ((backTo pos (starEach es X.env)).any (·.1)=false) aR._auto_1)
  (ht:autoParam (eval (.Call (.Attribute o m apos) (e :: es) [] pos) X.env=(do
   let ov ←eval o X.env
   standAt apos.atName
   let (f,first) ←holding [ov] (getMethod ov m pl)
   callWith pos f first (backTo pos (starEach (e :: es) X.env)) (backToKw pos (keywordEach [] X.env)))) aR._auto_1):
  PE X (.Call (.Attribute o m apos) (e :: es) [] pos) (z4t C m sp dvs E ta t):=by
 intro pins s σ H Q I h
 refine PySem.W.methodCall_KW (pl:=pl) (thn (he pins s σ H _ I h) fun u s1 ⟨x,H1,I1,rx,a,dx,fs,ex,ea,l,q⟩=>?_) ht
 subst ex
 obtain rfl:u=Value.ref a:=rx
 refine Jg I1 ea c hm l ?_
 refine PySem.W.callWith_K (first:=[.ref a]) (h₀:=X.base) I.ok.mod.kin hm.kp (thn (ha pos pins s1 σ H1 _ I1 q) fun us s2 ⟨vs,H2,I2,r,q2⟩=>⟨I2.kIn,?_⟩) hst hpl
 exact z1A (us:=.ref a :: us) (vs:=.ref a :: vs) F hr hb hd hx I2 (.cons rfl r) q2
theorem z4G {pl:Sem Bool} (he:PE X o ta) (c:Cls X.K C) (hm:Meth X.K C m f) (F:FnOk X.prog X.w X.K X.mg X.base CX k f fd ps sp) (hr:Room k X.A) (hb:Z9 X.K fd ps ds) (hd:Vals dvs ds) (hx:J2 CX X E)
  (ht:autoParam (eval (.Call (.Attribute o m apos) [] [] pos) X.env=(do
   let ov ←eval o X.env
   standAt apos.atName
   let (f,first) ←holding [ov] (getMethod ov m pl)
   callWith pos f first (backTo pos (starEach [] X.env)) (backToKw pos (keywordEach [] X.env)))) aR._auto_1):
  PE X (.Call (.Attribute o m apos) [] [] pos) (z4t C m sp dvs E ta tNil):=by
 intro pins s σ H Q I h
 refine PySem.W.methodCall_KW (pl:=pl) (thn (he pins s σ H _ I h) fun u s1 ⟨x,H1,I1,rx,a,dx,fs,ex,ea,l,q⟩=>?_) ht
 subst ex
 obtain rfl:u=Value.ref a:=rx
 refine Jg I1 ea c hm l ?_
 exact PySem.W.callWith_K0 (first:=[.ref a]) I1.kIn hm.kp (z1A (us:=[.ref a]) (vs:=[.ref a]) F hr hb hd hx I1 (.cons rfl .nil) q)
structure Mk (K:kC) (C f:Addr):Prop where
 makes:PySem.W.makesIn K C=true
 init:PySem.W.findIn K (.ref C) "__init__"=some (some (.ref f))
 fn:PySem.W.isFn K (.ref f)=true
 kp:PySem.W.keepIn K (.ref C)=true
theorem z4z {pins:List (Addr × Obj)} {σ:St} {H:Hp} {s:Shared} {Q:VK} {us:List Value} {vs:List V} (M:Mk X.K C f) (F:FnOk X.prog X.w X.K X.mg X.base CX k f fd ps sp) (hr:Room (k+1) X.A) (hb:Z9 X.K fd ps ds) (hd:Vals dvs ds)
  (hx:J2 CX X E) (I:Inv X pins σ H s) (r:Vals vs us)
  (h:∀x dx,H x=none→H dx=none→dx≠x→sp (.ref x :: (vs++dvs)) (upd (upd H dx (.own x)) x (.ins C dx [])) (fun v H2=>v=.non∧Q (.ref x) H2) E):
  wpAny (model X.prog X.w) X.A (call (.ref C) us) (EP X pins σ Q) X.xe s:=by
 have hq:=h (s.heap.objs.size+1) s.heap.objs.size (I.hok.fresh (Nat.le_succ _)) (I.hok.fresh (kh _)) (Nat.ne_of_lt (ye _))
 have I2:=Inv.made (C:=C) I
 have r2:Vals (V.ref (s.heap.objs.size+1) :: (vs++dvs)) (Value.ref (s.heap.objs.size+1) :: (us++ds)):=.cons rfl (r.append hd)
 have hl:(Value.ref (s.heap.objs.size+1) :: us++ds).length=ps.length:=by
  have e:=r2.length
  rw [F.len _ _ _ _ hq] at e
  exact e.symm
 refine wpAny_call (z4S (f:=f) I.kIn M.makes M.init (beq_iff_eq.mp M.fn) (codeAny_mono (F.run _ X.stack _ _ ⟨Value.ref (s.heap.objs.size+1) :: us,[]⟩ (Value.ref (s.heap.objs.size+1) :: (us++ds)) _ _ E (hr.make C us [])
  (I2.env0.make C us []) (hb _ (Value.ref (s.heap.objs.size+1) :: us) I2.kIn hl) r2 hq) fun r s' hq'=>?_))
 cases r with
 | error e=>exact hx pins σ _ _ e s' I2 hq'
 | ok fl=>
  cases fl with
  | ret u=>
   obtain ⟨v,H',I3,rv,ev,q3⟩:=I2.after hq'
   subst ev
   exact ⟨rv,⟨V.ref (s.heap.objs.size+1),H',I3,rfl,q3⟩⟩
  | next=>exact False.elim hq'
  | brk=>exact False.elim hq'
  | cont=>exact False.elim hq'
theorem z6F (M:Mk X.K C f) (F:FnOk X.prog X.w X.K X.mg X.base CX k f fd ps sp) (hr:Room (k+1) X.A) (hg:Gl X x) (hm:X.mg x=some (.ref C)) (hb:Z9 X.K fd ps ds) (hd:Vals dvs ds) (hx:J2 CX X E)
  (ha:PA X (e :: es) t) (hdb:autoParam ((x == ("__debug__":Str))=false) aR._auto_2) (he:autoParam (starEach (e :: es) X.env=(false,eval e X.env) :: starEach es X.env) aR._auto_1) (hpl:autoParam ((backTo pos (starEach es X.env)).any (·.1)=false) aR._auto_1):
  PE X (.Call (.Name x p) (e :: es) [] pos) (z7N C sp dvs E t):=by
 intro pins s σ H Q I h
 refine wpAny_Call_Name_kw (Q3 I hg hm ?_ hdb)
 refine PySem.W.callWith_K (h₀:=X.base) I.ok.mod.kin M.kp (thn (ha pos pins s σ H _ I h) fun us s1 ⟨vs,H1,I1,r,q⟩=>⟨I1.kIn,?_⟩) he hpl
 exact z4z M F hr hb hd hx I1 r q
end
section
variable {X:Cx} {CX:CXT} {k:Nat} {f C:Addr} {fd:FuncData} {ps ks:List Str} {sp:Sp} {E:XK} {x m:Str} {p pos apos kpos:Pos} {e o:Expr} {es:List Expr} {kws:List Keyword} {te ta:TE} {t tk:TA} {nm:Option Str}
variable {g:List Value→List Value→List Value} {gV:List V→List V→List V}
end
structure zi (N P:List Str) (sc:Scope):Prop where
 kind:sc.kind=.function
 co:sc.isCoroutine=false
 gen:sc.isGenerator=false
 nd:N.Nodup
 pre:N.take P.length=P
 par:∀x∈P,sc.names.lookup x=some .local∨sc.names.lookup x=some .cell
 nofree:∀y∈sc.names,y.2≠.free
theorem z0I {kindOf:Str→Option NameKind} {x:Str}:∀{binds:List (Str × Value)} {m:Str→Option Value},(∀v,(x,v)∉binds)→bindL kindOf binds m x=m x
 | [],_,_=>rfl
 | (n,v) :: r,m,h=>by
  unfold bindL
  rw [z0I fun w hw=>h w (kW _ hw)]
  split
  ·have:x≠n:=by rintro rfl;exact h v kU
   simp [this]
  ·rfl
theorem z0K {kindOf:Str→Option NameKind} {x:Str}:∀{binds:List (Str × Value)} {m:Str→Option Value},(∀v,(x,v)∉binds)→bindC kindOf binds m x=m x
 | [],_,_=>rfl
 | (n,v) :: r,m,h=>by
  unfold bindC
  rw [z0K fun w hw=>h w (kW _ hw)]
  split
  ·rfl
  ·have:x≠n:=by rintro rfl;exact h v kU
   simp [this]
theorem z0J {kindOf:Str→Option NameKind} {x:Str} {v:Value}:∀{P:List Str} {vs:List Value} {i:Nat} {m:Str→Option Value},P.Nodup→P[i]?=some x→vs[i]?=some v→kindOf x=some .local→
  bindL kindOf (P.zip vs) m x=some v
 | [],_,_,_,_,h,_,_=>by simp at h
 | _ :: _,[],_,_,_,_,h,_=>by simp at h
 | p :: P,w :: vs,0,m,nd,h1,h2,hk=>by
  simp at h1 h2;subst h1;subst h2
  show bindL kindOf ((p,w) :: P.zip vs) m p=_
  unfold bindL
  rw [z0I fun v hv=>(List.nodup_cons.mp nd).1 (List.of_mem_zip hv).1,kE hk]
  simp
 | p :: P,w :: vs,i+1,m,nd,h1,h2,hk=>by
  show bindL kindOf ((p,w) :: P.zip vs) m x=_
  unfold bindL
  exact z0J (i:=i) (List.nodup_cons.mp nd).2 (by simpa using h1) (by simpa using h2) hk
theorem z0L {kindOf:Str→Option NameKind} {x:Str} {v:Value}:∀{P:List Str} {vs:List Value} {i:Nat} {m:Str→Option Value},P.Nodup→P[i]?=some x→vs[i]?=some v→kindOf x≠some .local→
  bindC kindOf (P.zip vs) m x=some v
 | [],_,_,_,_,h,_,_=>by simp at h
 | _ :: _,[],_,_,_,_,h,_=>by simp at h
 | p :: P,w :: vs,0,m,nd,h1,h2,hk=>by
  simp at h1 h2;subst h1;subst h2
  show bindC kindOf ((p,w) :: P.zip vs) m p=_
  unfold bindC
  rw [z0K fun v hv=>(List.nodup_cons.mp nd).1 (List.of_mem_zip hv).1,kD hk]
  simp
 | p :: P,w :: vs,i+1,m,nd,h1,h2,hk=>by
  show bindC kindOf ((p,w) :: P.zip vs) m x=_
  unfold bindC
  exact z0L (i:=i) (List.nodup_cons.mp nd).2 (by simpa using h1) (by simpa using h2) hk
noncomputable def jq (N:List Str) (vs:List V):St:=vs.map some++List.replicate (N.length - vs.length) none
noncomputable def cxOf (CX:CXT) (P:Program) (w:World) (K:kC) (mg:Str→Option Value) (base:Heap) (N:List Str) (qual:Str) (scope:Scope) (f:Addr) (cd:Value) (A:Around) (outer:List Env) (s:Shared) (H:Hp) (E:XK):Cx where
 prog:=P
 w:=w
 K:=K
 mg:=mg
 base:=base
 A:=A.deeper (envOfC qual scope s.heap.objs.size f cd)
 N:=N
 s₀:=s
 H₀:=H
 env:=envOfC qual scope s.heap.objs.size f cd
 outer:=outer
 stack:=envOfC qual scope s.heap.objs.size f cd :: outer
 ex:=[]
 calm:=true
 fn:=fun _=>true
 pn:=[]
 xe:=fun e s'=>wpAny (model P w) (A.deeper (envOfC qual scope s.heap.objs.size f cd)) (leaving (envOfC qual scope s.heap.objs.size f cd) e) (fun _ s''=>CX outer H s E e s'') (fun e' s''=>CX outer H s E e' s'') s'
theorem z1X {sc:Scope} {n:Nat} {x:Str} (h:sc.names.lookup x=some .cell):∃c,(cellsFrom n sc.names []).lookup x=some c:=by
 have q:=PySem.W.cellsFrom_some sc.names n [] (.inl h)
 exact Option.isSome_iff_exists.mp q
theorem z3A {CX:CXT} {P:Program} {w:World} {K:kC} {mg:Str→Option Value} {base:Heap} {N ps:List Str} {qual:Str} {scope:Scope} {f:Addr} {cd:Value} {A:Around} {outer:List Env} {s s1:Shared} {H:Hp} {E:XK} {us:List Value} {vs:List V}
  (S:zi N ps scope) (hd:A.handled=none) (e0:Env0 P w K mg base A outer s H) (hl:vs.length=ps.length) (r:Vals vs us)
  (x:InCallC s s.heap.objs.size (bindL (envOfC qual scope s.heap.objs.size f cd).kindOf (ps.zip us) fun _=>none) (cellsFrom (s.heap.objs.size+1) scope.names []) (bindC (envOfC qual scope s.heap.objs.size f cd).kindOf (ps.zip us) fun _=>none) s1):
  Inv (cxOf CX P w K mg base N qual scope f cd A outer s H E) [] (jq N vs) H s1:=by
 have hpl:ps.length≤N.length:=by have:=congrArg List.length S.pre;rw [List.length_take] at this;lia
 obtain ⟨h1,tk,rfl,hk⟩:=x.done
 have noA:∀b:Addr,b∉(cxOf CX P w K mg base N qual scope f cd A outer s H E).ex:=fun b z=>absurd (show b∈([]:List Addr) from z) (by simp)
 refine ⟨⟨e0.mod,S.kind,rfl,rfl,kh _,fun y z c h1 h2=>?_,fun y hy=>?_,fun y c _ h=>?_,fun _=>hd,Around.frames_deeper e0.frames,.inr ⟨rfl,rfl⟩,fun b z=>absurd z (noA b),e0.bs,e0.bsz,fun b _ _=>noA b,fun b z=>absurd z (noA b),e0.funs,e0.frf⟩,
  rfl,e0.bare,Un.kept hk,⟨_,x.toInCall.ns,fun i y v h1 h2 h3=>?_⟩,fun y c h=>⟨_,x.cell y c h⟩,e0.hok.fresh (kh _),fun y c h=>?_,fun p hp=>absurd (show p∈([]:List (Addr × Obj)) from hp) (by simp),e0.hok.kept hk,?_⟩
 ·exact name_of_addr x.apart (PySem.mem_of_lookup h1) (PySem.mem_of_lookup h2)
 ·have hy:scope.names.lookup y=some .cell∨scope.names.lookup y=some .free:=hy
  rcases hy with hy | hy
  ·exact z1X hy
  ·exact absurd rfl (S.nofree _ (PySem.mem_of_lookup hy))
 ·exact Nat.le_of_lt (x.above y c (PySem.mem_of_lookup h))
 ·have hi:i < vs.length:=by
   unfold jq at h2
   by_cases hi:i < vs.length
   ·exact hi
   ·rw [yk (by simpa using hi)] at h2
    rw [List.getElem?_replicate] at h2
    split at h2 <;> cases h2
  have ha:vs[i]?=some v:=by
   unfold jq at h2
   rw [yj (by simpa using hi),List.getElem?_map] at h2
   cases e:vs[i]? with
   | none=>rw [e] at h2;cases h2
   | some a=>rw [e] at h2;cases h2;rfl
  obtain ⟨u,hu,rv⟩:=r.get ha
  have hp:ps[i]?=some y:=by
   rw [←S.pre,List.getElem?_take_of_lt (by lia)];exact h1
  have ndP:ps.Nodup:=by rw [←S.pre];exact S.nd.sublist (List.take_sublist _ _)
  refine ⟨u,rv,?_⟩
  rcases S.par y (kK hp) with k | k
  ·exact .inl ⟨k,z0J ndP hp hu k⟩
  ·obtain ⟨c,e⟩:=z1X (n:=s.heap.objs.size+1) k
   refine .inr ⟨.inl k,c,e,?_⟩
   have q:=x.cell y c e
   rw [z0L ndP hp hu (by show scope.names.lookup y≠_;rw [k];decide)] at q
   exact q
 ·exact e0.hok.fresh (Nat.le_of_lt (x.above y c (PySem.mem_of_lookup h)))
 ·unfold jq
  show _=N.length
  rw [ko,km,List.length_replicate]
  lia
theorem z8R {CX:CXT} {P:Program} {w:World} {K:kC} {mg:Str→Option Value} {base:Heap} {k:Nat} {f:Addr} {name qual:Str} {params:Arguments} {body:List Stmt} {scope:Scope} {dV kV doc pm cdv ct oc:Value} {an od:Option Addr}
  {osl:Array (Option Value)} {N ps:List Str} {sp:Sp} (lk:K.lookup f=some ⟨oc,od,.func (PySem.W.fnOf name qual params body scope dV kV doc pm an cdv ct),osl⟩) (hcd:PySem.W.codeIn K cdv qual=true) (S:zi N ps scope)
  (len:∀vs H Q E,sp vs H Q E→vs.length=ps.length)
  (hbody:∀(A:Around) (outer:List Env) (s:Shared) (H:Hp) (vs:List V) (Q:VK) (E:XK),Room k (A.deeper (envOfC qual scope s.heap.objs.size f cdv))→sp vs H Q E→
   ∃t,PSs (cxOf CX P w K mg base N qual scope f cdv A outer s H E) body t∧t { nx:=fun _ H'=>Q .non H',rt:=Q } (jq N vs) H):
  FnOk P w K mg base CX (k+1) f (PySem.W.fnOf name qual params body scope dV kV doc pm an cdv ct) ps sp:=by
 refine ⟨len,fun A outer s H args us vs Q E hr e0 hb r hsp=>?_⟩
 have hl:=len _ _ _ _ hsp
 have KX:K.In s.heap:=e0.mod.kin.keeps fun b o e=>(e0.bs b o e).1
 have lim:s.heap.NoLimit:=e0.mod.nolimit.keeps fun b o e=>(e0.bs b o e).1
 have hkind:∀y∈ps.zip us,scope.names.lookup y.1=some .local∨(scope.names.lookup y.1=some .cell∧((cellsFrom (s.heap.objs.size+1) scope.names []).lookup y.1).isSome=true):=fun ⟨n,v⟩ hy=>by
  rcases S.par n (List.of_mem_zip hy).1 with q | q
  ·exact .inl q
  ·exact .inr ⟨q,PySem.W.cellsFrom_some _ _ _ (.inl q)⟩
 refine codeAny_call_function hr.depth (KX _ _ lk) rfl S.co S.gen rfl (PySem.W.codeRec_of KX hcd) (hb _ _ _ _ ?_)
 refine wpAny_newFunctionEnv_cells S.kind hkind fun env he s1 x=>?_
 subst he
 refine ⟨lim.keeps x.toInCall.keep,codeAny_func ?_⟩
 obtain ⟨t,ht,hq⟩:=hbody A outer s H vs Q E (hr.deeper _) hsp
 have I:Inv (cxOf CX P w K mg base N qual scope f cdv A outer s H E) [] (jq N vs) H s1:=z3A S hr.hd e0 hl r x
 refine wpAny_mono (ht [] s1 (jq N vs) H _ I hq) (fun fl s' hs=>?_) fun e s' hs=>hs
 have fin:∀{σ':St} {H':Hp} {v:V} {u:Value},Inv (cxOf CX P w K mg base N qual scope f cdv A outer s H E) [] σ' H' s'→RelV v u→Q v H'→CE outer P w H s Q u s':=
  fun {σ' H' v u} J rv q=>⟨v,H',J.os,J.bare,J.base,J.hok,rv,q⟩
 cases fl with
 | ret u=>
  obtain ⟨v,σ',H',J,rv,q⟩:=hs
  exact fin J rv q
 | next=>
  obtain ⟨σ',H',J,q⟩:=hs
  exact fin (v:=V.non) (u:=Value.none) J rfl q
 | brk=>
  obtain ⟨_,_,_,q⟩:=hs
  exact False.elim q
 | cont=>
  obtain ⟨_,_,_,q⟩:=hs
  exact False.elim q
end L2
namespace L2
open PySem PySem.Spec PyProof.Rows
section
variable {X:Cx} {x:Str} {p pos:Pos} {e:Expr} {es:List Expr} {t:TA} {id T:String} {r:List V→Hp→VK→Prop}
def tCB (r:List V→Hp→VK→Prop) (t:TA):TE:=fun σ H Q=>t σ H fun vs H1=>r vs H1 Q
theorem zy (hc:Z8 X (.builtin id) r) (hg:Gl X x) (hm:X.mg x=none) (hv:bootBuiltins x=some (.builtin id)) (ha:PA X (e :: es) t) (hn:autoParam (x≠"__name__") aR._auto_2) (hdb:autoParam ((x == ("__debug__":Str))=false) aR._auto_2)
  (he:autoParam (starEach (e :: es) X.env=(false,eval e X.env) :: starEach es X.env) aR._auto_1) (hpl:autoParam ((backTo pos (starEach es X.env)).any (·.1)=false) aR._auto_1):PE X (.Call (.Name x p) (e :: es) [] pos) (tCB r t):=by
 intro pins s σ H Q I h
 refine wpAny_Call_Name_kw (z0m I hg hm hv ?_ hn hdb)
 exact PyProof.Rows.callWith_builtin1 (thn (ha pos pins s σ H _ I h) fun us s1 ⟨vs,H1,I1,r1,q1⟩=>hc pins s1 σ H1 vs us Q I1 r1 q1) he hpl
theorem qD (hc:Z8 X (.type T) r) (hg:Gl X x) (hm:X.mg x=none) (hv:bootBuiltins x=some (.type T)) (ha:PA X (e :: es) t) (hn:autoParam (x≠"__name__") aR._auto_2) (hdb:autoParam ((x == ("__debug__":Str))=false) aR._auto_2)
  (he:autoParam (starEach (e :: es) X.env=(false,eval e X.env) :: starEach es X.env) aR._auto_1) (hpl:autoParam ((backTo pos (starEach es X.env)).any (·.1)=false) aR._auto_1):PE X (.Call (.Name x p) (e :: es) [] pos) (tCB r t):=by
 intro pins s σ H Q I h
 refine wpAny_Call_Name_kw (z0m I hg hm hv ?_ hn hdb)
 exact PyProof.Rows.callWith_type1 (thn (ha pos pins s σ H _ I h) fun us s1 ⟨vs,H1,I1,r1,q1⟩=>hc pins s1 σ H1 vs us Q I1 r1 q1) he hpl
end
end L2
namespace HT
open PySem PyProof.Rows
section
open PySem.SeqAt
open PySem.AutoSeq1 (wpAny_loadPart')
open PySem.MeetsSeq PySem.MeetsSeq2 PySem.MeetsSeq3
end
section
variable {prog:Program} {w:World} {A:Around} {E:Value→Shared→Prop} {s:Shared}
theorem cat_tup {t b:Addr} {vs ws:List Value} {Q:Value→Shared→Prop} (ht:IsTup s.heap t vs.toArray) (hb:IsTup s.heap b ws.toArray) (hv:vs≠[])
  (h1:ws=[]→Q (.ref t) s) (h2:ws≠[]→Q (.ref s.heap.objs.size) { s with heap:=s.heap.push { cls:=.type "tuple",data:=.seq (vs++ws).toArray } })
  (hsz:vs.length+ws.length≤sizeLine):wpAny (model prog w) A (binaryOp .Add (.ref t) (.ref b)) Q E s:=by
 obtain ⟨⟨cls,dd,data,sl⟩,ho,hc,n,hd⟩:=id ht
 obtain ⟨⟨cls2,dd2,data2,sl2⟩,ho2,hc2,n2,hd2⟩:=id hb
 simp only at hc hd hc2 hd2
 subst hc hd hc2 hd2
 have e:vs.toArray++ws.toArray=(vs++ws).toArray:=by simp
 by_cases hw:ws=[]
 ·exact concat_meets ⟨_,ho,rfl⟩ ⟨_,ho2,rfl⟩ noFill_tuple_add seq_tuple_add PySem.F.slot_tuple_add PySem.F.entry_tuple_add (PySem.F.args_tuple_add_2 _ _)
   (tuple_addW1 t b vs.toArray ws.toArray n n2 dd dd2 sl sl2 (by simpa using hv) (by simp [hw])) ⟨ho,ho2,h1 hw⟩
 ·refine concat_meets ⟨_,ho,rfl⟩ ⟨_,ho2,rfl⟩ noFill_tuple_add seq_tuple_add PySem.F.slot_tuple_add PySem.F.entry_tuple_add (PySem.F.args_tuple_add_2 _ _)
   (tuple_addW2 t b vs.toArray ws.toArray n n2 dd dd2 sl sl2 (by simpa using hv) (by simpa using hw) (by rw [kI,kI];exact hsz)) ⟨ho,ho2,?_⟩
  rw [e]
  exact h2 hw
noncomputable def sIx (n d:Nat):Option Int→Nat
 | none=>d
 | some v=>if v < 0 then (v+(n:Int)).toNat else min v.toNat n
theorem z89 (n d:Nat) (hd:d≤n) (o:Option Int):sIx n d o≤n:=by
 cases o with
 | none=>exact hd
 | some v=>
  show (if v < 0 then (v+(n:Int)).toNat else min v.toNat n)≤n
  by_cases hv:v < 0
  ·rw [kE hv];lia
  ·rw [kD hv];exact Nat.min_le_right _ _
theorem z48 (v:Int) (n d:Nat):(if v < 0 then max (v+(n:Int)) 0 else min v (n:Int))=((sIx n d (some v):Nat):Int):=by
 show (if v < 0 then max (v+(n:Int)) 0 else min v (n:Int))=(((if v < 0 then (v+(n:Int)).toNat else min v.toNat n):Nat):Int)
 by_cases hv:v < 0
 ·simp only [kE hv];lia
 ·simp only [kD hv];lia
theorem z2F (lo hi:Option Int) (n:Nat):Builtin.Slice.sliceAdjust lo hi 1 (n:Int)=(((sIx n 0 lo:Nat):Int),((sIx n n hi:Nat):Int)):=by
 have h1:¬((1:Int) < 0):=by lia
 unfold Builtin.Slice.sliceAdjust
 simp only [h1,if_false]
 refine Prod.ext ?_ ?_
 ·cases lo with
  | none=>rfl
  | some v=>exact z48 v n 0
 ·cases hi with
  | none=>rfl
  | some v=>exact z48 v n n
theorem z2a (i j:Nat):Builtin.Slice.slicePlaces (i:Int) (j:Int) 1=j - i:=by
 unfold Builtin.Slice.slicePlaces
 have h1:(1:Int) > 0:=by lia
 simp only [h1,if_true,Int.ediv_one]
 split <;> lia
theorem Jb {v:Value} {o:Option Int} {Q:Option Int→Shared→Prop} (p:IsPart v o) (h:Q o s):wpAny (model prog w) A (Builtin.Slice.slicePartIndex v) Q E s:=by
 cases p with
 | none=>exact slicePart_none h
 | int i t=>exact slicePart_int h
theorem Ql {sl:Addr} {vl vu:Value} {lo hi:Option Int} {n:Nat} {Q:Int × Int × Nat→Shared→Prop} (hs:s.heap.IsSliceOf sl vl vu .none) (pl:IsPart vl lo) (pu:IsPart vu hi)
  (h:Q (((sIx n 0 lo:Nat):Int),1,sIx n n hi - sIx n 0 lo) s):wpAny (model prog w) A (Builtin.Slice.sliceApplied (.ref sl) (pure (n:Int))) Q E s:=by
 obtain ⟨os,hos,hcs,hds⟩:=id hs
 unfold Builtin.Slice.sliceApplied Builtin.Slice.sliceFields
 refine wpAny_bind (wpAny_bind (wpAny_field hos hds (x:=vl) rfl (wpAny_bind (wpAny_field hos hds (x:=vu) rfl (wpAny_bind (wpAny_field hos hds (x:=.none) rfl (wpAny_pure ?_)))))))
 refine wpAny_bind (slicePart_none ?_)
 show wpAny _ _ (if ((1:Int) == 0)=true then _ else _) _ _ s
 rw [kD (by decide)]
 refine wpAny_bind (Jb pl (wpAny_bind (Jb pu (wpAny_bind (wpAny_pure ?_)))))
 show wpAny _ _ (match Builtin.Slice.sliceAdjust lo hi 1 (n:Int) with | (lo,hi)=>pure (lo,(1:Int),Builtin.Slice.slicePlaces lo hi 1)) _ _ s
 rw [z2F lo hi n]
 show wpAny _ _ (pure (((sIx n 0 lo:Nat):Int),(1:Int),Builtin.Slice.slicePlaces ((sIx n 0 lo:Nat):Int) ((sIx n n hi:Nat):Int) 1)) _ _ s
 rw [z2a]
 exact wpAny_pure h
theorem z4E (xs:Array Value) (i k:Nat):((List.range k).filterMap fun (m:Nat)=>xs[((i:Int)+(m:Int) * 1).toNat]?).toArray=((xs.toList.drop i).take k).toArray:=by
 have e:(fun (m:Nat)=>xs[((i:Int)+(m:Int) * 1).toNat]?)=fun m=>xs[i+m]?:=by
  funext m
  have:((i:Int)+(m:Int) * 1).toNat=i+m:=by lia
  rw [this]
 rw [e]
 have:=pick_run xs i k
 rw [List.filterMap_map] at this
 have e2:((fun x=>xs[x]?) ∘ fun x=>i+x)=fun m=>xs[i+m]?:=rfl
 rw [e2] at this
 rw [this]
theorem getItem_tuple_cut {t sl:Addr} {items:Array Value} {vl vu:Value} {lo hi:Option Int} {Q:Value→Shared→Prop} (ht:IsTup s.heap t items) (hs:s.heap.IsSliceOf sl vl vu .none) (pl:IsPart vl lo) (pu:IsPart vu hi)
  (hw:¬(sIx items.size 0 lo=0∧sIx items.size items.size hi=items.size))
  (h:Q (.ref s.heap.objs.size) { s with heap:=s.heap.push { cls:=.type "tuple",data:=.seq ((items.toList.drop (sIx items.size 0 lo)).take (sIx items.size items.size hi - sIx items.size 0 lo)).toArray } })
  (hsz:items.size≤sizeLine):wpAny (model prog w) A (getItem (.ref t) (.ref sl)) Q E s:=by
 have htake:sizeOk (.seq ((items.toList.drop (sIx items.size 0 lo)).take (sIx items.size items.size hi - sIx items.size 0 lo)).toArray):=by
  show ((items.toList.drop (sIx items.size 0 lo)).take (sIx items.size items.size hi - sIx items.size 0 lo)).toArray.size≤sizeLine
  rw [kI,List.length_take,List.length_drop,Array.length_toList]
  lia
 have hj:sIx items.size items.size hi≤items.size:=z89 _ _ (kh _) hi
 obtain ⟨os,hos,hcs,hds⟩:=id hs
 have hTs:s.TypeIs (.ref sl) "slice":=⟨os,hos,hcs⟩
 unfold getItem
 try with_reducible refine wpAny_holding ?_
 first | refine wpAny_bind (wpAny_pure ?_) | skip
 refine wpAny_bind (wpAny_sequenceKey ht.typeIs (by decide) ?_)
 refine wpAny_bind (wpAny_callSpecial?_slot (name:=Str.ofString "__getitem__") ht.typeIs PyProof.Rows.slot_tuple_getitem
  (wpAny_call_entry PyProof.Rows.slot_tuple_getitem ht.typeIs entry_tuple_getitem ?_ (args_tuple_getitem _ _)))
 show wpAny _ _ (Builtin.Tuple.tupleItemsOf (.ref t) >>= _) _ _ s
 refine wpAny_bind (tupleItemsOf_ ht ?_)
 refine wpAny_bind (wpAny_typeOf hTs ?_)
 rw [kE (by decide)]
 refine wpAny_bind (Ql hs pl pu ?_)
 have hno:¬((((sIx items.size 0 lo:Nat):Int) == 0&&(1:Int) == 1&&(sIx items.size items.size hi - sIx items.size 0 lo) == items.size)=true):=by
  intro q
  rw [yg,yg] at q
  have q1:((sIx items.size 0 lo:Nat):Int)=0:=eq_of_beq q.1.1
  have q2:sIx items.size items.size hi - sIx items.size 0 lo=items.size:=eq_of_beq q.2
  exact hw ⟨by lia,by lia⟩
 show wpAny _ _ (if (((sIx items.size 0 lo:Nat):Int) == 0&&(1:Int) == 1&&(sIx items.size items.size hi - sIx items.size 0 lo) == items.size)=true then _ else _) _ _ s
 rw [kD hno,z4E]
 first
  | exact wpAny_bind (m:=Builtin.Tuple.tupleExact _) (wpAny_newObj_type (wpAny_pure ⟨_,rfl,wpAny_pure h⟩) htake)
  | exact wpAny_bind (m:=Builtin.Tuple.tupleExact _) (wpAny_newObj_type (wpAny_bind (wpAny_pure (wpAny_pure ⟨_,rfl,wpAny_pure h⟩))) htake)
  | exact wpAny_bind (wpAny_bind (m:=Builtin.Tuple.tupleExact _) (wpAny_newObj_type (wpAny_pure (wpAny_pure ⟨_,rfl,wpAny_pure h⟩)) htake))
  | exact wpAny_bind (wpAny_bind (m:=Builtin.Tuple.tupleExact _) (wpAny_newObj_type (wpAny_pure ⟨_,rfl,wpAny_pure h⟩) htake))
end
end HT
namespace L2
open PySem PySem.Spec PyProof.Rows
abbrev TO:=St→Hp→(Option Int→Hp→Prop)→Prop
def PO (X:Cx) (e:Option Expr) (t:TO):Prop:=
 ∀(pins:List (Addr × Obj)) (s:Shared) (σ:St) (H:Hp) (Q:Option Int→Hp→Prop),Inv X pins σ H s→t σ H Q→
  wpAny (model X.prog X.w) X.A (evalPart e X.env) (fun u s'=>∃o H',Inv X pins σ H' s'∧IsPart u o∧Q o H') X.xe s
def z6k:TO:=fun _ H Q=>Q none H
def z9k (t:TE):TO:=fun σ H Q=>t σ H fun x H1=>∃i,x=.int i∧Q (some i) H1
section
variable {X:Cx} {e:Expr} {te:TE} {lo hi:Option Expr} {tl th:TO} {pos p2:Pos}
theorem QJ:PO X none z6k:=by
 intro pins s σ H Q I h
 rw [evalPart_none]
 exact wpAny_pure ⟨none,H,I,.none,h⟩
theorem QI (h:PE X e te):PO X (some e) (z9k te):=by
 intro pins s σ H Q I hw
 rw [evalPart_some]
 refine thn (h pins s σ H _ I hw) fun u s1 zz=>?_
 obtain ⟨x,H1,I1,r1,q1⟩:=zz
 obtain ⟨i,rfl,q⟩:=q1
 obtain ⟨t,rfl⟩:=r1
 exact ⟨some i,H1,I1,.int i t,q⟩
def SlR (X:Cx) (r:V→Option Int→Option Int→Hp→VK→Prop):Prop:=
 ∀(pins:List (Addr × Obj)) (s:Shared) (σ:St) (H:Hp) (x:V) (v vl vu:Value) (lo hi:Option Int) (sl:Addr) (Q:VK),Inv X pins σ H s→RelV x v→s.heap.IsSliceOf sl vl vu .none→IsPart vl lo→IsPart vu hi→r x lo hi H Q→
  ∃T id,typeLookup (.type T) "__getitem__"=pure (some (.builtin id))∧s.TypeIs v T∧wpAny (model X.prog X.w) X.A (getItem v (.ref sl)) (EP X pins σ Q) X.xe s
def tSl (r:V→Option Int→Option Int→Hp→VK→Prop) (te:TE) (tl th:TO):TE:=fun σ H Q=>te σ H fun x H1=>tl σ H1 fun l H2=>th σ H2 fun u H3=>r x l u H3 Q
theorem ZD {r:V→Option Int→Option Int→Hp→VK→Prop} (hr:SlR X r) (he:PE X e te) (hl:PO X lo tl) (hu:PO X hi th):PE X (.Subscript e (.Slice lo hi none p2) pos) (tSl r te tl th):=by
 intro pins s σ H Q I h
 refine Subscript_ (thn (he pins s σ H _ I h) fun v s1 zz=>?_)
 obtain ⟨x,H1,I1,r1,q1⟩:=zz
 refine wpAny_Slice (thn (hl pins s1 σ H1 _ I1 q1) fun vl s2 ⟨l,H2,I2,pl,q2⟩=>thn (hu pins s2 σ H2 _ I2 q2) fun vu s3 zz=>?_)
 obtain ⟨u,H3,I3,pu,q3⟩:=zz
 rw [evalPart_none]
 refine wpAny_pure ?_
 have I4:Inv X pins σ H3 { s3 with heap:=s3.heap.push { cls:=.type "slice",data:=.fields #[vl,vu,.none] } }:=I3.kept (t':=s3.toks) fun b ob q=>Heap.get?_push_of_some _ q
 obtain ⟨T,id,hT,ht,hg⟩:=hr pins { s3 with heap:=s3.heap.push { cls:=.type "slice",data:=.fields #[vl,vu,.none] } } σ H3 x v vl vu l u s3.heap.objs.size Q I4 r1 (Heap.IsSliceOf.new ..) pl pu q3
 show wpAny (model X.prog X.w) X.A (subscriptTail e (.Slice lo hi none p2) v (.ref s3.heap.objs.size)) (EP X pins σ Q) X.xe { s3 with heap:=s3.heap.push { cls:=.type "slice",data:=.fields #[vl,vu,.none] } }
 exact tail_any (ops:=[.ref s3.heap.objs.size,v]) ht hT hg (by with_unfolding_all rfl)
noncomputable def cutV (xs:List V) (lo hi:Option Int):List V:=(xs.drop (HT.sIx xs.length 0 lo)).take (HT.sIx xs.length xs.length hi - HT.sIx xs.length 0 lo)
theorem Zr (xs:List V) (lo hi:Option Int):(cutV xs lo hi).length≤xs.length:=by
 unfold cutV
 rw [List.length_take,List.length_drop]
 lia
def rSlT (K:kC):V→Option Int→Option Int→Hp→VK→Prop:=fun x lo hi H Q=>∃a xs,x=.ref a∧SqT K H a xs∧
 ¬(HT.sIx xs.length 0 lo=0∧HT.sIx xs.length xs.length hi=xs.length)∧∀p,H p=none→Q (.ref p) (upd H p (.tup (cutV xs lo hi)))
theorem z82:SlR X (rSlT X.K):=by
 intro pins s σ H x v vl vu lo hi sl Q I rx hs pl pu h
 obtain ⟨a,xs,rfl,hx,hw,q⟩:=h
 cases rx
 obtain ⟨its,r,ht,hz⟩:=I.tuple hx
 have hlen:its.toArray.size=xs.length:=by rw [kI];exact r.length.symm
 refine ⟨"tuple",_,PyProof.Rows.slot_tuple_getitem.lookup,ht.typeIs,?_⟩
 refine HT.getItem_tuple_cut ht hs pl pu (by rw [hlen];exact hw) ?_ (by rw [hlen];exact hz)
 rw [hlen]
 refine ⟨.ref s.heap.objs.size,_,I.laid (t':=s.toks) (o:=.tup (cutV xs lo hi)) (fun b ob q=>Heap.get?_push_of_some _ q) (kh _) ?_,rfl,q _ (I.hok.fresh (kh _))⟩
 exact ⟨kz (Zr xs lo hi) hz,_,(r.drop (HT.sIx xs.length 0 lo)).take (HT.sIx xs.length xs.length hi - HT.sIx xs.length 0 lo),IsTup.new _ _⟩
def z9E (K:kC):R2:=fun x y H Q=>∃a b xs ys,x=.ref a∧y=.ref b∧SqT K H a xs∧SqT K H b ys∧xs≠[]∧xs.length+ys.length≤sizeLine∧
 (ys=[]→Q (.ref a) H)∧(ys≠[]→∀p,H p=none→Q (.ref p) (upd H p (.tup (xs++ys))))
theorem Vals.nil_iff {xs:List V} {us:List Value} (r:Vals xs us):us=[]↔xs=[]:=by
 cases r with
 | nil=>simp
 | cons _ _=>simp
theorem z3n:OpR X (binaryOp .Add) (z9E X.K):=by
 intro pins s σ H x y v u Q I rx ry h
 obtain ⟨a,b,xs,ys,rfl,rfl,ha,hb,hx,hz,q1,q2⟩:=h
 cases rx
 cases ry
 obtain ⟨its,r1,p1,_⟩:=I.tuple ha
 obtain ⟨its2,r2,p2,_⟩:=I.tuple hb
 refine HT.cat_tup p1 p2 (fun z=>hx (r1.nil_iff.mp z)) (fun z=>⟨.ref a,H,I,rfl,q1 (r2.nil_iff.mp z)⟩) (fun z=>?_) (by rw [←r1.length,←r2.length];exact hz)
 refine ⟨.ref s.heap.objs.size,_,I.laid (t':=s.toks) (o:=.tup (xs++ys)) (fun b ob q=>Heap.get?_push_of_some _ q) (kh _) ?_,rfl,q2 (fun w=>z (r2.nil_iff.mpr w)) _ (I.hok.fresh (kh _))⟩
 exact ⟨by rw [ko];exact hz,_,r1.append r2,IsTup.new _ _⟩
end
end L2
namespace L2
open PySem PySem.Spec PyProof.Rows
noncomputable def ixN (n:Nat) (i:Int):Option Nat:=if 0≤i then (if i < n then some i.toNat else none) else if -(n:Int)≤i then some (i+n).toNat else none
noncomputable def atI {α:Type} (xs:List α) (i:Int):Option α:=(ixN xs.length i).bind fun j=>xs[j]?
theorem z3y {n:Nat} {i:Int} {j:Nat} (h:ixN n i=some j):seqIndex? i n=some j∧j < n∧-(n:Int)≤i∧i < n:=by
 unfold ixN at h
 by_cases h0:0≤i
 ·rw [kE h0] at h
  by_cases h1:i < n
  ·rw [kE h1] at h
   have e:i.toNat=j:=kF h
   exact ⟨by rw [seqIndex_of h0 h1,e],by lia,by lia,h1⟩
  ·rw [kD h1] at h;cases h
 ·rw [kD h0] at h
  by_cases h1: -(n:Int)≤i
  ·rw [kE h1] at h
   have e:(i+n).toNat=j:=kF h
   exact ⟨by rw [seqIndex_neg (by lia) h1,e],by lia,h1,by lia⟩
  ·rw [kD h1] at h;cases h
theorem z4i {α:Type} {xs:List α} {i:Int} {v:α} (h:atI xs i=some v):∃j,seqIndex? i xs.length=some j∧xs[j]?=some v∧j < xs.length∧-(xs.length:Int)≤i∧i < xs.length:=by
 unfold atI at h
 cases e:ixN xs.length i with
 | none=>rw [e] at h;cases h
 | some j=>
  rw [e] at h
  obtain ⟨h1,h2,h3,h4⟩:=z3y e
  exact ⟨j,h1,h,h2,h3,h4⟩
theorem zt {α:Type} {xs:List α} {j:Nat} {v:α} (h:xs[j]?=some v):atI xs (j:Int)=some v:=by
 have hj:j < xs.length:=(ki.mp h).1
 have e:ixN xs.length (j:Int)=some j:=by
  unfold ixN
  rw [kE (by lia),kE (by lia)];simp
 unfold atI;rw [e];exact h
theorem QC {α:Type} (xs:List α) (v:α):atI (xs++[v]) (-1)=some v:=by
 have hl:(xs++[v]).length=xs.length+1:=by simp
 have e:ixN (xs++[v]).length (-1)=some xs.length:=by
  unfold ixN
  rw [hl,kD (by decide),kE (by lia)]
  congr 1
  lia
 unfold atI
 rw [e]
 show (xs++[v])[xs.length]?=some v
 simp
def z7D (b:Expr):Prop:=∀o i,subscripted b false o i=operate [o,i] (getItem o i)
def IxR (X:Cx) (r:R2):Prop:=
 ∀(value slice:Expr) (pins:List (Addr × Obj)) (s:Shared) (σ:St) (H:Hp) (x y:V) (v u:Value) (Q:VK),Inv X pins σ H s→RelV x v→RelV y u→r x y H Q→
  subscripted slice false v u=operate [v,u] (getItem v u)→wpAny (model X.prog X.w) X.A (subscriptTail value slice v u) (EP X pins σ Q) X.xe s
def MtR (X:Cx) (id:String) (r:V→List V→Hp→VK→Prop):Prop:=
 ∀(pins:List (Addr × Obj)) (s:Shared) (σ:St) (H:Hp) (x:V) (xs:List V) (v:Value) (us:List Value) (Q:VK),Inv X pins σ H s→RelV x v→Vals xs us→r x xs H Q→
  wpAny (model X.prog X.w) X.A (call (.builtin id) (v :: us)) (EP X pins σ Q) X.xe s
section
variable {X:Cx} {a b:Expr} {ta tb:TE} {pos:Pos}
theorem qc {r:R2} (hr:IxR X r) (ha:PE X a ta) (hb:PE X b tb) (hs:z7D b):PE X (.Subscript a b pos) (tOp r ta tb):=by
 intro pins s σ H Q I h
 exact Subscript_ (binT ha hb I h fun v u s2 x y H2 I2 rx ry q=>hr a b pins s2 σ H2 x y v u Q I2 rx ry q (hs _ _))
def rIxL (K:kC):R2:=fun x y H Q=>∃p xs i v,x=.ref p∧y=.int i∧SqL K H p xs∧atI xs i=some v∧Q v H
def rIxT (K:kC):R2:=fun x y H Q=>∃p xs i v,x=.ref p∧y=.int i∧SqT K H p xs∧atI xs i=some v∧Q v H
theorem zT:IxR X (rIxL X.K):=by
 intro value slice pins s σ H x y v u Q I rx ry h hs
 obtain ⟨p,xs,i,z,rfl,rfl,hq,he,q⟩:=h
 cases rx
 obtain ⟨t,rfl⟩:=ry
 obtain ⟨its,r,pl,hz⟩:=I.list hq
 obtain ⟨j,h1,h2,h3,h4,h5⟩:=z4i he
 obtain ⟨w,ew,rw'⟩:=r.get h2
 have hl:=r.length
 have hn:=QQ
 have fin:EP X pins σ Q w s:=⟨z,H,I,rw',q⟩
 by_cases h0:0≤i
 ·have hj:i.toNat=j:=by
   rw [seqIndex_of h0 h5] at h1
   exact kF h1
  exact item_listR pl.isList h0 (by lia) (by rw [hj];simpa using ew) fin hs
 ·have hj:(i+(its.toArray.size:Int)).toNat=j:=by
   rw [seqIndex_neg (by lia) h4] at h1
   rw [kI,←hl]
   exact kF h1
  exact subscriptTail_builtinR (x:=w) pl.isList.typeIs slot_list_getitem.lookup
   (wpAny_getItem_list_neg (Q:=fun r s'=>r=w∧EP X pins σ Q r s') pl.isList (by lia) (by rw [kI] <;> lia) (by lia) (by rw [hj];simpa using ew) ⟨rfl,fin⟩) hs
theorem qE:IxR X (rIxT X.K):=by
 intro value slice pins s σ H x y v u Q I rx ry h hs
 obtain ⟨p,xs,i,z,rfl,rfl,hq,he,q⟩:=h
 cases rx
 obtain ⟨t,rfl⟩:=ry
 obtain ⟨its,r,pl,hz⟩:=I.tuple hq
 obtain ⟨j,h1,h2,h3,h4,h5⟩:=z4i he
 obtain ⟨w,ew,rw'⟩:=r.get h2
 have hl:=r.length
 have hn:=QQ
 have fin:EP X pins σ Q w s:=⟨z,H,I,rw',q⟩
 exact subscriptTail_builtinR (x:=w) pl.typeIs slot_tuple_getitem.lookup
  (getItem_tuple (j:=j) (Q:=fun r s'=>r=w∧EP X pins σ Q r s') pl (by lia) (by lia) (by rw [kI,←hl];exact h1) (by simpa using ew) ⟨rfl,fin⟩) hs
theorem z2l (its:List Value) (n j:Nat) (u:Value):Obj.mapSeq (·.setIfInBounds j u) { cls:=.type "list",data:=.seq its.toArray n }={ cls:=.type "list",data:=.seq (its.set j u).toArray n }:=by
 simp [Obj.mapSeq]
theorem Inv.lst {pins:List (Addr × Obj)} {σ:St} {H:Hp} {s:Shared} {p:Addr} {xs:List V} (I:Inv X pins σ H s) (h:H p=some (.lst xs)):
  ∃(its:List Value) (n:Nat),Vals xs its∧s.heap.get? p=some { cls:=.type "list",data:=.seq its.toArray n }∧xs.length≤sizeLine:=by
 obtain ⟨z,its,n,r,e⟩:=I.hok p _ h
 exact ⟨its,n,r,e,z⟩
theorem Inv.lstUpd {pins:List (Addr × Obj)} {σ:St} {H:Hp} {s:Shared} {p:Addr} {xs ys:List V} {its its':List Value} {n n':Nat} {f:Obj→Obj} (I:Inv X pins σ H s) (h:H p=some (.lst xs))
  (ho:s.heap.get? p=some { cls:=.type "list",data:=.seq its.toArray n }) (hf:f { cls:=.type "list",data:=.seq its.toArray n }={ cls:=.type "list",data:=.seq its'.toArray n' }) (r:Vals ys its') (hz:ys.length≤sizeLine) (t:Nat):
  Inv X pins σ (upd H p (.lst ys)) { s with heap:=s.heap.update p f,toks:=t }:=by
 have e:(s.heap.update p f).get? p=some { cls:=.type "list",data:=.seq its'.toArray n' }:=by
  rw [Heap.get?_update_self f ho (by rw [hf] <;> rfl),hf]
 refine I.write (x:=p) (e:=p) (by rw [h];trivial) (.inl rfl) (fun b u hb q=>(Heap.get?_update_other _ _ (Ne.symm hb)).trans q) ⟨_,e⟩ ?_
 exact ⟨hz,its',n',r,e⟩
def z9C:V→V→V→Hp→(Hp→Prop)→Prop:=fun o i v H Q=>∃p xs k j,o=.ref p∧i=.int k∧H p=some (.lst xs)∧ixN xs.length k=some j∧Q (upd H p (.lst (xs.set j v)))
theorem Z2:PSet X z9C:=by
 intro pins s σ H o i v ov iv u Q I ro ri rv h
 obtain ⟨p,xs,k,j,rfl,rfl,hp,hj,q⟩:=h
 cases ro
 obtain ⟨t,rfl⟩:=ri
 obtain ⟨its,n,r,ho,hz⟩:=I.lst hp
 obtain ⟨h1,h2,h3,h4⟩:=z3y hj
 have hl:=r.length
 have hn:=QQ
 have I':Inv X pins σ (upd H p (.lst (xs.set j v))) { s with heap:=s.heap.update p (Obj.mapSeq (·.setIfInBounds j u)) }:=
  I.lstUpd hp ho (z2l its n j u) (r.set rv j) (by rw [List.length_set];exact hz) s.toks
 by_cases h0:0≤k
 ·have hk:k.toNat=j:=by
   rw [seqIndex_of h0 h4] at h1
   exact kF h1
  exact PySem.W.ki_setAt ho h0 (by lia) (by rw [kI,←hl];exact h4) (by rw [hk];exact ⟨_,I',q⟩)
 ·have hk:(k+(its.toArray.size:Int)).toNat=j:=by
   rw [seqIndex_neg (by lia) h3] at h1
   rw [kI,←hl]
   exact kF h1
  exact PySem.W.ki_setBack ho (by lia) (by rw [kI,←hl];exact h3) (by lia) (by rw [hk];exact ⟨_,I',q⟩)
theorem z07 (lo hi:Option Int) (n:Nat):(sliceBounds lo hi none n).1=((HT.sIx n 0 lo:Nat):Int)∧(sliceBounds lo hi none n).2.1=((HT.sIx n n hi:Nat):Int)∧(sliceBounds lo hi none n).2.2=1:=by
 refine ⟨?_,?_,rfl⟩
 ·cases lo with
  | none=>simp [sliceBounds,HT.sIx]
  | some i=>
   simp only [sliceBounds,HT.sIx,Option.getD_none,show (1:Int) > 0 by decide,if_true]
   by_cases h:i < 0
   ·simp only [h,if_true] <;> lia
   ·simp only [h,if_false] <;> lia
 ·cases hi with
  | none=>simp [sliceBounds,HT.sIx]
  | some i=>
   simp only [sliceBounds,HT.sIx,Option.getD_none,show (1:Int) > 0 by decide,if_true]
   by_cases h:i < 0
   ·simp only [h,if_true] <;> lia
   ·simp only [h,if_false] <;> lia
theorem Jr (its:List Value) (lo hi:Option Int):slicePick its.toArray lo hi none=((its.drop (HT.sIx its.length 0 lo)).take (HT.sIx its.length its.length hi - HT.sIx its.length 0 lo)).toArray:=by
 obtain ⟨h1,h2,h3⟩:=z07 lo hi its.toArray.size
 unfold slicePick
 rw [h1,h2,h3]
 simp only [sliceRange_one,pick_run,kI] <;> rfl
def rSlL (K:kC):V→Option Int→Option Int→Hp→VK→Prop:=fun x lo hi H Q=>∃a xs,x=.ref a∧SqL K H a xs∧∀p,H p=none→Q (.ref p) (upd H p (.lst (cutV xs lo hi)))
theorem Js:SlR X (rSlL X.K):=by
 intro pins s σ H x v vl vu lo hi sl Q I rx hs pl pu h
 obtain ⟨a,xs,rfl,hx,q⟩:=h
 cases rx
 obtain ⟨its,r,ht,hz⟩:=I.list hx
 have hlen:=r.length
 refine ⟨"list",_,slot_list_getitem.lookup,ht.isList.typeIs,?_⟩
 refine wpAny_getItem_list_slice ht.isList hs pl pu .none (by simp) ?_ (by rw [kI] <;> lia)
 rw [Jr,←hlen]
 refine ⟨.ref s.heap.objs.size,_,I.laid (t':=s.toks) (o:=.lst (cutV xs lo hi)) (fun b ob q=>Heap.get?_push_of_some _ q) (kh _) ?_,rfl,q _ (I.hok.fresh (kh _))⟩
 exact ⟨kz (Zr xs lo hi) hz,_,0,(r.drop (HT.sIx xs.length 0 lo)).take (HT.sIx xs.length xs.length hi - HT.sIx xs.length 0 lo),Heap.get?_push_size _ rfl⟩
noncomputable def jW:V→Bool
 | .non=>true
 | .bl _=>true
 | .int _=>true
 | .str _=>true
 | _=>false
noncomputable def eqV:V→V→Bool
 | .non,.non=>true
 | .bl a,.bl b=>a == b
 | .bl a,.int b=>(if a then 1 else 0) == b
 | .int a,.bl b=>a == (if b then 1 else 0)
 | .int a,.int b=>a == b
 | .str a,.str b=>a == b
 | _,_=>false
theorem z3O {A:Around} {s:Shared} {y x:V} {u v:Value} (ry:RelV y u) (rx:RelV x v) (fy:jW y=true) (fx:jW x=true):SeqAt.EqAt A s u v (eqV y x):=by
 cases y with
 | non=>
  cases ry
  cases x with
  | non=>cases rx;exact SeqAt.EqAt.same _
  | bl b=>cases rx;exact SeqAt.EqAt.none_bool b
  | int b=>obtain ⟨t,rfl⟩:=rx;exact SeqAt.EqAt.none_int b t
  | str b=>obtain ⟨t,rfl⟩:=rx;exact SeqAt.EqAt.none_str b t
  | _=>exact absurd (show false=true from fx) ke
 | bl a=>
  cases ry
  cases x with
  | non=>cases rx;exact SeqAt.EqAt.bool_none a
  | bl b=>cases rx;exact SeqAt.EqAt.bool_bool a b
  | int b=>obtain ⟨t,rfl⟩:=rx;exact SeqAt.EqAt.bool_int a b t
  | str b=>obtain ⟨t,rfl⟩:=rx;exact SeqAt.EqAt.bool_str a b t
  | _=>exact absurd (show false=true from fx) ke
 | int a=>
  obtain ⟨t',rfl⟩:=ry
  cases x with
  | non=>cases rx;exact SeqAt.EqAt.int_none a t'
  | bl b=>cases rx;exact SeqAt.EqAt.int_bool a t' b
  | int b=>obtain ⟨t,rfl⟩:=rx;exact SeqAt.EqAt.int_int a t' b t
  | str b=>obtain ⟨t,rfl⟩:=rx;exact SeqAt.EqAt.int_str a t' b t
  | _=>exact absurd (show false=true from fx) ke
 | str a=>
  obtain ⟨t',rfl⟩:=ry
  cases x with
  | non=>cases rx;exact SeqAt.EqAt.str_none a t'
  | bl b=>cases rx;exact SeqAt.EqAt.str_bool a t' b
  | int b=>obtain ⟨t,rfl⟩:=rx;exact SeqAt.EqAt.str_int a t' b t
  | str b=>obtain ⟨t,rfl⟩:=rx;exact SeqAt.EqAt.str_str a t' b t
  | _=>exact absurd (show false=true from fx) ke
 | _=>exact absurd (show false=true from fy) ke
noncomputable def eqU (x:V) (u:Value):Bool:=match u with
 | .none=>eqV .non x
 | .bool b=>eqV (.bl b) x
 | .int i _=>eqV (.int i) x
 | .str z _=>eqV (.str z) x
 | _=>false
theorem z65 {x y:V} {u:Value} (r:RelV y u) (f:jW y=true):eqU x u=eqV y x:=by
 cases y with
 | non=>cases r;rfl
 | bl b=>cases r;rfl
 | int i=>obtain ⟨t,rfl⟩:=r;rfl
 | str z=>obtain ⟨t,rfl⟩:=r;rfl
 | _=>exact absurd (show false=true from f) ke
theorem J0 {x:V}:∀{xs:List V} {us:List Value},Vals xs us→xs.all jW=true→us.any (eqU x)=xs.any fun y=>eqV y x
 | _,_,.nil,_=>rfl
 | y :: xs,u :: us,.cons r t,f=>by
  rw [List.all_cons,yg] at f
  rw [List.any_cons,List.any_cons,z65 r f.1,J0 t f.2]
theorem ZG {A:Around} {s:Shared} {x:V} {v:Value} (rx:RelV x v) (fx:jW x=true):∀{xs:List V} {us:List Value},Vals xs us→xs.all jW=true→∀u∈us,SeqAt.EqAt A s u v (eqU x u)
 | _,_,.nil,_=>fun u hu=>by cases hu
 | y :: xs,u :: us,.cons r t,f=>fun u' hu=>by
  rw [List.all_cons,yg] at f
  rcases kH.mp hu with rfl | hu
  ·rw [z65 r f.1];exact z3O r rx f.1 fx
  ·exact ZG rx fx t f.2 u' hu
noncomputable def inV (x:V) (xs:List V):Bool:=xs.any fun y=>eqV y x
def rIn (K:kC) (neg:Bool):R2:=fun x y H Q=>∃p xs,y=.ref p∧(SqL K H p xs∨SqT K H p xs)∧jW x=true∧xs.all jW=true∧Q (.bl (if neg then !inV x xs else inV x xs)) H
theorem jd:OpR X (compareOp .In) (rIn X.K false):=by
 intro pins s σ H x y v u Q I rx ry h
 obtain ⟨p,xs,rfl,hq,fx,fs,q⟩:=h
 cases ry
 rcases hq with hq | hq
 ·obtain ⟨its,r,pl,hz⟩:=I.list hq
  refine SeqAt.in_listAt (eqU x) pl.isList (fun w hw=>ZG rx fx r fs w (by simpa using hw)) ⟨.bl _,H,I,rfl,?_⟩
  rw [show its.toArray.any (eqU x)=its.any (eqU x) by simp,J0 r fs]
  exact q
 ·obtain ⟨its,r,pl,hz⟩:=I.tuple hq
  refine SeqAt.in_tupleAt (eqU x) pl (fun w hw=>ZG rx fx r fs w (by simpa using hw)) ⟨.bl _,H,I,rfl,?_⟩
  rw [show its.toArray.any (eqU x)=its.any (eqU x) by simp,J0 r fs]
  exact q
theorem Qc:OpR X (compareOp .NotIn) (rIn X.K true):=by
 intro pins s σ H x y v u Q I rx ry h
 obtain ⟨p,xs,rfl,hq,fx,fs,q⟩:=h
 cases ry
 rcases hq with hq | hq
 ·obtain ⟨its,r,pl,hz⟩:=I.list hq
  refine SeqAt.notIn_listAt (eqU x) pl.isList (fun w hw=>ZG rx fx r fs w (by simpa using hw)) ⟨.bl _,H,I,rfl,?_⟩
  rw [show its.toArray.any (eqU x)=its.any (eqU x) by simp,J0 r fs]
  exact q
 ·obtain ⟨its,r,pl,hz⟩:=I.tuple hq
  refine SeqAt.notIn_tupleAt (eqU x) pl (fun w hw=>ZG rx fx r fs w (by simpa using hw)) ⟨.bl _,H,I,rfl,?_⟩
  rw [show its.toArray.any (eqU x)=its.any (eqU x) by simp,J0 r fs]
  exact q
theorem zL:Z8 X (.builtin "len") (fun xs H Q=>∃p ys,xs=[.ref p]∧(SqL X.K H p ys∨SqT X.K H p ys)∧Q (.int ys.length) H):=by
 intro pins s σ H xs us Q I r h
 obtain ⟨p,ys,rfl,hq,q⟩:=h
 obtain ⟨u,rfl,rx⟩:=QD r
 cases rx
 have hn:=QQ
 rcases hq with hq | hq
 ·obtain ⟨its,r',pl,hz⟩:=I.list hq
  have hlen:=r'.length
  exact Calls.call_len_list pl.isList (by simp only [kI] <;> lia) ⟨.int ys.length,H,I.tok _,⟨s.toks+1,by rw [kI,hlen]⟩,q⟩
 ·obtain ⟨its,r',pl,hz⟩:=I.tuple hq
  have hlen:=r'.length
  exact len_tuple pl (by simp only [kI] <;> lia) ⟨.int ys.length,H,I.tok _,⟨s.toks+1,by rw [kI,hlen]⟩,q⟩
theorem z0H:Z8 X (.builtin "len") (fun xs H Q=>∃z,xs=[.str z]∧z.length≤sizeLine∧Q (.int z.length) H):=by
 intro pins s σ H xs us Q I r h
 obtain ⟨z,rfl,hz,q⟩:=h
 obtain ⟨u,rfl,t,rfl⟩:=QD r
 have hn:=QQ
 exact len_str (by lia) ⟨.int z.length,H,I.tok _,⟨_,rfl⟩,q⟩
theorem qV:Z8 X (.type "list") (fun xs H Q=>∃p ys,xs=[.ref p]∧(SqL X.K H p ys∨SqT X.K H p ys)∧∀l,H l=none→Q (.ref l) (upd H l (.lst ys))):=by
 intro pins s σ H xs us Q I r h
 obtain ⟨p,ys,rfl,hq,q⟩:=h
 obtain ⟨u,rfl,rx⟩:=QD r
 cases rx
 have fin:∀(its:List Value),Vals ys its→ys.length≤sizeLine→∀(h':Heap) (c':Nat),(∀b o',s.heap.get? b=some o'→h'.get? b=some o')→
   h'.get? s.heap.objs.size=some { cls:=.type "list",dict:=none,data:=.seq its.toArray c',slots:=#[] }→EP X pins σ Q (.ref s.heap.objs.size) { s with heap:=h' }:=fun its r' hz h' c' kp e=>
  ⟨.ref s.heap.objs.size,_,I.laid (t':=s.toks) kp (kh _) (show qz X.prog X.w _ h' _ (.lst ys) from ⟨hz,its,c',r',e⟩),rfl,q _ (I.hok.fresh (kh _))⟩
 rcases hq with hq | hq
 ·obtain ⟨its,r',pl,hz⟩:=I.list hq
  have hlen:=r'.length
  obtain ⟨o,ho,hc,n,hd⟩:=pl.isList
  exact call_list_seq p (.inl rfl) ho hc hd (fun h' c' kp e=>fin its r' hz h' c' kp e) (by simp only [kI] <;> lia)
 ·obtain ⟨its,r',pl,hz⟩:=I.tuple hq
  have hlen:=r'.length
  obtain ⟨o,ho,hc,n,hd⟩:=pl
  exact call_list_seq p (.inr rfl) ho hc hd (fun h' c' kp e=>fin its r' hz h' c' kp e) (by simp only [kI] <;> lia)
def tyV (K:kC) (T:String) (x:V) (H:Hp):Prop:=match x with
 | .str _=>T="str"
 | .int _=>T="int"
 | .ref p=>(T="list"∧∃xs,SqL K H p xs)∨(T="tuple"∧∃o,K.lookup p=some o∧o.cls=.type "tuple"∧o.dict=none)∨
   (T="dict"∧((∃kvs,H p=some (.dK kvs))∨∃kvs,H p=some (.dT kvs)))∨(T="set"∧∃S n,H p=some (.set S n))
 | _=>False
theorem z5H {pins:List (Addr × Obj)} {σ:St} {H:Hp} {s:Shared} {T:String} {x:V} {v:Value} (I:Inv X pins σ H s) (r:RelV x v) (ty:tyV X.K T x H):
  s.TypeIs v T∧∀a,v=.ref a→∃ob,s.heap.get? a=some ob∧ob.dict=none:=by
 cases x with
 | str z=>
  obtain ⟨t,rfl⟩:=r
  cases (show T="str" from ty)
  exact ⟨typeIs_str s z t,fun _ e=>nomatch e⟩
 | int i=>
  obtain ⟨t,rfl⟩:=r
  cases (show T="int" from ty)
  exact ⟨typeIs_int s i t,fun _ e=>nomatch e⟩
 | ref p=>
  cases r
  rcases ty with ⟨rfl,xs,hq⟩ | ⟨rfl,o,hk,hc,hd⟩ | ⟨rfl,hk⟩ | ⟨rfl,S,n,hk⟩
  ·obtain ⟨its,_,pl,_⟩:=I.list hq
   refine ⟨pl.isList.typeIs,fun a e=>?_⟩
   cases e
   obtain ⟨o,n,e,c,hd,_⟩:=pl
   exact ⟨o,e,hd⟩
  ·refine ⟨⟨o,I.kIn p o hk,hc⟩,fun a e=>?_⟩
   cases e
   exact ⟨o,I.kIn _ o hk,hd⟩
  ·have z:∃o,s.heap.get? p=some o∧o.ExactDict:=by
    rcases hk with ⟨kvs,hk⟩ | ⟨kvs,hk⟩
    ·obtain ⟨_,_,_,_,o,_,_,e,ex,_⟩:=I.hok p _ hk
     exact ⟨o,e,ex⟩
    ·obtain ⟨_,_,_,_,o,_,_,e,ex,_⟩:=I.hok p _ hk
     exact ⟨o,e,ex⟩
   obtain ⟨o,e,ex⟩:=z
   refine ⟨⟨o,e,ex.1⟩,fun a e2=>?_⟩
   cases e2
   exact ⟨o,e,ex.2.1⟩
  ·obtain ⟨o,_,_,_,e,ex,_⟩:=I.hok p _ hk
   refine ⟨⟨o,e,ex.1⟩,fun a e2=>?_⟩
   cases e2
   exact ⟨o,e,ex.2.1⟩
 | _=>exact False.elim ty
def tBM0 (K:kC) (T:String) (r:V→List V→Hp→VK→Prop) (to:TE):TE:=fun σ H Q=>to σ H fun x H1=>tyV K T x H1∧r x [] H1 Q
def tBM (K:kC) (T:String) (r:V→List V→Hp→VK→Prop) (to:TE) (t:TA):TE:=fun σ H Q=>to σ H fun x H1=>tyV K T x H1∧t σ H1 fun xs H2=>r x xs H2 Q
variable {o e:Expr} {es:List Expr} {to:TE} {t:TA} {name:Str} {apos cpos:Pos} {T id:String} {r:V→List V→Hp→VK→Prop}
theorem z1G (pa:PlainAttrs T) (slot:Slot T name id) (hty:typeOf (.builtin id)=pure (.type "method_descriptor")) (hm:MtR X id r) (ho:PE X o to)
  (hbase:autoParam (attributeBase o name X.env (eval o X.env)=eval o X.env) aR._auto_1) (hline:autoParam ((apos.endLine == cpos.line)=true) aR._auto_1):PE X (.Call (.Attribute o name apos) [] [] cpos) (tBM0 X.K T r to):=by
 intro pins s σ H Q I h
 refine wpAny_Call_method0_late hbase hline (thn (ho pins s σ H _ I h) fun v s1 zz=>?_)
 obtain ⟨x,H1,I1,r1,ty,q1⟩:=zz
 obtain ⟨h1,h2⟩:=z5H I1 r1 ty
 exact ⟨T,id,pa,slot,hty,h1,h2,Calls.callWith_builtin rfl (PySem.evalArgs_none (hm pins s1 σ H1 x [] v [] Q I1 r1 .nil q1))⟩
theorem z8o (pa:PlainAttrs T) (slot:Slot T name id) (hty:typeOf (.builtin id)=pure (.type "method_descriptor")) (hm:MtR X id r) (ho:PE X o to) (ha:PA X (e :: es) t)
  (hbase:autoParam (attributeBase o name X.env (eval o X.env)=eval o X.env) aR._auto_1)
  (hfew:autoParam (((backTo cpos (starEach (e :: es) X.env)).all (fun x=> !x.1)&&(backToKw cpos (keywordEach [] X.env)).all (fun x=>x.1.isSome)
   &&decide ((e :: es).length+([]:List Keyword).length+(if ([]:List Keyword).isEmpty then 0 else 1) < 30))=true) aR._auto_1)
  (hline:autoParam ((apos.endLine == cpos.line)=true) aR._auto_1) (hs:autoParam (starEach (e :: es) X.env=(false,eval e X.env) :: starEach es X.env) aR._auto_1) (hplain:autoParam ((backTo cpos (starEach es X.env)).any (·.1)=false) aR._auto_1):
  PE X (.Call (.Attribute o name apos) (e :: es) [] cpos) (tBM X.K T r to t):=by
 intro pins s σ H Q I h
 refine wpAny_Call_method_late hbase hfew hline rfl (thn (ho pins s σ H _ I h) fun v s1 zz=>?_)
 obtain ⟨x,H1,I1,r1,ty,q1⟩:=zz
 obtain ⟨h1,h2⟩:=z5H I1 r1 ty
 refine ⟨T,id,pa,slot,hty,h1,h2,?_⟩
 have hA:=ha cpos pins s1 σ H1 _ I1 q1
 rw [hs] at hA ⊢
 refine Calls.callWith_builtin (by show (false||(backTo cpos (starEach es X.env)).any (·.1))=false;rw [hplain] <;> rfl) (Calls.evalArgs_plain ?_)
 exact thn hA fun us s2 ⟨vs,H2,I2,r2,q2⟩=>hm pins s2 σ H2 x vs v us Q I2 r1 r2 q2
end
end L2
namespace L2
open PySem PySem.Spec PyProof.Rows
def MtM (X:Cx) (id:String) (r:V→List V→Hp→VK→Prop):Prop:=
 ∀(pins:List (Addr × Obj)) (s:Shared) (σ:St) (H:Hp) (x:V) (xs:List V) (v:Value) (us:List Value) (Q:VK),Inv X pins σ H s→RelV x v→Vals xs us→r x xs H Q→
  wpAny (model X.prog X.w) X.A (call (.builtin id) (v :: us)) (EP X pins σ Q) X.xe s
theorem Vals.one:∀{x:V} {us:List Value},Vals [x] us→∃u,us=[u]∧RelV x u
 | _,_,.cons r .nil=>⟨_,rfl,r⟩
theorem Vals.zero:∀{us:List Value},Vals [] us→us=[]
 | _,.nil=>rfl
theorem Vals.dropLast {xs:List V} {us:List Value} (h:Vals xs us):Vals xs.dropLast us.dropLast:=by
 induction h with
 | nil=>exact .nil
 | cons r t ih=>
  cases t with
  | nil=>exact .nil
  | cons q t'=>exact .cons r ih
theorem Vals.eraseIdx:∀{xs:List V} {us:List Value} (i:Nat),Vals xs us→Vals (xs.eraseIdx i) (us.eraseIdx i)
 | _,_,_,.nil=>.nil
 | _,_,0,.cons _ t=>t
 | _,_,i+1,.cons r t=>.cons r (Vals.eraseIdx i t)
theorem Vals.rep {xs:List V} {us:List Value} (h:Vals xs us):∀k:Nat,Vals (List.replicate k xs).flatten (List.replicate k us).flatten
 | 0=>.nil
 | k+1=>by
  rw [List.replicate_succ,List.replicate_succ,List.flatten_cons,List.flatten_cons]
  exact Vals.append h (Vals.rep h k)
theorem z2B {α:Type} (l:List α):l.eraseIdx (l.length - 1)=l.dropLast:=by
 induction l with
 | nil=>rfl
 | cons a r ih=>
  cases r with
  | nil=>rfl
  | cons b r=>
   have e:(a :: b :: r).length - 1=((b :: r).length - 1)+1:=by
    have h1:(a :: b :: r).length=r.length+2:=rfl
    have h2:(b :: r).length=r.length+1:=rfl
    lia
   rw [e,List.eraseIdx_cons_succ,ih]
   all_goals rfl
theorem z0l {α:Type}:∀(l:List α) (i:Nat),(l.eraseIdx i).length≤l.length
 | [],_=>kh _
 | _ :: _,0=>Nat.le_succ _
 | _ :: r,i+1=>Nat.succ_le_succ (z0l r i)
theorem z0t (its:List Value):∀(k:Nat) (acc:List Value),
  List.foldl (fun x1 x2=>x1++x2) acc.toArray (List.replicate k its.toArray)=(acc++(List.replicate k its).flatten).toArray
 | 0,acc=>by simp
 | k+1,acc=>by
  have e:acc.toArray++its.toArray=(acc++its).toArray:=by simp
  have e2:(acc++its)++(List.replicate k its).flatten=acc++(List.replicate (k+1) its).flatten:=by
   rw [List.replicate_succ,List.flatten_cons,ya]
  rw [←e2,←z0t its k (acc++its),←e,List.replicate_succ,List.foldl_cons]
section
variable {X:Cx} {pins:List (Addr × Obj)} {σ:St} {H:Hp} {s:Shared} {l b:Addr} {xs ys zs:List V}
theorem Inv.lset {its its':List Value} {n:Nat} {f:Array Value→Array Value} {t':Nat} (I:Inv X pins σ H s) (hH:H l=some (.lst xs))
  (e:s.heap.get? l=some { cls:=.type "list",data:=.seq its.toArray n }) (hf:f its.toArray=its'.toArray) (hv:Vals ys its') (hz:ys.length≤sizeLine):
  Inv X pins σ (upd H l (.lst ys)) { s with heap:=s.heap.update l (Obj.mapSeq f),toks:=t' }:=by
 have q:=PySem.IsL.update e f
 rw [hf] at q
 refine I.write (x:=l) (e:=l) (by rw [hH];exact trivial) (.inl rfl) (fun b' u hb hu=>(Heap.get?_update_other s.heap (Obj.mapSeq f) (Ne.symm hb)).trans hu) ⟨_,q⟩ ?_
 exact ⟨hz,its',_,hv,q⟩
theorem Inv.lnew {its:List Value} {t':Nat} (I:Inv X pins σ H s) (hv:Vals ys its) (hz:ys.length≤sizeLine):
  Inv X pins σ (upd H s.heap.objs.size (.lst ys)) { s with heap:=s.heap.push { cls:=.type "list",data:=.seq its.toArray },toks:=t' }:=
 I.laid (fun _ _ q=>Heap.get?_push_of_some _ q) (kh _) ⟨hz,its,0,hv,Heap.get?_push_size _ rfl⟩
theorem Inv.fresh (I:Inv X pins σ H s):H s.heap.objs.size=none:=I.hok.fresh (kh _)
theorem Inv.lstM (I:Inv X pins σ H s) (hH:H l=some (.lst xs)):xs.length≤sizeLine∧∃(its:List Value) (n:Nat),Vals xs its∧xs.length=its.length∧s.heap.get? l=some { cls:=.type "list",data:=.seq its.toArray n }:=by
 obtain ⟨z,its,n,r,e⟩:=I.hok l _ hH
 exact ⟨z,its,n,r,r.length,e⟩
theorem z4N {n:Nat} (h:n≤sizeLine):Builtin.List.listTooLong n=false:=by
 unfold Builtin.List.listTooLong
 exact kj (by lia)
end
section
variable {X:Cx}
def z13:V→List V→Hp→VK→Prop:=fun x vs H Q=>∃l xs y,x=.ref l∧vs=[y]∧H l=some (.lst xs)∧xs.length < sizeLine∧Q .non (upd H l (.lst (xs++[y])))
theorem z3s:MtM X "list.append" z13:=by
 intro pins s σ H x vs v us Q I rx rv h
 obtain ⟨l,xs,y,rfl,rfl,hH,hz,q⟩:=h
 cases rx
 obtain ⟨u,rfl,ru⟩:=rv.one
 obtain ⟨z,its,n,r,hl,e⟩:=I.lstM hH
 refine call_meets F.slot_list_append ⟨_,e,rfl⟩ F.entry_list_append (F.args_list_append_2 _ _) (PySem.list_append l its.toArray n u (by rw [kI];lia)) ⟨e,?_⟩
 refine ⟨.non,_,I.lset (its':=its++[u]) hH e (by simp) (r.append (.cons ru .nil)) ?_,rfl,q⟩
 rw [ko,kJ]
 lia
def rPop:V→List V→Hp→VK→Prop:=fun x vs H Q=>∃l xs y,x=.ref l∧vs=[]∧H l=some (.lst xs)∧xs[xs.length - 1]?=some y∧Q y (upd H l (.lst xs.dropLast))
theorem z8x:MtM X "list.pop" rPop:=by
 intro pins s σ H x vs v us Q I rx rv h
 obtain ⟨l,xs,y,rfl,rfl,hH,hy,q⟩:=h
 cases rx
 have hus:=rv.zero
 subst hus
 obtain ⟨z,its,n,r,hl,e⟩:=I.lstM hH
 obtain ⟨u,hu,ru⟩:=r.get hy
 have hy':its.toArray[its.toArray.size - 1]?=some u:=by
  show its.toArray[its.length - 1]?=some u
  rw [←Array.getElem?_toList,←hl]
  exact hu
 refine call_meets F.slot_list_pop ⟨_,e,rfl⟩ F.entry_list_pop (F.args_list_pop_1 _) (MeetsSeq.list_pop_last l its.toArray n u hy' (by rw [kI];lia)) ⟨e,?_⟩
 refine ⟨y,_,I.lset (its':=its.dropLast) hH e ?_ r.dropLast ?_,ru,q⟩
 ·show its.toArray.eraseIdxIfInBounds (its.toArray.size - 1)=its.dropLast.toArray
  rw [kI,List.eraseIdxIfInBounds_toArray,z2B]
 ·rw [List.length_dropLast]
  lia
def z8g:V→List V→Hp→VK→Prop:=fun x vs H Q=>∃l xs i k y,x=.ref l∧vs=[.int i]∧H l=some (.lst xs)∧-(2 ^ 63)≤i∧i < 2 ^ 63∧seqIndex? i xs.length=some k∧xs[k]?=some y∧Q y (upd H l (.lst (xs.eraseIdx k)))
theorem z4Q:MtM X "list.pop" z8g:=by
 intro pins s σ H x vs v us Q I rx rv h
 obtain ⟨l,xs,i,k,y,rfl,rfl,hH,h1,h2,hk,hy,q⟩:=h
 cases rx
 obtain ⟨u,rfl,ru⟩:=rv.one
 obtain ⟨t,rfl⟩:=ru
 obtain ⟨z,its,n,r,hl,e⟩:=I.lstM hH
 obtain ⟨w,hw,rw'⟩:=r.get hy
 refine call_meets F.slot_list_pop ⟨_,e,rfl⟩ F.entry_list_pop (F.args_list_pop_2 _ _)
  (MeetsSeq.list_pop_at l its.toArray n i t k w (fitsIndex_both h1 h2) (by rw [kI,←hl];exact hk) (by rw [←Array.getElem?_toList];exact hw) (by rw [kI];lia)) ⟨e,?_⟩
 refine ⟨y,_,I.lset (its':=its.eraseIdx k) hH e ?_ (r.eraseIdx k) ?_,rw',q⟩
 ·show its.toArray.eraseIdxIfInBounds k=(its.eraseIdx k).toArray
  rw [List.eraseIdxIfInBounds_toArray]
 ·have:=z0l xs k
  lia
def rCat:R2:=fun x y H Q=>∃l b xs zs,x=.ref l∧y=.ref b∧H l=some (.lst xs)∧H b=some (.lst zs)∧xs.length+zs.length≤sizeLine∧∀p,H p=none→Q (.ref p) (upd H p (.lst (xs++zs)))
theorem z1J:OpR X (binaryOp .Add) rCat:=by
 intro pins s σ H x y v u Q I rx ry h
 obtain ⟨l,b,xs,zs,rfl,rfl,hH,hB,hz,q⟩:=h
 cases rx
 cases ry
 obtain ⟨z,its,n,r,hl,e⟩:=I.lstM hH
 obtain ⟨z2,its2,n2,r2,hl2,e2⟩:=I.lstM hB
 refine PySem.P.add_list e e2 ?_ (by rw [kI,kI];lia)
 have ea:its.toArray++its2.toArray=(its++its2).toArray:=by simp
 rw [ea]
 exact ⟨.ref _,_,I.lnew (t':=s.toks) (r.append r2) (by rw [ko];lia),rfl,q _ I.fresh⟩
def rRep:R2:=fun x y H Q=>∃l k xs,x=.ref l∧y=.int k∧H l=some (.lst xs)∧-(2 ^ 63)≤k∧k < 2 ^ 63∧xs.length * k.toNat≤sizeLine∧
 ∀p,H p=none→Q (.ref p) (upd H p (.lst (List.replicate k.toNat xs).flatten))
theorem z6P {α:Type} (xs:List α) (k:Nat):(List.replicate k xs).flatten.length=k * xs.length:=by
 induction k with
 | zero=>simp
 | succ k ih=>rw [List.replicate_succ,List.flatten_cons,ko,ih,Nat.succ_mul,Nat.add_comm]
theorem z8q:OpR X (binaryOp .Mult) rRep:=by
 intro pins s σ H x y v u Q I rx ry h
 obtain ⟨l,k,xs,rfl,rfl,hH,h1,h2,hz,q⟩:=h
 cases rx
 obtain ⟨t,rfl⟩:=ry
 obtain ⟨z,its,n,r,hl,e⟩:=I.lstM hH
 have hlen:its.toArray.size * k.toNat≤sizeLine:=by rw [kI,←hl];exact hz
 have hcap:¬its.toArray.size * k.toNat > (2 ^ 63 - 1) / 8:=by
  have:(sizeLine:Nat)≤(2 ^ 63 - 1) / 8:=by decide
  lia
 have hfit:¬(!Builtin.List.listFitsIndex k)=true:=by
  rw [fitsIndex_both h1 h2]
  exact ke
 have hlong:¬Builtin.List.listTooLong (its.toArray.size * k.toNat)=true:=by
  rw [z4N hlen]
  exact ke
 have hnew:List.foldl (fun x1 x2=>x1++x2) #[] (List.replicate (if its.toArray.isEmpty=true then 0 else k.toNat) its.toArray)=(List.replicate k.toNat its).flatten.toArray:=by
  have f0:∀m:Nat,List.foldl (fun x1 x2=>x1++x2) #[] (List.replicate m its.toArray)=(List.replicate m its).flatten.toArray:=fun m=>by
   have:=z0t its m []
   rw [List.nil_append] at this
   exact this
  rw [f0]
  cases its with
  | nil=>simp
  | cons a r'=>rw [kD (by simp)]
 refine wpAny_binaryOp_repeat_ref (T:="list") (U:="int") (by decide) ⟨_,e,rfl⟩ (fun s'=>typeIs_int s' k t) noFill_list_mul F.fills_int_mul F.slot_int_rmul repeat_list F.slot_int_index.lookup
  (call_meets F.slot_int_rmul (typeIs_int s k t) F.entry_int_rmul (F.args_int_rmul_2 _ _) (int___rmul___int_list k t l its.toArray n)
   ⟨e,rfl,⟨_,e,rfl⟩,call_meets F.slot_list_mul ⟨_,e,rfl⟩ F.entry_list_mul (F.args_list_mul_2 _ _) (AutoListH.list___mul___list_int_3 l its.toArray n k t hfit hcap hlong) ⟨e,?_⟩⟩)
 rw [hnew]
 exact ⟨.ref _,_,I.lnew (t':=s.toks) (r.rep k.toNat) (by rw [z6P,Nat.mul_comm];exact hz),rfl,q _ I.fresh⟩
end
section
variable {prog:Program} {w:World} {A:Around} {E:Value→Shared→Prop} {s:Shared}
set_option maxRecDepth 100000 in
end
section
variable {X:Cx}
end
end L2
namespace L2
open PySem PySem.Spec PyProof.Rows
section
variable {κ:Type} [DecidableEq κ]
noncomputable def valV (kvs:List (κ × V)) (k:κ):Option V:=(kvs.find? fun kv=>decide (kv.1=k)).map (·.2)
noncomputable def putK (kvs:List (κ × V)) (k:κ) (v:V):List (κ × V):=
 if (kvs.any fun kv=>decide (kv.1=k))=true then kvs.map (fun kv=>if kv.1=k then (kv.1,v) else kv) else kvs++[(k,v)]
noncomputable def jF (kvs:List (κ × V)) (k:κ):List (κ × V):=kvs.filter fun kv=>decide (kv.1≠k)
theorem qu {p:κ × V} {r:List (κ × V)} {k:κ} (e:p.1=k):valV (p :: r) k=some p.2:=by simp [valV,List.find?_cons,e]
theorem qp {p:κ × V} {r:List (κ × V)} {k:κ} (e:¬p.1=k):valV (p :: r) k=valV r k:=by simp [valV,List.find?_cons,e]
theorem Qt (k:κ):∀kvs:List (κ × V),(kvs.any fun kv=>decide (kv.1=k))=(valV kvs k).isSome
 | []=>rfl
 | p :: r=>by
  rw [List.any_cons]
  by_cases e:p.1=k
  ·simp only [qu e,kl e,Bool.true_or,Option.isSome_some]
  ·rw [qp e,kj e,Bool.false_or];exact Qt k r
theorem z1r (k j:κ) (y:V):∀kvs:List (κ × V),valV (kvs.map fun kv=>if kv.1=k then (kv.1,y) else kv) j=(valV kvs j).map fun x=>if j=k then y else x
 | []=>rfl
 | p :: r=>by
  have ih:=z1r k j y r
  rw [kY]
  by_cases h:p.1=k
  ·rw [kE h]
   by_cases e:p.1=j
   ·rw [qu (p:=(p.1,y)) e,qu e,Option.map_some,kE (e.symm.trans h)]
   ·rw [qp (p:=(p.1,y)) e,qp e,ih]
  ·rw [kD h]
   by_cases e:p.1=j
   ·rw [qu (p:=p) e,qu e,Option.map_some,kD (fun z=>h (e.trans z))]
   ·rw [qp (p:=p) e,qp e,ih]
theorem z00 (k j:κ) (y:V):∀kvs:List (κ × V),valV kvs k=none→valV (kvs++[(k,y)]) j=if j=k then some y else valV kvs j
 | [],_=>by
  by_cases e:k=j
  ·rw [kE e.symm];exact qu (p:=(k,y)) e
  ·rw [kD (fun z=>e z.symm)];exact qp (p:=(k,y)) e
 | p :: r,hn=>by
  rw [List.cons_append]
  have hk:¬p.1=k:=fun z=>by rw [qu z] at hn;cases hn
  rw [qp hk] at hn
  have ih:=z00 k j y r hn
  by_cases e:p.1=j
  ·rw [qu e,qu e,kD (fun z=>hk (e.trans z))]
  ·rw [qp e,qp e,ih]
theorem Qs (kvs:List (κ × V)) (k j:κ) (y:V):valV (putK kvs k y) j=if j=k then some y else valV kvs j:=by
 unfold putK
 by_cases a:(kvs.any fun kv=>decide (kv.1=k))=true
 ·rw [kE a,z1r]
  rw [Qt] at a
  by_cases e:j=k
  ·obtain ⟨x,hx⟩:=Option.isSome_iff_exists.mp a
   rw [kE e,e,hx,Option.map_some,kE rfl]
  ·rw [kD e]
   cases valV kvs j with
   | none=>rfl
   | some x=>rw [Option.map_some,kD e]
 ·rw [kD a]
  refine z00 k j y kvs ?_
  rw [Qt] at a
  cases q:valV kvs k with
  | none=>rfl
  | some x=>rw [q] at a;exact (a rfl).elim
theorem qQ (kvs:List (κ × V)) (k:κ) (v:V):(putK kvs k v).length≤kvs.length+1:=by
 unfold putK
 split
 ·rw [km];lia
 ·rw [ko,kS,List.length_nil];lia
theorem RelO.isSome_eq {o:Option V} {u:Option Value} (r:RelO o u):o.isSome=u.isSome:=by
 cases o with
 | none=>cases u with
  | none=>rfl
  | some _=>exact (show False from r).elim
 | some _=>cases u with
  | none=>exact (show False from r).elim
  | some _=>rfl
theorem RelO.getD {o:Option V} {u:Option Value} {d:V} {d':Value} (r:RelO o u) (rd:RelV d d'):RelV (o.getD d) (u.getD d'):=by
 cases o with
 | none=>cases u with
  | none=>exact rd
  | some _=>exact (show False from r).elim
 | some _=>cases u with
  | none=>exact (show False from r).elim
  | some _=>exact r
theorem KV.val {kvs:List (κ × V)} {vs:List (κ × Value)} (r:KV kvs vs) (k:κ):RelO (valV kvs k) (valueAt vs k):=by
 unfold KV at r
 induction r with
 | nil=>exact True.intro
 | @cons p q ps qs h t ih=>
  obtain ⟨h1,h2⟩:=h
  by_cases e:p.1=k
  ·have e':q.1=k:=h1.symm.trans e
   have b:valueAt (q :: qs) k=some q.2:=by simp [valueAt,List.find?_cons,e']
   rw [qu e,b];exact h2
  ·have e':¬q.1=k:=fun z=>e (h1.trans z)
   have b:valueAt (q :: qs) k=valueAt qs k:=by simp [valueAt,List.find?_cons,e']
   rw [qp e,b];exact ih
theorem KV.any {kvs:List (κ × V)} {vs:List (κ × Value)} (r:KV kvs vs) (k:κ):(kvs.any fun kv=>decide (kv.1=k))=vs.any fun kv=>decide (kv.1=k):=by
 unfold KV at r
 induction r with
 | nil=>rfl
 | cons h t ih=>rw [List.any_cons,List.any_cons,ih,h.1]
theorem KV.repl {kvs:List (κ × V)} {vs:List (κ × Value)} (r:KV kvs vs) (k:κ) {y:V} {u:Value} (ry:RelV y u):
  KV (kvs.map fun kv=>if kv.1=k then (kv.1,y) else kv) (vs.map fun kv=>if kv.1=k then (kv.1,u) else kv):=by
 unfold KV at r ⊢
 induction r with
 | nil=>exact .nil
 | @cons p q ps qs h t ih=>
  rw [kY,kY]
  refine .cons ?_ ih
  obtain ⟨h1,h2⟩:=h
  by_cases e:p.1=k
  ·rw [kE e,kE (h1.symm.trans e)];exact ⟨h1,ry⟩
  ·rw [kD e,kD (fun z=>e (h1.trans z))];exact ⟨h1,h2⟩
theorem KV.put {kvs:List (κ × V)} {vs:List (κ × Value)} (r:KV kvs vs) (k:κ) {y:V} {u:Value} (ry:RelV y u):KV (putK kvs k y) (stored vs k u):=by
 unfold putK stored
 rw [r.any k]
 by_cases e:(vs.any fun kv=>decide (kv.1=k))=true
 ·rw [kE e,kE e];exact r.repl k ry
 ·rw [kD e,kD e];exact Paired.snoc r ⟨rfl,ry⟩
theorem KV.drop {kvs:List (κ × V)} {vs:List (κ × Value)} (r:KV kvs vs) (k:κ):KV (jF kvs k) (without vs k):=by
 unfold KV at r ⊢
 unfold jF without
 induction r with
 | nil=>exact .nil
 | @cons p q ps qs h t ih=>
  obtain ⟨h1,h2⟩:=h
  rw [List.filter_cons,List.filter_cons]
  by_cases e:p.1=k
  ·have a:¬decide (p.1≠k)=true:=by simp [e]
   have b:¬decide (q.1≠k)=true:=by simp [h1.symm.trans e]
   rw [kD a,kD b];exact ih
  ·have e':¬q.1=k:=fun z=>e (h1.trans z)
   have a:decide (p.1≠k)=true:=by simp [e]
   have b:decide (q.1≠k)=true:=by simp [e']
   rw [kE a,kE b];exact .cons ⟨h1,h2⟩ ih
theorem KV.length {kvs:List (κ × V)} {vs:List (κ × Value)} (r:KV kvs vs):kvs.length=vs.length:=Paired.length r
theorem z5t (kvs:List (κ × V)) (k:κ):(jF kvs k).length≤kvs.length:=List.length_filter_le _ _
end
theorem J5 {P:Program} {w:World} {k:Key} {u:Value} (r:RelV (kV k) u):(zM P w).is k u=true:=by
 cases k with
 | inl i=>obtain ⟨t,e⟩:=(show ∃t,u=Value.int i t from r);subst e;exact z1b P w i t
 | inr x=>obtain ⟨t,e⟩:=(show ∃t,u=Value.str x t from r);subst e;exact z1a P w x t
theorem z0q {P:Program} {w:World}:∀{ks:List Key} {us:List Value},Vals (ks.map kV) us→ItemsAre (zM P w) ks us
 | [],_,r=>by rw [List.map_nil] at r;cases r;exact .nil
 | k :: ks,_,r=>by
  rw [kY] at r
  cases r with
  | cons h t=>exact .cons (J5 h) (z0q t)
abbrev KT (H:Hp):List (List Key × V)→List (List Key × Addr × Value)→Prop:=Paired fun p q=>p.1=q.1∧H q.2.1=some (.tup (p.1.map kV))∧RelV p.2 q.2.2
theorem KT.val {H:Hp} {kvs:List (List Key × V)} {xs:List (List Key × Addr × Value)} (r:KT H kvs xs) (k:List Key):RelO (valV kvs k) ((atKey xs k).map (·.2)):=by
 induction r with
 | nil=>exact True.intro
 | @cons p q ps qs h t ih=>
  obtain ⟨h1,_,h2⟩:=h
  by_cases e:p.1=k
  ·have e':q.1=k:=h1.symm.trans e
   have b:atKey (q :: qs) k=some q.2:=by simp [atKey,List.find?_cons,e']
   rw [qu e,b];exact h2
  ·have e':¬q.1=k:=fun z=>e (h1.trans z)
   have b:atKey (q :: qs) k=atKey qs k:=by simp [atKey,List.find?_cons,e']
   rw [qp e,b];exact ih
theorem KT.repl {H:Hp} {kvs:List (List Key × V)} {xs:List (List Key × Addr × Value)} (r:KT H kvs xs) (k:List Key) {y:V} {u:Value} (ry:RelV y u):
  KT H (kvs.map fun kv=>if kv.1=k then (kv.1,y) else kv) (xs.map (putAt k u)):=by
 induction r with
 | nil=>exact .nil
 | @cons p q ps qs h t ih=>
  rw [kY,kY]
  refine .cons ?_ ih
  obtain ⟨h1,h2,h3⟩:=h
  unfold putAt
  by_cases e:p.1=k
  ·rw [kE e,kE (h1.symm.trans e)];exact ⟨h1,h2,ry⟩
  ·rw [kD e,kD (fun z=>e (h1.trans z))];exact ⟨h1,h2,h3⟩
theorem KT.put {H:Hp} {kvs:List (List Key × V)} {xs:List (List Key × Addr × Value)} (r:KT H kvs xs) (k:List Key) {b:Addr} {y:V} {u:Value} (hb:H b=some (.tup (k.map kV))) (ry:RelV y u):
  KT H (putK kvs k y) (storedH xs k b u):=by
 have e:(kvs.any fun kv=>decide (kv.1=k))=(atKey xs k).isSome:=by
  rw [Qt,(r.val k).isSome_eq,Option.isSome_map]
 unfold putK storedH
 rw [e]
 by_cases q:(atKey xs k).isSome=true
 ·rw [kE q,kE q];exact r.repl k ry
 ·rw [kD q,kD q];exact Paired.snoc r ⟨rfl,hb,ry⟩
theorem KT.keeps {H H':Hp} {kvs:List (List Key × V)} {xs:List (List Key × Addr × Value)} (r:KT H kvs xs) (ht:∀b ys,H b=some (.tup ys)→H' b=some (.tup ys)):KT H' kvs xs:=
 Paired.mapP r fun _ _ z=>⟨z.1,ht _ _ z.2.1,z.2.2⟩
section
variable {P:Program} {w:World} {H:Hp} {h:Heap} {a:Addr}
theorem z8f {u:HO} (ok:HOk P w H h) (e:Rd H a u):qz P w H h a u:=e.ok ok
theorem Qp {kvs:List (Key × V)} (ok:HOk P w H h) (e:Rd H a (.dK kvs)):kvs.length≤sizeLine∧(a == sysModules)=false∧∃vs,KV kvs vs∧h.DictOf (zM P w) a vs:=
 show qz P w H h a (.dK kvs) from z8f ok e
theorem z3W {kvs:List (Key × V)} (ok:HOk P w H h) (e:H a=some (.dK kvs)):kvs.length≤sizeLine∧(a == sysModules)=false∧∃vs,KV kvs vs∧h.DictOf (zM P w) a vs:=Qp ok (.inl e)
theorem QT {ks:List Key} (ok:HOk P w H h) (e:H a=some (.tup (ks.map kV))):(tupleKind (zM P w)).is h ks a:=by
 obtain ⟨_,its,r,o,h1,h2,n,h3⟩:=(show qz P w H h a (.tup (ks.map kV)) from ok a _ e)
 exact ⟨o,its.toArray,n,h1,h2,h3,by simpa using z0q r⟩
theorem z0y {kvs:List (List Key × V)} (ok:HOk P w H h) (e:Rd H a (.dT kvs)):kvs.length≤sizeLine∧(a == sysModules)=false∧
  ∃xs,KT H kvs xs∧h.DictOfH (tupleKind (zM P w)) a xs:=by
 obtain ⟨z,y,xs,r,o,es,ep,h1,h2,h3,h4,h5⟩:=(show qz P w H h a (.dT kvs) from z8f ok e)
 refine ⟨z,y,xs,r,o,es,ep,h1,h2,h3,h4,fun x hx=>?_,h5⟩
 have all:∀{l:List (List Key × V)} {m:List (List Key × Addr × Value)},KT H l m→∀x∈m,(tupleKind (zM P w)).is h x.1 x.2.1:=by
  intro l m q
  induction q with
  | nil=>intro x hx;exact nomatch hx
  | @cons p q ps qs hq t ih=>
   intro x hx
   rcases kH.mp hx with e | hx
   ·subst e
    exact QT ok (by rw [←hq.1];exact hq.2.1)
   ·exact ih x hx
 exact all r x hx
theorem z9Y {kvs:List (List Key × V)} (ok:HOk P w H h) (e:H a=some (.dT kvs)):kvs.length≤sizeLine∧(a == sysModules)=false∧
  ∃xs,KT H kvs xs∧h.DictOfH (tupleKind (zM P w)) a xs:=z0y ok (.inl e)
end
def DGet (H:Hp) (a:Addr) (y:V) (r:Option V):Prop:=
 (∃kvs k,Rd H a (.dK kvs)∧y=kV k∧r=valV kvs k)∨∃kvs k b,Rd H a (.dT kvs)∧y=.ref b∧H b=some (.tup (k.map kV))∧r=valV kvs k
def DPut (H:Hp) (a:Addr) (y v:V) (H':Hp):Prop:=
 (∃kvs k,H a=some (.dK kvs)∧y=kV k∧kvs.length < sizeLine∧H'=upd H a (.dK (putK kvs k v)))∨
 ∃kvs k b,H a=some (.dT kvs)∧y=.ref b∧H b=some (.tup (k.map kV))∧kvs.length < sizeLine∧H'=upd H a (.dT (putK kvs k v))
theorem DGet.k {H:Hp} {a:Addr} {kvs:List (Key × V)} {k:Key} (e:H a=some (.dK kvs)):DGet H a (kV k) (valV kvs k):=.inl ⟨kvs,k,.inl e,rfl,rfl⟩
theorem DPut.k {H:Hp} {a:Addr} {kvs:List (Key × V)} {k:Key} {v:V} (e:H a=some (.dK kvs)) (hl:kvs.length < sizeLine):DPut H a (kV k) v (upd H a (.dK (putK kvs k v))):=.inl ⟨kvs,k,e,rfl,hl,rfl⟩
section
variable {X:Cx} {pins:List (Addr × Obj)} {σ:St} {H:Hp} {s:Shared} {a:Addr} {y v:V} {u r:Value} {o:Option V} {A:Around} {E:Value→Shared→Prop}
theorem Inv.big (I:Inv X pins σ H s):sysModules < s.heap.objs.size:=by
 have h:mainGlobals < s.heap.objs.size:=(I.mod.glob.keeps I.bk).lt
 exact Nat.lt_trans (by decide) h
theorem z43 {Q:Value→Shared→Prop} (hu:A.units+1 < cLine) (I:Inv X pins σ H s) (g:DGet H a y (some v)) (ry:RelV y u) (h:∀w' s',Inv X pins σ H s'→RelV v w'→Q w' s'):
  wpAny (model X.prog X.w) A (getItem (.ref a) u) Q E s:=by
 rcases g with ⟨kvs,k,e,ey,l⟩ | ⟨kvs,k,b,e,ey,eb,l⟩
 ·subst ey
  obtain ⟨z,hd,vs,rel,dd⟩:=Qp I.hok e
  obtain ⟨w',hw,rw'⟩:=RelO.some_of (v:=v) (o:=valueAt vs k) (by rw [l];exact rel.val k)
  exact wpAny_getItem_of (J5 ry) dd.mapOf hw (h w' _ (I.tok _) rw')
 ·subst ey
  cases (show u=Value.ref b from ry)
  obtain ⟨z,hd,xs,rel,dd⟩:=z0y I.hok e
  obtain ⟨w',hw,rw'⟩:=RelO.some_of (v:=v) (o:=(atKey xs k).map (·.2)) (by rw [l];exact rel.val k)
  obtain ⟨p,hp,hp2⟩:=Option.map_eq_some_iff.mp hw
  refine wpAny_getItem_heap (tupleKind_room_in1 hu) (QT I.hok eb) dd hp ?_
  rw [hp2]
  exact h w' _ (I.tok _) rw'
theorem d_in {Q:Value→Shared→Prop} (hu:A.units+1 < cLine) (I:Inv X pins σ H s) (g:DGet H a y o) (ry:RelV y u) (h:∀s',Inv X pins σ H s'→Q (.bool o.isSome) s'):
  wpAny (model X.prog X.w) A (compareOp .In u (.ref a)) Q E s:=by
 rcases g with ⟨kvs,k,e,ey,l⟩ | ⟨kvs,k,b,e,ey,eb,l⟩
 ·subst ey
  obtain ⟨z,hd,vs,rel,dd⟩:=Qp I.hok e
  refine wpAny_in_of (J5 ry) hd dd.mapOf ?_
  rw [←(rel.val k).isSome_eq,←l]
  exact h _ (I.tok _)
 ·subst ey
  cases (show u=Value.ref b from ry)
  obtain ⟨z,hd,xs,rel,dd⟩:=z0y I.hok e
  refine wpAny_in_heap (tupleKind_room_in1 hu) (QT I.hok eb) hd dd ?_
  have q:=(rel.val k).isSome_eq
  rw [Option.isSome_map] at q
  rw [←q,←l]
  exact h _ (I.tok _)
theorem z7v {Q:Value→Shared→Prop} (hu:A.units+1 < cLine) (I:Inv X pins σ H s) (g:DGet H a y o) (ry:RelV y u) (h:∀s',Inv X pins σ H s'→Q (.bool (!o.isSome)) s'):
  wpAny (model X.prog X.w) A (compareOp .NotIn u (.ref a)) Q E s:=by
 rcases g with ⟨kvs,k,e,ey,l⟩ | ⟨kvs,k,b,e,ey,eb,l⟩
 ·subst ey
  obtain ⟨z,hd,vs,rel,dd⟩:=Qp I.hok e
  refine wpAny_notIn_of (J5 ry) hd dd.mapOf ?_
  rw [←(rel.val k).isSome_eq,←l]
  exact h _ (I.tok _)
 ·subst ey
  cases (show u=Value.ref b from ry)
  obtain ⟨z,hd,xs,rel,dd⟩:=z0y I.hok e
  refine wpAny_notIn_heap (tupleKind_room_in1 hu) (QT I.hok eb) hd dd ?_
  have q:=(rel.val k).isSome_eq
  rw [Option.isSome_map] at q
  rw [←q,←l]
  exact h _ (I.tok _)
theorem QV {h':Heap} {t':Nat} {ob:HO} (I:Inv X pins σ H s) (mu:Mut (H a)) (hs:Heap.SameBut a s.heap h') (he:∃q,h'.get? a=some q) (new:qz X.prog X.w (upd H a ob) h' a ob):
  Inv X pins σ (upd H a ob) { s with heap:=h',toks:=t' }:=
 I.write (x:=a) (e:=a) mu (.inl rfl) (fun b q hb z=>(hs.2 b hb).trans z) he new
theorem z0z {P:Program} {w:World} {H':Hp} {h':Heap} {kvs:List (Key × V)} {vs:List (Key × Value)} (z:kvs.length≤sizeLine) (hd:(a == sysModules)=false) (rel:KV kvs vs) (dd:h'.DictOf (zM P w) a vs):
  qz P w H' h' a (.dK kvs):=⟨z,hd,vs,rel,dd⟩
theorem z42 {H':Hp} {Q:Unit→Shared→Prop} (hu:A.units+1 < cLine) (I:Inv X pins σ H s) (g:DPut H a y v H') (ry:RelV y u) (rv:RelV v r) (h:∀s',Inv X pins σ H' s'→Q () s'):
  wpAny (model X.prog X.w) A (setItem (.ref a) u r) Q E s:=by
 rcases g with ⟨kvs,k,e,ey,l,eH⟩ | ⟨kvs,k,b,e,ey,eb,l,eH⟩
 ·subst ey eH
  obtain ⟨z,hd,vs,rel,dd⟩:=z3W I.hok e
  have hz:vs.length≤sizeLine:=by rw [←rel.length];exact z
  have hl:(putK kvs k v).length≤sizeLine:=by have:=qQ kvs k v;lia
  refine wpAny_setItem_pairs (hsz:=hz) (J5 ry) dd fun h' dd' hs=>h _ ?_
  have he:∃q,h'.get? a=some q:=let ⟨q,_,_,hq,_⟩:=dd';⟨q,hq⟩
  exact QV I (by rw [e];exact True.intro) hs he (z0z hl hd (rel.put k rv) dd')
 ·subst ey eH
  cases (show u=Value.ref b from ry)
  obtain ⟨z,hd,xs,rel,dd⟩:=z9Y I.hok e
  have hz:xs.length≤sizeLine:=by rw [←Paired.length rel];exact z
  have hl:(putK kvs k v).length≤sizeLine:=by have:=qQ kvs k v;lia
  refine wpAny_setItem_heap (hsz:=hz) (tupleKind_room_in1 hu) (QT I.hok eb) dd fun h' dd' hs=>h _ ?_
  obtain ⟨q,es,ep,hq,h2,h3,h4,_,h5⟩:=dd'
  refine QV I (by rw [e];exact True.intro) hs ⟨q,hq⟩ ⟨hl,hd,_,(rel.put k eb rv).keeps fun c ys ec=>?_,q,es,ep,hq,h2,h3,h4,h5⟩
  rw [zf (zA ec e (fun z=>nomatch z))]
  exact ec
end
section
variable {X:Cx} {pins:List (Addr × Obj)} {σ:St} {H:Hp} {s:Shared} {a:Addr} {kvs:List (Key × V)} {k:Key} {u:Value} {A:Around} {E:Value→Shared→Prop}
theorem z9Z {v:V} {more:List Value} {Q:Value→Shared→Prop} (I:Inv X pins σ H s) (e:H a=some (.dK kvs)) (ry:RelV (kV k) u) (l:valV kvs k=some v) (hm:more=[]∨∃x,more=[x])
  (h:∀w' s',Inv X pins σ (upd H a (.dK (jF kvs k))) s'→RelV v w'→Q w' s'):wpAny (model X.prog X.w) A (call (.builtin "dict.pop") (.ref a :: u :: more)) Q E s:=by
 obtain ⟨z,hd,vs,rel,dd⟩:=z3W I.hok e
 obtain ⟨w',hw,rw'⟩:=RelO.some_of (v:=v) (o:=valueAt vs k) (by rw [←l];exact rel.val k)
 have hp:(keyPart u).isSome=true:=by
  cases k with
  | inl i=>obtain ⟨t,q⟩:=(show ∃t,u=Value.int i t from ry);subst q;rfl
  | inr x=>obtain ⟨t,q⟩:=(show ∃t,u=Value.str x t from ry);subst q;rfl
 have ha:argsOk "dict.pop" ⟨.ref a :: u :: more,[]⟩:=by
  rcases hm with q | ⟨x,q⟩
  ·subst q;exact PySem.F.args_dict_pop_2 _ _
  ·subst q;exact PySem.F.args_dict_pop_3 _ _ _
 refine call_meetsIn PySem.F.slot_dict_pop dd.typeIs PySem.F.entry_dict_pop ha (meets_dict_pop_there (zM X.prog X.w) a (J5 ry) more hm hp)
  ⟨vs,w',dd,by rw [←rel.length];exact z,hw,fun h' dd' hs=>h w' _ ?_ rw'⟩
 have he:∃q,h'.get? a=some q:=let ⟨q,_,_,hq,_⟩:=dd';⟨q,hq⟩
 exact QV I (by rw [e];exact True.intro) hs he (z0z (kz (z5t kvs k) z) hd (rel.drop k) dd')
theorem za0 {Q:Value→Shared→Prop} (I:Inv X pins σ H s) (e:Rd H a (.dK kvs)) (h:∀t s',Inv X pins σ H s'→Q (.int kvs.length t) s'):wpAny (model X.prog X.w) A (call (.builtin "len") [.ref a]) Q E s:=by
 obtain ⟨z,hd,vs,rel,dd⟩:=Qp I.hok e
 refine call_len_dict hd dd (by rw [←rel.length];rw [sizeLine_eq] at z;lia) ?_
 rw [←rel.length]
 exact h _ _ (I.tok _)
end
def NoSl (i:Expr):Prop:=∀ov iv,subscripted i false ov iv=operate [ov,iv] (getItem ov iv)
theorem z2O {prog:Program} {w:World} {A:Around} {E:Value→Shared→Prop} {s:Shared} {env:Env} {value slice:Expr} {pos:Pos} {T id:String} {Q:Value→Shared→Prop}
  (hl:typeLookup (.type T) "__getitem__"=pure (some (.builtin id))) (hs:NoSl slice)
  (h:wpAny (model prog w) A (eval value env) (fun o s₁=>wpAny (model prog w) A (eval slice env) (fun i s₂=>s₂.TypeIs o T∧wpAny (model prog w) A (getItem o i) Q E s₂) E s₁) E s):
  wpAny (model prog w) A (eval (.Subscript value slice pos) env) Q E s:=by
 refine Subscript_ (wpAny_mono h (fun o s₁ h₁=>wpAny_mono h₁ (fun i s₂ h₂=>?_) fun _ _ x=>x) fun _ _ x=>x)
 obtain ⟨hT,h₂⟩:=h₂
 unfold subscriptTail
 refine wpAny_bind ?_
 rw [getitemInPython_of_ne hT.not_modules]
 refine wpAny_bind (wpAny_specialOf hT hl ?_)
 have fin:wpAny (model prog w) A (subscripted slice false o i) (fun r s₃=>wpAny (model prog w) A (letTemporaryGo value o r >>= fun _=>pure r) Q E s₃) E s₂:=by
  rw [hs o i]
  exact wpAny_operating (wpAny_mono h₂ (fun r s₃ h₃=>wpAny_bind (wpAny_letTemporaryGo (wpAny_pure h₃))) fun _ _ x=>x)
 first
  | exact wpAny_pure (wpAny_bind fin)
  | exact wpAny_bind (wpAny_pure (wpAny_bind fin))
  | exact wpAny_bind fin
theorem z1m {X:Cx} {pins:List (Addr × Obj)} {σ:St} {H:Hp} {s:Shared} {a:Addr} {y:V} {o:Option V} (I:Inv X pins σ H s) (g:DGet H a y o):s.TypeIs (.ref a) "dict":=by
 rcases g with ⟨kvs,k,e,_,_⟩ | ⟨kvs,k,b,e,_,_,_⟩
 ·obtain ⟨_,_,vs,_,dd⟩:=Qp I.hok e
  exact dd.typeIs
 ·obtain ⟨_,_,xs,_,dd⟩:=z0y I.hok e
  exact dd.typeIs
def z9p (td ty:TE):TE:=fun σ H Q=>td σ H fun x H1=>ty σ H1 fun y H2=>∃a v,x=.ref a∧DGet H2 a y (some v)∧Q v H2
def tDIn (ty td:TE):TE:=fun σ H Q=>ty σ H fun y H1=>td σ H1 fun x H2=>∃a o,x=.ref a∧DGet H2 a y o∧Q (.bl o.isSome) H2
def z6l (ty td:TE):TE:=fun σ H Q=>ty σ H fun y H1=>td σ H1 fun x H2=>∃a o,x=.ref a∧DGet H2 a y o∧Q (.bl (!o.isSome)) H2
def z9A (td ty tv:TE):TS:=fun D σ H=>tv σ H fun v H1=>td σ H1 fun x H2=>ty σ H2 fun y H3=>∃a H4,x=.ref a∧DPut H3 a y v H4∧D.nx σ H4
section
variable {X:Cx} {o i e value:Expr} {pos pos' tpos:Pos} {td ty tv:TE}
theorem ZY (hu:X.A.units+1 < cLine) (ho:PE X o td) (hi:PE X i ty) (hs:NoSl i):PE X (.Subscript o i pos) (z9p td ty):=by
 intro pins s σ H Q I h
 refine z2O PySem.F.slot_dict_getitem.lookup hs (thn (ho pins s σ H _ I h) fun u s1 ⟨x,H1,I1,rx,q1⟩=>thn (hi pins s1 σ H1 _ I1 q1) fun iv s2 zz=>?_)
 obtain ⟨y,H2,I2,ry,a,v,ex,g,q2⟩:=zz
 subst ex
 obtain rfl:u=Value.ref a:=rx
 exact ⟨z1m I2 g,z43 hu I2 g ry fun w' s3 I3 rw'=>⟨v,H2,I3,rw',q2⟩⟩
theorem z3l (hu:X.A.units+1 < cLine) (hi:PE X i ty) (ho:PE X o td):PC X .In i o (tDIn ty td):=by
 intro pins s σ H Q I h
 refine thn (hi pins s σ H _ I h) fun iv s1 ⟨y,H1,I1,ry,q1⟩=>thn (ho pins s1 σ H1 _ I1 q1) fun u s2 zz=>?_
 obtain ⟨x,H2,I2,rx,a,ov,ex,g,q2⟩:=zz
 subst ex
 obtain rfl:u=Value.ref a:=rx
 exact d_in hu I2 g ry fun s3 I3=>⟨.bl ov.isSome,H2,I3,rfl,q2⟩
theorem z0b (hu:X.A.units+1 < cLine) (hi:PE X i ty) (ho:PE X o td):PC X .NotIn i o (z6l ty td):=by
 intro pins s σ H Q I h
 refine thn (hi pins s σ H _ I h) fun iv s1 ⟨y,H1,I1,ry,q1⟩=>thn (ho pins s1 σ H1 _ I1 q1) fun u s2 zz=>?_
 obtain ⟨x,H2,I2,rx,a,ov,ex,g,q2⟩:=zz
 subst ex
 obtain rfl:u=Value.ref a:=rx
 exact z7v hu I2 g ry fun s3 I3=>⟨.bl (!ov.isSome),H2,I3,rfl,q2⟩
theorem z16 (hu:X.A.units+1 < cLine) (ho:PE X o td) (hi:PE X i ty) (hv:PE X value tv) (hs:swapsWith value (some (.Subscript o i pos')) pos.line X.env=pure false):
  PS X (.Assign [.Subscript o i pos'] value pos) (z9A td ty tv):=by
 intro pins s σ H D I h
 refine wpAny_Assign_Subscript (thn (hv pins s σ H _ I h) fun r s1 ⟨v,H1,I1,rv,q1⟩=>thn (ho pins s1 σ H1 _ I1 q1) fun u s2 ⟨x,H2,I2,rx,q2⟩=>thn (hi pins s2 σ H2 _ I2 q2) fun iv s3 ⟨y,H3,I3,ry,a,H4,ex,g,q3⟩=>?_) hs
 subst ex
 obtain rfl:u=Value.ref a:=rx
 exact z42 hu I3 g ry rv fun s4 I4=>⟨σ,H4,I4,q3⟩
end
theorem z1W {P:Program} {w:World} {H:Hp} (h:Heap) (hb:sysModules < h.objs.size):qz P w H (h.push { cls:=.type "dict",data:=.dict #[] }) h.objs.size (.dK []):=
 ⟨Nat.zero_le _,beq_eq_false_iff_ne.mpr (Ne.symm (Nat.ne_of_lt hb)),[],.nil,Heap.DictOf.new h⟩
def z7R:TE:=fun _ H Q=>∀p,H p=none→Q (.ref p) (upd H p (.dK []))
section
variable {X:Cx} {pos:Pos}
theorem z1D:PE X (.Dict [] [] pos) z7R:=fun pins s σ H Q I h=>
 wpAny_Dict_empty ⟨.ref s.heap.objs.size,_,I.laid (a:=s.heap.objs.size) (o:=.dK []) (t':=s.toks) (fun _ _ q=>Heap.get?_push_of_some _ q) (kh _) (z1W s.heap I.big),rfl,h _ (I.hok.fresh (kh _))⟩
end
def z2M:List (TE × TE)→St→Hp→(List (V × V)→Hp→Prop)→Prop
 | [],_,H,Q=>Q [] H
 | (tk,tv) :: r,σ,H,Q=>tk σ H fun x H1=>tv σ H1 fun y H2=>z2M r σ H2 fun ps H3=>Q ((x,y) :: ps) H3
abbrev VV:List (V × V)→List (Value × Value)→Prop:=Paired fun p q=>RelV p.1 q.1∧RelV p.2 q.2
def PPs (X:Cx) (pos:Pos) (keys:List (Option Expr)) (values:List Expr) (trs:List (TE × TE)):Prop:=
 ∀(pins:List (Addr × Obj)) (s:Shared) (σ:St) (H:Hp) (Q:List (V × V)→Hp→Prop),Inv X pins σ H s→z2M trs σ H Q→
  wpAny (model X.prog X.w) X.A (evalPairs (pairTrees keys values X.env pos)) (fun vs s'=>∃ps H',Inv X pins σ H' s'∧VV ps vs∧Q ps H') X.xe s
theorem z17 {X:Cx} {pos:Pos}:PPs X pos [] [] []:=fun pins s σ H Q I h=>pairTrees_nil_walk ⟨[],H,I,.nil,h⟩
theorem ju {X:Cx} {pos:Pos} {k v:Expr} {ks:List (Option Expr)} {vs:List Expr} {tk tv:TE} {trs:List (TE × TE)} (hk:PE X k tk) (hv:PE X v tv) (hr:PPs X pos ks vs trs):
  PPs X pos (some k :: ks) (v :: vs) ((tk,tv) :: trs):=fun pins s σ H Q I h=>
 pairTrees_cons_walk (thn (hk pins s σ H _ I h) fun u s1 ⟨x,H1,I1,rx,q1⟩=>thn (hv pins s1 σ H1 _ I1 q1) fun w2 s2 ⟨y,H2,I2,ry,q2⟩=>
  thn (hr pins s2 σ H2 _ I2 q2) fun ws s3 ⟨ps,H3,I3,rel,q3⟩=>⟨(x,y) :: ps,H3,I3,.cons ⟨rx,ry⟩ rel,q3⟩)
noncomputable def ZF (kvs more:List (Key × V)):List (Key × V):=more.foldl (fun acc kv=>putK acc kv.1 kv.2) kvs
theorem KV.merge:∀{more:List (Key × V)} {rs:List (Key × Value)} {kvs:List (Key × V)} {vs:List (Key × Value)},KV more rs→KV kvs vs→KV (ZF kvs more) (merged vs rs):=by
 intro more rs kvs vs r
 unfold KV at r
 induction r generalizing kvs vs with
 | nil=>intro q;exact q
 | @cons p q ps qs h t ih=>
  intro r0
  have e:KV (putK kvs p.1 p.2) (stored vs q.1 q.2):=by
   have:=r0.put p.1 h.2
   rw [←h.1];exact this
  exact ih e
theorem ZI:∀(more kvs:List (Key × V)),(ZF kvs more).length≤kvs.length+more.length
 | [],kvs=>by show kvs.length≤kvs.length+0;lia
 | p :: r,kvs=>by
  have h1:=ZI r (putK kvs p.1 p.2)
  have h2:=qQ kvs p.1 p.2
  show (ZF (putK kvs p.1 p.2) r).length≤_
  rw [kS];lia
theorem Jn {P:Program} {w:World}:∀{kvs:List (Key × V)} {ws:List (Value × Value)},VV (kvs.map fun kv=>(kV kv.1,kv.2)) ws→∃rs,Carries (zM P w) ws rs∧KV kvs rs
 | [],_,r=>by rw [List.map_nil] at r;cases r;exact ⟨[],True.intro,.nil⟩
 | p :: kvs,_,r=>by
  rw [kY] at r
  cases r with
  | @cons a b as bs h t=>
   obtain ⟨rs,c,q⟩:=Jn (P:=P) (w:=w) t
   obtain ⟨b1,b2⟩:=b
   exact ⟨(p.1,b2) :: rs,⟨J5 h.1,rfl,c⟩,.cons ⟨rfl,h.2⟩ q⟩
def z9o (trs:List (TE × TE)):TE:=fun σ H Q=>∀p,H p=none→z2M trs σ (upd H p (.dK [])) fun ps H2=>H2 p=some (.dK [])∧∃kvs:List (Key × V),ps=kvs.map (fun kv=>(kV kv.1,kv.2))∧kvs.length≤15∧Q (.ref p) (upd H2 p (.dK (ZF [] kvs)))
theorem z19 {X:Cx} {pos:Pos} {keys:List (Option Expr)} {values:List Expr} {trs:List (TE × TE)} (h:PPs X pos keys values trs) (hall:keys.all (·.isSome)=true) (hl:keys.length=values.length) (h0:keys≠[])
  (h15:keys.length≤15):PE X (.Dict keys values pos) (z9o trs):=by
 intro pins s σ H Q I q
 have hn:=I.hok.fresh (kh s.heap.objs.size)
 have I1:=I.laid (a:=s.heap.objs.size) (o:=.dK []) (h':=s.heap.push { cls:=.type "dict",data:=.dict #[] }) (t':=s.toks) (fun _ _ q=>Heap.get?_push_of_some _ q) (kh _) (z1W s.heap I.big)
 refine wpAny_Dict_walk (knd:=zM X.prog X.w) hall hl h0 h15 (thn (h pins _ σ _ _ I1 (q _ hn)) fun ws s2 zz=>?_)
 obtain ⟨ps,H2,I2,rel,e,kvs,ep,lk,q2⟩:=zz
 subst ep
 obtain ⟨rs,c,rk⟩:=Jn (P:=X.prog) (w:=X.w) rel
 obtain ⟨z,hd,vs0,r0,dd⟩:=z3W I2.hok e
 cases r0
 refine ⟨rs,c,dd,fun h' dd' hs=>⟨.ref s.heap.objs.size,_,?_,rfl,q2⟩⟩
 have hz:(ZF [] kvs).length≤sizeLine:=by
  have h1:=ZI kvs []
  rw [List.length_nil] at h1
  rw [sizeLine_eq];lia
 have he:∃q,h'.get? s.heap.objs.size=some q:=let ⟨q,_,_,hq,_⟩:=dd';⟨q,hq⟩
 exact QV I2 (by rw [e];exact True.intro) hs he (z0z hz hd (rk.merge .nil) dd')
structure M1 (X:Cx) (o:Expr) (m:Str) (apos:Pos) (e:Expr) (cpos:Pos):Prop where
 base:attributeBase o m X.env (eval o X.env)=eval o X.env
 few:((backTo cpos (starEach [e] X.env)).all (fun x=> !x.1)&&(backToKw cpos (keywordEach [] X.env)).all (fun x=>x.1.isSome)
  &&decide (([e]:List Expr).length+([]:List Keyword).length+(if ([]:List Keyword).isEmpty then 0 else 1) < 30))=true
 line:(apos.endLine == cpos.line)=true
 trees:backTo cpos (starEach [e] X.env)=[(false,eval e X.env)]
structure M2 (X:Cx) (o:Expr) (m:Str) (apos:Pos) (e f:Expr) (cpos:Pos):Prop where
 base:attributeBase o m X.env (eval o X.env)=eval o X.env
 few:((backTo cpos (starEach [e,f] X.env)).all (fun x=> !x.1)&&(backToKw cpos (keywordEach [] X.env)).all (fun x=>x.1.isSome)
  &&decide (([e,f]:List Expr).length+([]:List Keyword).length+(if ([]:List Keyword).isEmpty then 0 else 1) < 30))=true
 line:(apos.endLine == cpos.line)=true
 trees:backTo cpos (starEach [e,f] X.env)=[(false,eval e X.env),(false,eval f X.env)]
def IsD (H:Hp) (a:Addr):Prop:=(∃kvs,Rd H a (.dK kvs))∨∃kvs,Rd H a (.dT kvs)
theorem z1N {X:Cx} {pins:List (Addr × Obj)} {σ:St} {H:Hp} {s:Shared} {a:Addr} (I:Inv X pins σ H s) (d:IsD H a):
  s.TypeIs (.ref a) "dict"∧(∀b,Value.ref a=.ref b→∃ob,s.heap.get? b=some ob∧ob.dict=none)∧(a == sysModules)=false:=by
 rcases d with ⟨kvs,e⟩ | ⟨kvs,e⟩
 ·obtain ⟨_,hd,vs,_,dd⟩:=Qp I.hok e
  refine ⟨dd.typeIs,fun b q=>?_,hd⟩
  cases q
  obtain ⟨ob,_,_,h1,h2,_⟩:=dd
  exact ⟨ob,h1,h2.2.1⟩
 ·obtain ⟨_,hd,xs,_,dd⟩:=z0y I.hok e
  refine ⟨dd.typeIs,fun b q=>?_,hd⟩
  cases q
  obtain ⟨ob,_,_,h1,h2,_⟩:=dd
  exact ⟨ob,h1,h2.2.1⟩
section
variable {X:Cx} {pins:List (Addr × Obj)} {σ:St} {H:Hp} {s:Shared} {a:Addr} {y d:V} {u r:Value} {o:Option V} {A:Around} {E:Value→Shared→Prop}
theorem z92 {Q:Value→Shared→Prop} (hu:A.units+1 < cLine) (I:Inv X pins σ H s) (g:DGet H a y o) (ry:RelV y u) (h:∀w' s',Inv X pins σ H s'→RelV (o.getD .non) w'→Q w' s'):
  wpAny (model X.prog X.w) A (call (.builtin "dict.get") [.ref a,u]) Q E s:=by
 rcases g with ⟨kvs,k,e,ey,l⟩ | ⟨kvs,k,b,e,ey,eb,l⟩
 ·subst ey
  obtain ⟨z,hd,vs,rel,dd⟩:=Qp I.hok e
  refine call_meetsIn PySem.F.slot_dict_get dd.typeIs PySem.F.entry_dict_get (PySem.F.args_dict_get_2 _ _) (meets_dict_get (zM X.prog X.w) a (J5 ry) hd) ⟨_,dd.mapOf,h _ _ (I.tok _) ?_⟩
  rw [l]
  exact (rel.val k).getD rfl
 ·subst ey
  cases (show u=Value.ref b from ry)
  obtain ⟨z,hd,xs,rel,dd⟩:=z0y I.hok e
  refine call_meetsIn PySem.F.slot_dict_get dd.typeIs PySem.F.entry_dict_get (PySem.F.args_dict_get_2 _ _) (meetsH_dict_get (tupleKind (zM X.prog X.w)) a b hd) ⟨tupleKind_room_in1 hu,k,xs,QT I.hok eb,dd,h _ _ (I.tok _) ?_⟩
  rw [l]
  exact (rel.val k).getD rfl
theorem z91 {Q:Value→Shared→Prop} (hu:A.units+1 < cLine) (I:Inv X pins σ H s) (g:DGet H a y o) (ry:RelV y u) (rd:RelV d r) (h:∀w' s',Inv X pins σ H s'→RelV (o.getD d) w'→Q w' s'):
  wpAny (model X.prog X.w) A (call (.builtin "dict.get") [.ref a,u,r]) Q E s:=by
 rcases g with ⟨kvs,k,e,ey,l⟩ | ⟨kvs,k,b,e,ey,eb,l⟩
 ·subst ey
  obtain ⟨z,hd,vs,rel,dd⟩:=Qp I.hok e
  refine call_meetsIn PySem.F.slot_dict_get dd.typeIs PySem.F.entry_dict_get (PySem.F.args_dict_get_3 _ _ _) (meets_dict_get_default (zM X.prog X.w) a (J5 ry) hd r) ⟨_,dd.mapOf,h _ _ (I.tok _) ?_⟩
  rw [l]
  exact (rel.val k).getD rd
 ·subst ey
  cases (show u=Value.ref b from ry)
  obtain ⟨z,hd,xs,rel,dd⟩:=z0y I.hok e
  refine call_meetsIn PySem.F.slot_dict_get dd.typeIs PySem.F.entry_dict_get (PySem.F.args_dict_get_3 _ _ _) (meetsH_dict_get_default (tupleKind (zM X.prog X.w)) a b hd r) ⟨tupleKind_room_in1 hu,k,xs,QT I.hok eb,dd,h _ _ (I.tok _) ?_⟩
  rw [l]
  exact (rel.val k).getD rd
end
def z7T (td ty:TE):TE:=fun σ H Q=>td σ H fun x H1=>∃a,x=.ref a∧IsD H1 a∧ty σ H1 fun y H2=>∃o,DGet H2 a y o∧Q (o.getD .non) H2
def z7S (td ty tx:TE):TE:=fun σ H Q=>td σ H fun x H1=>∃a,x=.ref a∧IsD H1 a∧ty σ H1 fun y H2=>tx σ H2 fun z H3=>∃o,DGet H3 a y o∧Q (o.getD z) H3
def z7Q (td ty:TE):TE:=fun σ H Q=>td σ H fun x H1=>∃a,x=.ref a∧IsD H1 a∧ty σ H1 fun y H2=>∃kvs k v,H2 a=some (.dK kvs)∧y=kV k∧valV kvs k=some v∧Q v (upd H2 a (.dK (jF kvs k)))
section
variable {X:Cx} {o e f:Expr} {apos cpos:Pos} {td ty tx:TE}
theorem Qy (hu:X.A.units+1 < cLine) (ho:PE X o td) (he:PE X e ty) (m:M1 X o "get" apos e cpos):PE X (.Call (.Attribute o "get" apos) [e] [] cpos) (z7T td ty):=by
 intro pins s σ H Q I h
 refine wpAny_Call_method m.base m.few m.line PySem.F.plainAttrs_dict PySem.F.slot_dict_get PySem.F.type_dict_get (thn (ho pins s σ H _ I h) fun u s1 zz=>?_)
 obtain ⟨x,H1,I1,rx,a,ex,d,q1⟩:=zz
 subst ex
 obtain rfl:u=Value.ref a:=rx
 obtain ⟨t1,t2,_⟩:=z1N I1 d
 refine ⟨t1,t2,?_⟩
 rw [m.trees]
 refine Calls.callWith_builtin rfl (Calls.evalArgs_plain (Calls.spliced_cons (thn (he pins s1 σ H1 _ I1 q1) fun iv s2 ⟨y,H2,I2,ry,ov,g,q2⟩=>Calls.spliced_nil ?_)))
 exact z92 hu I2 g ry fun w' s3 I3 rw'=>⟨_,H2,I3,rw',q2⟩
theorem z4J (hu:X.A.units+1 < cLine) (ho:PE X o td) (he:PE X e ty) (hf:PE X f tx) (m:M2 X o "get" apos e f cpos):PE X (.Call (.Attribute o "get" apos) [e,f] [] cpos) (z7S td ty tx):=by
 intro pins s σ H Q I h
 refine wpAny_Call_method m.base m.few m.line PySem.F.plainAttrs_dict PySem.F.slot_dict_get PySem.F.type_dict_get (thn (ho pins s σ H _ I h) fun u s1 zz=>?_)
 obtain ⟨x,H1,I1,rx,a,ex,d,q1⟩:=zz
 subst ex
 obtain rfl:u=Value.ref a:=rx
 obtain ⟨t1,t2,_⟩:=z1N I1 d
 refine ⟨t1,t2,?_⟩
 rw [m.trees]
 refine Calls.callWith_builtin rfl (Calls.evalArgs_plain (Calls.spliced_cons (thn (he pins s1 σ H1 _ I1 q1) fun iv s2 ⟨y,H2,I2,ry,q2⟩=>
  Calls.spliced_cons (thn (hf pins s2 σ H2 _ I2 q2) fun fv s3 ⟨z,H3,I3,rz,ov,g,q3⟩=>Calls.spliced_nil ?_))))
 exact z91 hu I3 g ry rz fun w' s4 I4 rw'=>⟨_,H3,I4,rw',q3⟩
theorem z4I (ho:PE X o td) (he:PE X e ty) (m:M1 X o "pop" apos e cpos):PE X (.Call (.Attribute o "pop" apos) [e] [] cpos) (z7Q td ty):=by
 intro pins s σ H Q I h
 refine wpAny_Call_method m.base m.few m.line PySem.F.plainAttrs_dict PySem.F.slot_dict_pop PySem.F.type_dict_pop (thn (ho pins s σ H _ I h) fun u s1 zz=>?_)
 obtain ⟨x,H1,I1,rx,a,ex,d,q1⟩:=zz
 subst ex
 obtain rfl:u=Value.ref a:=rx
 obtain ⟨t1,t2,_⟩:=z1N I1 d
 refine ⟨t1,t2,?_⟩
 rw [m.trees]
 refine Calls.callWith_builtin rfl (Calls.evalArgs_plain (Calls.spliced_cons (thn (he pins s1 σ H1 _ I1 q1) fun iv s2 ⟨y,H2,I2,ry,kvs,k,v,ea,ey,l,q2⟩=>Calls.spliced_nil ?_)))
 subst ey
 exact z9Z I2 ea ry l (.inl rfl) fun w' s3 I3 rw'=>⟨v,_,I3,rw',q2⟩
end
section
variable {X:Cx} {pins:List (Addr × Obj)} {σ:St} {H:Hp} {s:Shared} {a:Addr} {kvs:List (Key × V)} {A:Around} {E:Value→Shared→Prop}
theorem z5v {Q:Value→Shared→Prop} (I:Inv X pins σ H s) (e:Rd H a (.dK kvs)) (h:∀p s',H p=none→Inv X pins σ (upd H p (.dK kvs)) s'→Q (.ref p) s'):wpAny (model X.prog X.w) A (call (.type "dict") [.ref a]) Q E s:=by
 obtain ⟨z,hd,vs,rel,dd⟩:=Qp I.hok e
 refine kt_call_dict hd dd (by rw [←rel.length];exact z) fun h' dd' hs=>?_
 refine h _ _ (I.hok.fresh (kh _)) (I.laid (a:=s.heap.objs.size) (o:=.dK kvs) (t':=s.toks) (fun b q hq=>?_) (kh _) (z0z z (beq_eq_false_iff_ne.mpr (Ne.symm (Nat.ne_of_lt I.big))) rel dd'))
 exact (hs.2 b (Nat.ne_of_lt (Heap.lt_size hq))).trans (Heap.get?_push_of_some _ hq)
end
section
variable {X:Cx} {pins:List (Addr × Obj)} {σ:St} {H:Hp} {s:Shared} {a:Addr} {y:V} {u:Value} {A:Around} {E:Value→Shared→Prop}
end
end L2
namespace Att
open PySem PySem.W PySem.Calls PyProof.Rows
theorem QU {P:Params} {h:Heap}:∀(ns:List Int) (vs:List Value),WellAll P h vs (ns.map WData.int)→IntsAre vs ns:=by
 intro ns
 induction ns with
 | nil=>
  intro vs w
  rw [List.map_nil] at w
  cases w
  exact .nil
 | cons n ns ih=>
  intro vs w
  rw [kY] at w
  cases w with
  | cons a b=>
   cases a
   exact .cons _ _ (ih _ b)
theorem z37 {l:OpenLaw} {n:Nat} (hn:l.most=some n) {P:Params} {h:Heap} {args:List WData} {vals:List Value}
  (hpre:l.row.toRowW.claim.pre args=true) (hwl:WellAll P h vals args):
  ∃a vs ns,vals=[Value.ref a]∧args=[WData.list (ns.map WData.int)]∧h.get? a=some { cls:=.type "list",data:=.seq vs.toArray }∧IntsAre vs ns∧ns.length≤n:=by
 have hsh:WShape.hasAll [] args [.list .int]=true:=(pre_splitW hpre).1
 have hc:l.pre.holds [] { args:=args }=true:=(pre_splitW hpre).2
 obtain ⟨d,r,rfl,h1,h2⟩:=hasAllW_cons hsh
 obtain rfl:=hasAllW_nil h2
 obtain ⟨xs,rfl,h3⟩:=hasW_list h1
 obtain ⟨ns,rfl⟩:=items_int h3
 have hlen:ns.length≤n:=by
  unfold OpenLaw.pre at hc
  have h4:(WTm.not (.lt (.lit (.int (n:Int))) (.len (.arg 0)))).holds [] { args:=[.list (ns.map .int)] }=true:=by
   have h4:=(holds_andW hc).1
   rw [hn] at h4
   exact h4
  have h5:=condW_of h4 (w_not (w_lt w_lit (w_len_list (w_arg rfl))))
  rw [km] at h5
  refine Nat.le_of_not_lt fun q=>?_
  have q':(n:Int) < ((ns.length:Nat):Int):=by lia
  first
   | (rw [kl q'] at h5;exact absurd h5 (by decide))
   | (simp at h5;lia)
 cases hwl with
 | cons w1 w2=>
  cases w2
  cases w1 with
  | list ho hall=>exact ⟨_,_,ns,rfl,rfl,ho,QU ns _ hall,hlen⟩
theorem z3e (l:OpenLaw) (args:List WData):l.row.toRowW.claim.post args (.bool true) args=true:=
 postW_of (r:=l.row.toRowW) (X:=(true == true))
  (show WShape.has [] (.bool true) .bool=true by first | rfl | decide | simp [WShape.has,WShape.arms,WShape.armsAll])
  (show (WTm.eq .res (.lit (.bool true))).value [] { args:=args,res:=some (.bool true),after:=args }=some (.bool (true == true)) from w_eq_bool (w_res rfl) w_lit) rfl
theorem attach_call {l:OpenLaw} {n:Nat} {q:Program} {loose:List Str} {XP:(Str→Option Value)→Heap→Prop} {YP:World→Heap→Prop} {d:DefRec}
  (hn:l.most=some n) (hdf:d.params.defaults=[])
  (call:∀(w:World) (s₀ s₁:Shared) (mg mb:Str→Option Value) (fa:Addr) (o:Obj) (pm cd doc:Value) (a:Addr) (vs:List Value) (ns:List Int),
   Ground q loose [] XP w s₀ mg mb s₁.heap→YP w s₁.heap→
   s₁.heap.get? fa=some o→o.data=.func (docDef d.name d.params d.body d.scope pm cd doc)→s₁.heap.CodeRec cd d.name→mg d.name=some (.ref fa)→
   s₁.heap.get? a=some { cls:=.type "list",data:=.seq vs.toArray }→IntsAre vs ns→ns.length≤n→s₁.gens=#[]→
   codeAny (model l.prog w) callerA (.call (.ref fa) ⟨[.ref a],[]⟩) (fun r s'=>r=.ok (.ret (.bool true))∧OldK s₁.heap s'.heap∧s'.os=s₁.os∧AllBare s'.gens) s₁):
  WalkO q loose XP YP l.row.toRowW d [] (fun f vs=>PySem.call f vs):=by
 intro w s₀ s₁ mg mb G Y fa o pm cd doc dV kV ho hd hcd hD hmg hg args vals as hpre hlay hrd hwl hlo
 obtain rfl:dV=.none:=Dflts.none hD hdf
 obtain rfl:kV=.none:=Dflts.noKw hD
 obtain ⟨a,vs,ns,rfl,rfl,hobj,hints,hlen⟩:=z37 hn hpre hwl
 refine enter_call (codeAny_mono (call w s₀ s₁ mg mb fa o pm cd doc a vs ns G Y ho (fd_plain hd) hcd hmg hobj hints hlen hg) fun r s' hq=>?_)
 obtain ⟨rfl,h2,h3,h4⟩:=hq
 exact ⟨.inl ⟨.bool true,.bool true,[],rfl,fun _=>rfl,.bool true,z3e l _,fun _=>⟨List.Pairwise.nil,fun _ hm=>(nomatch hm)⟩⟩,h2,h3,h4⟩
section
variable {prog:Program} {w:World} {A:Around} {E:Value→Shared→Prop} {s:Shared} {K:Frag}
end
end Att
namespace L2
open PySem PySem.Spec PyProof.Rows
theorem JZ:∀{vs:List Value} {ns:List Int},IntsAre vs ns→Vals (ns.map V.int) vs
 | _,_,.nil=>.nil
 | _,_,.cons n t h=>.cons ⟨t,rfl⟩ (JZ h)
def Only (H:Hp):Prop:=∀b,H b=none∨∃o xs,H b=some (.frz o (.lst xs))
theorem z4W {P:Program} {w:World} {K:kC} {mg mb:Str→Option Value} {CX:CXT} {k:Nat} {fa a:Addr} {fd:FuncData} {x:Str} {sp:Sp} {s₁:Shared} {vs:List Value} {ns:List Int}
  (KX:K.In s₁.heap) (hns:s₁.heap.Ns mainGlobals mg) (hb:s₁.heap.Ns builtinsNs mb) (hbb:∀x:Str,x≠"__name__"→mb x=bootBuiltins x) (hlim:s₁.heap.NoLimit) (hg:s₁.gens=#[])
  (ha:s₁.heap.get? a=some { cls:=.type "list",data:=.seq vs.toArray }) (hi:IntsAre vs ns) (hl:ns.length≤sizeLine) (hr:Room k callerA)
  (F:∀base:Heap,K.In base→base.Ns mainGlobals mg→FnOk P w K mg base CX k fa fd [x] sp) (hbind:∀(s:Shared) (u:Value),BindsTo s fd ⟨[u],[]⟩ [(x,u)])
  (hsp:∀H:Hp,Only H→SqL K H a (ns.map V.int)→sp [.ref a] H (fun v _=>v=.bl true) fun _ _ _=>False)
  (hCX:∀H e s',CX [] H s₁ (fun _ _ _=>False) e s'→False):
  codeAny (model P w) callerA (.call (.ref fa) ⟨[.ref a],[]⟩) (fun r s'=>r=.ok (.ret (.bool true))∧OldK s₁.heap s'.heap∧s'.os=s₁.os∧AllBare s'.gens) s₁:=by
 have rv:=JZ hi
 have lenV:=hi.length
 have core:∀H:Hp,Only H→SqL K H a (ns.map V.int)→HOk P w H s₁.heap→(∀b,H b≠none→b=a)→(H a≠none→K.lookup a=none)→
   codeAny (model P w) callerA (.call (.ref fa) ⟨[.ref a],[]⟩) (fun r s'=>r=.ok (.ret (.bool true))∧OldK s₁.heap s'.heap∧s'.os=s₁.os∧AllBare s'.gens) s₁:=by
  intro H hO hS hok hA hK
  have base_of:∀{b:Addr} {o:Obj},s₁.heap.get? b=some o→H b=none→(hidT s₁.heap H).get? b=some o:=fun e n=>z50 e n
  have noA:∀{b:Addr} {o:Obj} {es:Array DictEntry} {ep:Nat},s₁.heap.get? b=some o→o.data=.dict es ep→H b=none:=fun {b o es ep} e d=>by
   cases q:H b with
   | none=>rfl
   | some u=>
    have e':b=a:=hA b (by rw [q];simp)
    subst e'
    rw [ha] at e;cases e
    have d':Data.seq vs.toArray _=Data.dict es ep:=d
    cases d'
  have nsK:∀{b:Addr} {m:Str→Option Value},s₁.heap.Ns b m→(hidT s₁.heap H).Ns b m:=fun {b m} ⟨o,es,ep,e,d,r⟩=>⟨o,es,ep,base_of e (noA e d),d,r⟩
  have hKb:K.In (hidT s₁.heap H):=fun b o e=>base_of (KX b o e) (by
   cases q:H b with
   | none=>rfl
   | some u=>
    have e':b=a:=hA b (by rw [q];simp)
    subst e'
    rw [hK (by rw [q];simp)] at e;cases e)
  have hM:Mod K mg (hidT s₁.heap H):=⟨hKb,nsK hns,⟨mb,nsK hb,hbb⟩,let ⟨mc,h1,h2⟩:=hlim;⟨mc,nsK h1,h2⟩⟩
  have e0:Env0 P w K mg (hidT s₁.heap H) callerA [] s₁ H:=⟨rfl,hM,fun b o e=>z6K e,yb (z3B _ _),trivial,fun b hb=>absurd (show b∈([]:List Addr) from hb) (by simp),hok,.of_eq hg⟩
  refine codeAny_mono ((F _ hKb (nsK hns)).run callerA [] s₁ H ⟨[.ref a],[]⟩ [.ref a] [.ref a] _ _ hr e0 (hbind s₁ (.ref a)) (.cons rfl .nil) (hsp H hO hS)) fun r s' h=>?_
  cases r with
  | error e=>exact (hCX H e s' h).elim
  | ok fl=>
   cases fl with
   | next=>exact False.elim h
   | brk=>exact False.elim h
   | cont=>exact False.elim h
   | ret u=>
    obtain ⟨v,H',os,bare,un,hok',r',q⟩:=h
    have q':v=.bl true:=q
    subst q'
    obtain rfl:u=Value.bool true:=r'
    refine ⟨rfl,OldK.of_keep fun b o e=>?_,os,bare⟩
    cases q:H b with
    | none=>exact un.keep b o e q (by intro z;exact absurd (show b∈([]:List Addr) from z) (by simp)) (by simp)
    | some u=>
     rcases hO b with z | ⟨ob,xs,z⟩
     ·rw [q] at z;cases z
     ·have z2:=un.frzs b ob _ z
      obtain ⟨e1,_⟩:=hok b _ z
      obtain ⟨e2,_⟩:=hok' b _ z2
      rw [e] at e1;cases e1
      exact e2
 cases hk:K.lookup a with
 | some o=>
  have e:=KX a o hk
  rw [ha] at e
  cases e
  refine core (fun _=>none) (fun _=>.inl rfl) (.inr ⟨_,vs.toArray,_,hk,rfl,rfl,rfl,by rw [kI,lenV];exact hl,by simpa using rv⟩) (fun b u z=>by have z':(none:Option HO)=some u:=z;cases z') (fun b z=>absurd rfl z) fun z=>absurd rfl z
 | none=>
  refine core (fun b=>if b=a then some (.frz { cls:=.type "list",data:=.seq vs.toArray } (.lst (ns.map V.int))) else none) (fun b=>?_) (.inl (.inr ⟨{ cls:=.type "list",data:=.seq vs.toArray },kE rfl⟩)) (fun b u z=>?_) (fun b z=>?_) fun _=>hk
  ·by_cases hb:b=a
   ·exact .inr ⟨_,_,kE hb⟩
   ·exact .inl (kD hb)
  ·by_cases hb:b=a
   ·have z':=(kE hb).symm.trans z
    cases z'
    subst hb
    exact ⟨ha,by rw [km];exact hl,vs,_,rv,ha⟩
   ·have z':=(kD hb).symm.trans z
    cases z'
  ·by_cases hb:b=a
   ·exact hb
   ·exact absurd (kD hb) z
end L2
namespace L2
open PySem PySem.Spec PyProof.Rows
theorem z6c {l:PySem.W.OpenLaw} {n k:Nat} {q:Program} {loose:List Str} {XP:(Str→Option Value)→Heap→Prop} {YP:World→Heap→Prop} {d:DefRec} {K:Params→kC} {CX:World→CXT} {sp:World→Sp} {x:Str}
  (hn:l.most=some n) (hn2:n≤sizeLine) (hdf:d.params.defaults=[]) (hr:Room k callerA)
  (hY:∀(w:World) (h:Heap),YP w h→(K w.params).In h)
  (F:∀(w:World) (mg:Str→Option Value) (fa:Addr) (h:Heap),(K w.params).In h→h.Ns mainGlobals mg→mg d.name=some (.ref fa)→
   ∃fd:FuncData,(∀(s:Shared) (u:Value),BindsTo s fd ⟨[u],[]⟩ [(x,u)])∧
    ∀base:Heap,(K w.params).In base→base.Ns mainGlobals mg→FnOk l.prog w (K w.params) mg base (CX w) k fa fd [x] (sp w))
  (hsp:∀(w:World) (H:Hp) (a:Addr) (ns:List Int),ns.length≤n→Only H→SqL (K w.params) H a (ns.map V.int)→sp w [.ref a] H (fun v _=>v=.bl true) fun _ _ _=>False)
  (hCX:∀(w:World) (H:Hp) (s:Shared) (e:Value) (s':Shared),CX w [] H s (fun _ _ _=>False) e s'→False):
  PySem.W.WalkO q loose XP YP l.row.toRowW d [] (fun f vs=>PySem.call f vs):=by
 refine Att.attach_call hn hdf fun w s₀ s₁ mg mb fa o pm cd doc a vs ns G Y ho hd hcd hmg hobj hints hlen hg=>?_
 have KX:=hY w _ Y
 obtain ⟨fd,hb,hF⟩:=F w mg fa _ KX G.T.g hmg
 exact z4W KX G.T.g G.T.b G.T.builtins G.T.nolimit hg hobj hints (kz hlen hn2) hr hF hb (fun H hO hS=>hsp w H a ns hlen hO hS) fun H e s'=>hCX w H s₁ e s'
end L2
namespace L2
open PySem PySem.Spec PyProof.Rows
noncomputable def qr (s:Stmt):Arguments:=match s with
 | .FunctionDef _ a _ _ _ _ _ _ _ _=>a
 | _=>{ posonlyargs:=[],args:=[],vararg:=none,kwonlyargs:=[],kw_defaults:=[],kwarg:=none,defaults:=[] }
noncomputable def zK (s:Stmt):List Stmt:=match s with
 | .FunctionDef _ _ b _ _ _ _ _ _ _=>b
 | _=>[]
noncomputable def zc (s:Stmt):Scope:=match s with
 | .FunctionDef _ _ _ _ _ _ sc _ _ _=>sc
 | _=>{ kind:=.function,names:=[],isGenerator:=false,isCoroutine:=false }
abbrev CX0:CXT:=fun _ _ _ _ _ _=>False
abbrev E0:XK:=fun _ _ _=>False
theorem z2e {X:Cx}:J2 CX0 X E0:=fun _ _ _ _ _ _ _ h=>h.elim
structure Fun (K:kC) (x qual:Str) (st:Stmt) (f:Addr) (fd:FuncData):Prop where
 ex:∃(oc:Value) (od:Option Addr) (kV doc pm:Value) (an:Option Addr) (cdv ct:Value) (osl:Array (Option Value)),
  fd=PySem.W.fnOf x qual (qr st) (zK st) (zc st) .none kV doc pm an cdv ct∧K.lookup f=some ⟨oc,od,.func fd,osl⟩∧PySem.W.codeIn K cdv qual=true
 kp:PySem.W.keepIn K (.ref f)=true
section
variable {P:Program} {w:World} {K:kC} {mg:Str→Option Value} {base:Heap}
theorem Fun.ok {x qual:Str} {st:Stmt} {f:Addr} {fd:FuncData} {N ps:List Str} {k:Nat} {sp:Sp} (F:Fun K x qual st f fd) (S:zi N ps (zc st)) (len:∀vs H Q E,sp vs H Q E→vs.length=ps.length)
  (hbody:∀(cdv:Value) (A:Around) (outer:List Env) (s:Shared) (H:Hp) (vs:List V) (Q:VK) (E:XK),Room k (A.deeper (envOfC qual (zc st) s.heap.objs.size f cdv))→sp vs H Q E→
   ∃t,PSs (cxOf CX0 P w K mg base N qual (zc st) f cdv A outer s H E).nox (zK st) t∧t { nx:=fun _ H'=>Q .non H',rt:=Q } (jq N vs) H):FnOk P w K mg base CX0 (k+1) f fd ps sp:=by
 obtain ⟨oc,od,kV,doc,pm,an,cdv,ct,osl,rfl,lk,hcd⟩:=F.ex
 refine z8R lk hcd S len fun A outer s H vs Q E hr hsp=>?_
 obtain ⟨t,h,q⟩:=hbody cdv A outer s H vs Q E hr hsp
 exact ⟨t,h.nox,q⟩
theorem Fun.binds {x qual:Str} {st:Stmt} {f:Addr} {fd:FuncData} {ps:List Str} (F:Fun K x qual st f fd)
  (h:∀(kV doc pm:Value) (an:Option Addr) (cdv ct:Value) (us:List Value),us.length=ps.length→bindArgs (PySem.W.fnOf x qual (qr st) (zK st) (zc st) .none kV doc pm an cdv ct) ⟨us,[]⟩=pure (ps.zip us)):Z9 K fd ps []:=by
 obtain ⟨oc,od,kV,doc,pm,an,cdv,ct,osl,rfl,lk,hcd⟩:=F.ex
 exact .all (h kV doc pm an cdv ct)
theorem z1Q {x qual:Str} {st:Stmt} {f:Addr} {oc:Value} {od an:Option Addr} {osl:Array (Option Value)} {kV doc pm cdv ct:Value} (l:K.lookup f=some ⟨oc,od,.func (PySem.W.fnOf x qual (qr st) (zK st) (zc st) .none kV doc pm an cdv ct),osl⟩)
  (c:PySem.W.codeIn K cdv qual=true) (k:PySem.W.keepIn K (.ref f)=true):Fun K x qual st f (PySem.W.fnOf x qual (qr st) (zK st) (zc st) .none kV doc pm an cdv ct):=⟨⟨oc,od,kV,doc,pm,an,cdv,ct,osl,rfl,l,c⟩,k⟩
end
theorem Qo {A:Around} {k:Nat} (hr:Room k A):A.units+1 < cLine:=Nat.lt_of_le_of_lt (Nat.add_le_add_left (by decide:1≤64) _) hr.units
theorem qG {n:Nat} (h:n≤1000):n < sizeLine:=Nat.lt_of_le_of_lt h (by decide)
section
variable {X:Cx}
theorem pv (i:Nat) {x:Str} {pos:Pos} (hN:autoParam (X.N[i]?=some x) aR._auto_1) (hv:Vis X.env.scope x:=by first | exact Or.inl rfl | exact Or.inr (Or.inl rfl) | exact Or.inr (Or.inr rfl)) (hd:autoParam ((x == ("__debug__":Str))=false) aR._auto_2)
  (hcd:autoParam ((x == ("__classdict__":Str))=false) aR._auto_2):PE X (.Name x pos) (tVar i):=z8l hN hv hd hcd
theorem z4c:Z8 X (.builtin "len") (fun xs H Q=>∃a kvs,xs=[V.ref a]∧H a=some (.dK kvs)∧Q (.int kvs.length) H):=by
 intro pins s σ H xs us Q I r h
 obtain ⟨a,kvs,rfl,ha,q⟩:=h
 obtain ⟨u,rfl,ru⟩:=QD r
 cases ru
 exact za0 I (.inl ha) fun t s' I'=>⟨.int kvs.length,H,I',⟨t,rfl⟩,q⟩
end
theorem iteF {A B:Prop} (h:B):if false=true then A else B:=by
 rw [kD ke]
 exact h
theorem iteT {A B:Prop} (h:A):if true=true then A else B:=by
 rw [kE rfl]
 exact h
theorem ite2 {c A B:Prop} [Decidable c] (h1:c→A) (h2:¬c→B):if c then A else B:=by
 by_cases h:c
 ·rw [kE h]
  exact h1 h
 ·rw [kD h]
  exact h2 h
def Same (H H':Hp):Prop:=∀b o,H b=some o→H' b=some o
theorem Same.refl (H:Hp):Same H H:=fun _ _ h=>h
theorem Same.trans {H H1 H2:Hp} (a:Same H H1) (b:Same H1 H2):Same H H2:=fun c o h=>b c o (a c o h)
theorem Same.free {H H':Hp} (e:Same H H') {l:Addr} (h:H' l=Option.none):H l=Option.none:=by
 cases q:H l with
 | none=>rfl
 | some o=>
  rw [e l o q] at h
  cases h
theorem Same.seq {K:kC} {H H':Hp} {a:Addr} {xs:List V} (e:Same H H') (h:SqL K H a xs):SqL K H' a xs:=by
 rcases h with (h | ⟨o,h⟩) | h
 ·exact .inl (.inl (e _ _ h))
 ·exact .inl (.inr ⟨o,e _ _ h⟩)
 ·exact .inr h
section
variable {κ:Type} [DecidableEq κ]
theorem z3U {p:κ × V} {r:List (κ × V)} {k:κ} (e:p.1=k):jF (p :: r) k=jF r k:=by
 unfold jF
 rw [List.filter_cons,kD (by simp [e])]
theorem z3V {p:κ × V} {r:List (κ × V)} {k:κ} (e:¬p.1=k):jF (p :: r) k=p :: jF r k:=by
 unfold jF
 rw [List.filter_cons,kE (by simp [e])]
end
end L2
set_option genInjectivity false
set_option maxRecDepth 100000
set_option maxHeartbeats 4000000
namespace L2
open PySem PySem.Spec PyProof.Rows
theorem z0k {names:List (Str × NameKind)} {k:NameKind} (h:∀y∈names,y.2≠k) (x:Str):names.lookup x≠some k:=fun e=>h _ (PySem.mem_of_lookup e) rfl
theorem z29 {scope:Scope} {env:Env} (h:∀y∈scope.names,y.2≠.free):relabel scope env=scope:=by
 unfold relabel
 rw [map_eq_self (l:=scope.names) (fun x hx=>by
  obtain ⟨n,k⟩:=x
  have:(k == NameKind.free)=false:=by simpa using h _ hx
  simp [this])]
section
variable {X:Cx}
def z4s (i:Nat) (te:TE):TS:=fun D σ H=>te σ H fun v H1=>D.nx (σ.set i (some v)) H1
end
end L2
namespace L2
open PySem PySem.Spec PyProof.Rows
theorem Inv.turned2 {X:Cx} {pins:List (Addr × Obj)} {σ:St} {H:Hp} {s:Shared} {h':Heap} {t':Nat} {e it:Addr} {xs:List V} (I:Inv X pins σ H s) (k:∀b o,b≠e→b≠it→s.heap.get? b=some o→h'.get? b=some o)
  (there:∀b∈[e,it],∃o,h'.get? b=some o) (fe:FpOk X pins H e) (fi:FpOk X pins H it) (new:qz X.prog X.w (upd H s.heap.objs.size (.tup xs)) h' s.heap.objs.size (.tup xs)):
  Inv X pins σ (upd H s.heap.objs.size (.tup xs)) { s with heap:=h',toks:=t' }:=by
 have hn:=I.fresh
 have nit:∀b u,H b=some u→b≠e∧b≠it:=fun b u q=>⟨(fun z=>by rw [z,fe.1] at q;cases q),(fun z=>by rw [z,fi.1] at q;cases q)⟩
 have hm:∀{b:Addr},b∉[e,it]→b≠e∧b≠it:=fun {b} hb=>⟨fun z=>hb (by simp [z]),fun z=>hb (by simp [z])⟩
 refine I.step (g':=s.gens) (d':=s.drawn) (ch:=[e,it]) (fun b hb=>?_) (fun b o _ _ hc q _=>k b o (hm hc).1 (hm hc).2 q) (fun b o _ _ hc q _=>⟨o.slots,k b o (hm hc).1 (hm hc).2 q⟩) (fun b o _ q n=>?_)
  (fun b o hc q=>⟨o,k b o (hm hc).1 (hm hc).2 q⟩) (fun b xs q=>by rw [zf (ze q hn)];exact q) (fun b o u q=>by rw [zf (ze q hn)];exact q) (fun b ps q=>⟨#[],by rw [zf (ze q hn),q];simp⟩) (fun m hm'=>?_) (fun b u q=>?_) I.bare
 ·rcases kH.mp hb with z | z
  ·subst z;exact ⟨fe.2.2.2.1,fe.2.1,fe.2.2.2.2.1,fe.2.2.2.2.2⟩
  ·have z:b=it:=by simpa using z
   subst z;exact ⟨fi.2.2.2.1,fi.2.1,fi.2.2.2.2.1,fi.2.2.2.2.2⟩
 ·rw [zf (Nat.ne_of_lt (Heap.lt_size q))];exact n
 ·obtain ⟨o,es,ep,ho,r⟩:=hm'
  exact ⟨o,es,ep,k _ o (Ne.symm fe.2.1) (Ne.symm fi.2.1) ho,r⟩
 ·by_cases hb:b=s.heap.objs.size
  ·subst hb;rw [zb] at q;cases q;exact new
  ·rw [zf hb] at q
   refine (I.hok b u q).stay (fun c v hc z=>?_) (fun c z=>by rw [zf (ze z hn)];exact z) fun c xs z=>by rw [zf (ze z hn)];exact z
   rcases hc with y | y
   ·subst y;exact k c v (nit c u q).1 (nit c u q).2 z
   ·exact k c v (nit c _ y).1 (nit c _ y).2 z
noncomputable def Ite (K:kC) (a:Addr):It:=
 ⟨fun i H=>∃xs x,SqL K H a xs∧xs[i]?=some x,fun i H x H'=>∃p y,x=.ref p∧H p=none∧H'=upd H p (.tup [.int i,y])∧∀xs,SqL K H a xs→xs[i]?=some y,fun i H=>∃xs,SqL K H a xs∧xs.length≤i⟩
theorem z2L {P:Program} {w:World} {K:kC} {elts:List Expr} {x1} {pos:Pos} (a e it:Addr) (hei:e≠it):Turn P w K (.Tuple elts x1 pos) (Ite K a) [e,it] e (fun i h=>(∃old,IsEnum h e it i old)∧h.IsListIter it a i) where
 mem:=by simp
 obj:=fun i h st b hb=>by
  rcases kH.mp hb with z | z
  ·subst z
   obtain ⟨old,q⟩:=st.1
   exact ⟨_,q,fun v y=>by cases y⟩
  ·have z:b=it:=by simpa using z
   subst z
   obtain ⟨o,q,c,d⟩:=st.2
   exact ⟨o,q,fun v z=>by rw [d] at z;cases z⟩
 keep:=fun i h h' st k=>⟨let ⟨old,q⟩:=st.1;⟨old,k e (by simp) _ q⟩,st.2.at fun o q=>k it (by simp) o q⟩
 item:=by
  intro X hP hw hK hc i pins s σ H E I hf st hg
  subst hP hw hK
  obtain ⟨xs,x,hq,hx⟩:=hg
  obtain ⟨its,rv,p,hz⟩:=I.list hq
  obtain ⟨u,hu,ru⟩:=rv.get hx
  obtain ⟨⟨old,he⟩,hit⟩:=st
  have fe:=hf e (by simp)
  have fi:=hf it (by simp)
  refine wpAny_pyNext_enum_item he hit p.isList (x:=u) (by simpa using hu) hei fun h' ho hit' hT hsz hk=>?_
  refine ⟨_,rfl,?_⟩
  have new:qz X.prog X.w (upd H s.heap.objs.size (.tup [.int i,x])) h' s.heap.objs.size (.tup [.int i,x]):=⟨by show 2≤sizeLine;decide,[.int i s.toks,u],.cons ⟨_,rfl⟩ (.cons ru .nil),_,hT,rfl,_,rfl⟩
  obtain ⟨oi,ei,_⟩:=id hit'
  have I1:Inv X pins σ (upd H s.heap.objs.size (.tup [.int i,x])) { s with heap:=h',toks:=s.toks+1 }:=I.turned2 hk (fun b hb=>by
   rcases kH.mp hb with z | z
   ·subst z;exact ⟨_,ho⟩
   ·have z:b=it:=by simpa using z
    subst z;exact ⟨_,ei⟩) fe fi new
  have ne1:e≠s.heap.objs.size:=Nat.ne_of_lt (Heap.lt_size he)
  have ne2:it≠s.heap.objs.size:=by obtain ⟨o2,e2,_⟩:=hit;exact Nat.ne_of_lt (Heap.lt_size e2)
  refine wpAny_letOwnedTupleGo_enum (s:={ s with heap:=h',toks:=s.toks+1 }) ho fun h2 he2 hs2=>?_
  have he2':IsEnum h2 e it (((i+1:Nat)):Int) u:=by simpa using he2
  refine ⟨.ref s.heap.objs.size,_,I1.turned (t':=s.toks+1) (it:=e) (fun b o hb q=>(hs2.2 b hb).trans q) (by rw [zf ne1];exact fe.1) fe.2.1 fe.2.2.2.1 fe.2.2.2.2.1 fe.2.2.2.2.2,rfl,⟨_,x,rfl,I.fresh,rfl,fun ys hy=>by rw [I.list_inj hy hq];exact hx⟩,⟨⟨u,he2'⟩,hit'.at fun o q=>(hs2.2 it hei.symm).trans q⟩,fun b hb=>?_⟩
  rcases kH.mp hb with z | z
  ·subst z;rw [zf ne1];exact fe.1
  ·have z:b=it:=by simpa using z
   subst z;rw [zf ne2];exact fi.1
 done:=by
  intro X hP hw hK hc i pins s σ H E I hf st hg
  subst hP hw hK
  obtain ⟨xs,hq,hx⟩:=hg
  obtain ⟨its,rv,p,hz⟩:=I.list hq
  obtain ⟨⟨old,he⟩,hit⟩:=st
  obtain ⟨f0,f1,f2,f3,f4,f5⟩:=hf it (by simp)
  have hl:=rv.length
  exact wpAny_pyNext_enum_end (I.ok.hd hc) he hit p.isList (by simp;lia) fun h' eb=>⟨rfl,I.turned (t':=s.toks) (fun b o hb e=>eb b o hb e) f0 f1 f3 f4 f5⟩
 self:=fun _ _ _ _ _ st h=>let ⟨old,he⟩:=st.1;wpAny_pyIter_enum he h
section
variable {X:Cx}
def z9K (K:kC) (ta:TA):TI:=fun σ H R=>ta σ H fun vs H1=>∃a,vs=[.ref a]∧(∃xs,SqL K H1 a xs)∧R (Ite K a) H1
theorem z3h {a:Expr} {ta:TA} {p pos:Pos} {elts:List Expr} {x1} {tp:Pos} (hg:Gl X "enumerate") (hm:X.mg "enumerate"=none) (ha:PA X [a] ta) (hs:autoParam (starEach [a] X.env=[(false,eval a X.env)]) aR._auto_1):PI X (.Tuple elts x1 tp) (.Call (.Name "enumerate" p) [a] [] pos) (z9K X.K ta):=by
 intro pins s σ H R I h
 refine Call_ (z0m I hg hm boot_enumerate (PyProof.Rows.callWith_type1 (thn (ha pos pins s σ H _ I h) fun us s1 ⟨vs,H1,I1,r1,q1⟩=>?_) hs rfl))
 obtain ⟨l,e,⟨xs,hq⟩,q⟩:=q1
 subst e
 cases r1 with
 | cons r rr=>
  cases rr
  cases r
  obtain ⟨its,rv,p,hz⟩:=I1.list hq
  refine call_enumerate_list p.isList fun h' he hit hsz hk=>?_
  refine wpAny_pyIter_enum (s:={ s1 with heap:=h' }) he ?_
  have I2:Inv X pins σ H1 { s1 with heap:=h' }:=I1.kept (t':=s1.toks) hk
  have n0:H1 s1.heap.objs.size=none:=I1.fresh
  have n1:H1 (s1.heap.objs.size+1)=none:=I1.hok.fresh (Nat.le_succ _)
  refine ⟨s1.heap.objs.size+1,[s1.heap.objs.size+1,s1.heap.objs.size],_,_,H1,rfl,I2,z2L l _ _ (Nat.succ_ne_self _),⟨⟨_,he⟩,hit⟩,fun b hb=>?_,q⟩
  rcases kH.mp hb with z | z
  ·subst z;exact I1.fpOk (Nat.le_succ _) n1
  ·have z:b=s1.heap.objs.size:=by simpa using z
   subst z;exact I1.fpOk (kh _) n0
end
theorem z1S {K:kC} {a:Addr} {xs:List V} {g:TG} {tb:TS} {D:Ends} {σ:St} {H:Hp} (Pv:Nat→St→Hp→Prop) (h0:Pv 0 σ H) (hl:∀i σ H,i≤xs.length→Pv i σ H→SqL K H a xs)
  (hs:∀(i:Nat) x σ H p,xs[i]?=some x→Pv i σ H→H p=none→g (.ref p) σ (upd H p (.tup [.int i,x])) fun σ2 H2=>tb { D with nx:=Pv (i+1),ct:=Pv (i+1),bk:=D.nx } σ2 H2) (hd:∀σ H,Pv xs.length σ H→D.nx σ H):
  ∃W:Nat→Nat→St→Hp→Prop,(∃m,W 0 m σ H)∧∀i m σ H,W i m σ H→
   ((Ite K a).stop i H∧D.nx σ H)∨((Ite K a).go i H∧∃N:St→Hp→Prop,(∀σ' H',N σ' H'→∃m',m' < m∧W (i+1) m' σ' H')∧∀x H',(Ite K a).yld i H x H'→g x σ H' fun σ2 H2=>tb { D with nx:=N,ct:=N,bk:=D.nx } σ2 H2):=by
 refine ⟨fun i m σ H=>m=xs.length - i∧i≤xs.length∧Pv i σ H,⟨xs.length,by simp,Nat.zero_le _,h0⟩,?_⟩
 rintro i m σ H ⟨rfl,hi,p⟩
 have q:=hl i σ H hi p
 by_cases hlt:i < xs.length
 ·refine .inr ⟨⟨xs,xs[i],q,by simp [hlt]⟩,Pv (i+1),fun σ' H' p'=>⟨xs.length - (i+1),by lia,rfl,hlt,p'⟩,fun x H' y=>?_⟩
  obtain ⟨p',y',rfl,hn,rfl,y⟩:=y
  exact hs i y' σ _ p' (y xs q) p hn
 ·have e:i=xs.length:=by lia
  subst e
  exact .inl ⟨⟨xs,q,kh _⟩,hd σ H p⟩
end L2
namespace L2
open PySem PySem.Spec PyProof.Rows
section
variable {X:Cx}
def rS0 (f:Str→V):V→List V→Hp→VK→Prop:=fun x vs H Q=>∃z,x=.str z∧vs=[]∧Q (f z) H
theorem z2h:MtM X "str.isascii" (rS0 fun z=>.bl (Txt.isascii z)):=by
 intro pins s σ H x vs v us Q I rx rv h
 obtain ⟨z,rfl,rfl,q⟩:=h
 obtain ⟨t,rfl⟩:=rx
 cases rv
 exact SC.isascii ⟨.bl _,H,I,rfl,q⟩
theorem z2i:MtM X "str.isalpha" (rS0 fun z=>.bl (Txt.isalpha z)):=by
 intro pins s σ H x vs v us Q I rx rv h
 obtain ⟨z,rfl,rfl,q⟩:=h
 obtain ⟨t,rfl⟩:=rx
 cases rv
 exact SC.isalpha ⟨.bl _,H,I,rfl,q⟩
theorem z2g:MtM X "str.islower" (rS0 fun z=>.bl (Txt.islower z)):=by
 intro pins s σ H x vs v us Q I rx rv h
 obtain ⟨z,rfl,rfl,q⟩:=h
 obtain ⟨t,rfl⟩:=rx
 cases rv
 exact SC.islower ⟨.bl _,H,I,rfl,q⟩
theorem z4H {v:Expr} {pos:Pos} {t:TE} (h:PE X v t):PE X (.JoinedStr [v] pos) t:=fun pins s σ H Q I hq=>wpAny_JoinedStr_one (h pins s σ H Q I hq)
theorem ql:Z8 X (.builtin "isinstance") (fun xs H Q=>∃x T t b,xs=[x,.ty T]∧TyOf X.K H x t∧PySem.W.kitOne X.K t (.type T)=some b∧Q (.bl b) H):=by
 intro pins s σ H xs us Q I r h
 obtain ⟨x,T,t,b,rfl,ty,e,q⟩:=h
 obtain ⟨u,u2,rfl,ru,r2⟩:=z6e r
 cases r2
 exact z3z I ru ty e fun tk=>⟨.bl b,H,I.tok tk,rfl,q⟩
theorem z8t:OpR X (compareOp .Is) (fun x y H Q=>∃b,y=.bl b∧Q (.bl (decide (x=.bl b))) H):=by
 intro pins s σ H x y v u Q I rx ry h
 obtain ⟨b,rfl,q⟩:=h
 cases ry
 cases x with
 | non=>cases rx;exact PySem.wpAny_is_plain rfl (zN I q (by cases b <;> rfl))
 | bl c=>cases rx;exact PySem.wpAny_is_plain rfl (zN I q (by cases b <;> cases c <;> rfl))
 | int i=>obtain ⟨t,rfl⟩:=rx;exact PySem.wpAny_is_plain rfl (zN I q rfl)
 | str z=>obtain ⟨t,rfl⟩:=rx;exact PySem.wpAny_is_plain rfl (zN I q rfl)
 | byt z=>obtain ⟨t,rfl⟩:=rx;exact PySem.wpAny_is_plain rfl (zN I q rfl)
 | flt z=>obtain ⟨t,rfl⟩:=rx;exact PySem.wpAny_is_plain rfl (zN I q rfl)
 | ref a=>cases rx;exact PySem.wpAny_is_plain rfl (zN I q rfl)
 | ty n=>cases rx;exact PySem.wpAny_is_plain rfl (zN I q rfl)
end
end L2
namespace L2
open PySem PySem.Spec PyProof.Rows
def KTab (P:Params) (K:kC) (d:Addr) (tab:List (Str × V)):Prop:=
 ∃es n,K.lookup d=some ⟨.type "dict",none,.dict es n,#[]⟩∧PySem.W.KeysLit P es.toList∧(d == sysModules)=false∧Paired (fun (p:Str × V) (e:DictEntry)=>(∃t,e.key=.str p.1 t)∧RelV p.2 e.val) tab es.toList
theorem z0o {x:Str}:∀{tab:List (Str × V)} {es:List DictEntry},Paired (fun (p:Str × V) (e:DictEntry)=>(∃t,e.key=.str p.1 t)∧RelV p.2 e.val) tab es→
  RelO (tab.lookup x) ((es.find? fun e=>Value.isStrOf x e.key).map (·.val))
 | _,_,.nil=>trivial
 | (k,v) :: tab,e :: es,.cons ⟨⟨t,hk⟩,hv⟩ r=>by
  have ih:=z0o (x:=x) r
  by_cases hx:x=k
  ·subst hx
   have h1:((x,v) :: tab).lookup x=some v:=by simp [List.lookup]
   have h2:(e :: es).find? (fun e=>Value.isStrOf x e.key)=some e:=by
    rw [List.find?_cons,hk]
    simp [Value.isStrOf]
   rw [h1,h2]
   exact hv
  ·have h1:((k,v) :: tab).lookup x=tab.lookup x:=by
    rw [List.lookup_cons]
    have:(x == k)=false:=by simpa using hx
    rw [this]
   have h2:(e :: es).find? (fun e=>Value.isStrOf x e.key)=es.find? (fun e=>Value.isStrOf x e.key):=by
    rw [List.find?_cons,hk]
    have:Value.isStrOf x (Value.str k t)=false:=by simpa [Value.isStrOf] using fun z=>hx z.symm
    rw [this]
   rw [h1,h2]
   exact ih
section
variable {X:Cx}
theorem JI {P:Params} {K:kC} {prog:Program} {w:World} {h:Heap} {d:Addr} {tab:List (Str × V)} (hP:P=w.params) (t:KTab P K d tab) (kin:K.In h):
  ∃f,h.MapOf (strKind prog w) d f∧(d == sysModules)=false∧∀x,RelO (tab.lookup x) (f x):=by
 subst hP
 obtain ⟨es,n,hl,hk,hd,hp⟩:=t
 refine ⟨_,PySem.W.mapOf_K (prog:=prog) kin hl hk,hd,fun x=>?_⟩
 have q:=z0o (x:=x) hp
 show RelO _ (findBy Value.isStrOf es x)
 unfold findBy
 rw [←Array.find?_toList]
 exact q
def z9n (tab:List (Str × V)) (ty:TE):TE:=fun σ H Q=>ty σ H fun y H1=>∃x v,y=.str x∧tab.lookup x=some v∧Q v H1
theorem Jy {nm:Str} {i:Expr} {p pos:Pos} {d:Addr} {tab:List (Str × V)} {ty:TE} (T:KTab X.w.params X.K d tab) (hg:Gl X nm) (hm:X.mg nm=some (.ref d)) (hi:PE X i ty) (hs:NoSl i) (hd:autoParam ((nm == ("__debug__":Str))=false) aR._auto_2):
  PE X (.Subscript (.Name nm p) i pos) (z9n tab ty):=by
 intro pins s σ H Q I h
 refine z2O PySem.F.slot_dict_getitem.lookup hs (Q3 I hg hm (thn (hi pins s σ H _ I h) fun iv s2 ⟨y,H2,I2,ry,x,v,ex,l,q⟩=>?_) hd)
 subst ex
 obtain ⟨t,rfl⟩:=ry
 obtain ⟨f,mo,_,hf⟩:=JI (prog:=X.prog) (w:=X.w) rfl T I2.kIn
 have hf:=hf x
 rw [l] at hf
 obtain ⟨w',e',rw'⟩:=RelO.some_of hf
 exact ⟨mo.typeIs,wpAny_getItem_of (strKind_is X.prog X.w x t) mo e' ⟨v,H2,I2.tok _,rw',q⟩⟩
def tKIn (tab:List (Str × V)) (ty:TE):TE:=fun σ H Q=>ty σ H fun y H1=>∃x,y=.str x∧Q (.bl (tab.lookup x).isSome) H1
theorem z8p {nm:Str} {i:Expr} {p:Pos} {d:Addr} {tab:List (Str × V)} {ty:TE} (T:KTab X.w.params X.K d tab) (hg:Gl X nm) (hm:X.mg nm=some (.ref d)) (hi:PE X i ty) (hd:autoParam ((nm == ("__debug__":Str))=false) aR._auto_2):
  PC X .In i (.Name nm p) (tKIn tab ty):=by
 intro pins s σ H Q I h
 refine thn (hi pins s σ H _ I h) fun iv s1 ⟨y,H1,I1,ry,x,ex,q⟩=>Q3 I1 hg hm ?_ hd
 subst ex
 obtain ⟨t,rfl⟩:=ry
 obtain ⟨f,mo,lo,hf⟩:=JI (prog:=X.prog) (w:=X.w) rfl T I1.kIn
 refine wpAny_in_of (strKind_is X.prog X.w x t) lo mo ⟨.bl _,H1,I1.tok _,rfl,?_⟩
 rw [←RelO.isSome_eq (hf x)]
 exact q
def z7W (X:Cx) (i:Nat) (t:TA):TE:=fun σ H Q=>∃(f:Addr) (fd:FuncData) (ps:List Str) (sp:Sp) (k:Nat),σ[i]?=some (some (.ref f))∧PySem.W.keepIn X.K (.ref f)=true∧FnOk X.prog X.w X.K X.mg X.base CX0 k f fd ps sp∧Room k X.A∧Z9 X.K fd ps []∧
 t σ H fun vs H1=>sp vs H1 Q E0
theorem JA {i:Nat} {x:Str} {p pos:Pos} {e:Expr} {es:List Expr} {t:TA} (hv:PE X (.Name x p) (tVar i)) (ha:PA X (e :: es) t)
  (he:autoParam (starEach (e :: es) X.env=(false,eval e X.env) :: starEach es X.env) aR._auto_1) (hpl:autoParam ((backTo pos (starEach es X.env)).any (·.1)=false) aR._auto_1):
  PE X (.Call (.Name x p) (e :: es) [] pos) (z7W X i t):=by
 intro pins s σ H Q I h
 obtain ⟨f,fd,ps,sp,k,hσ,hk,F,hr,hb,h⟩:=h
 refine wpAny_Call_Name_kw (thn (hv pins s σ H (fun v H1=>v=.ref f∧H1=H) I ⟨.ref f,hσ,rfl,rfl⟩) fun u s1 zz=>?_)
 obtain ⟨v,H1,I1,r1,e1,e2⟩:=zz
 subst e1
 subst e2
 cases r1
 refine PySem.W.callWith_K (h₀:=X.base) I1.ok.mod.kin hk (thn (ha pos pins s1 σ _ _ I1 h) fun us s2 ⟨vs,H2,I2,r,q⟩=>⟨I2.kIn,?_⟩) he hpl
 exact z1A F hr hb .nil z2e I2 r (by rw [kZ];exact q)
def rEqE (K:kC):R2:=fun x y H Q=>∃p q xs,x=.ref p∧y=.ref q∧SqL K H p xs∧SqL K H q []∧Q (.bl (decide (xs=[]))) H
theorem z8v (hu:X.A.units < cLine):OpR X (compareOp .Eq) (rEqE X.K):=by
 intro pins s σ H x y v u Q I rx ry h
 obtain ⟨p,q,xs,rfl,rfl,h1,h2,hq⟩:=h
 cases rx
 cases ry
 obtain ⟨its,r,pl,_⟩:=I.list h1
 obtain ⟨its2,r2,pl2,_⟩:=I.list h2
 cases r2
 cases r with
 | nil=>
  refine SeqAt.eq_listAt (e:=fun _=>true) pl.isList pl2.isList rfl hu (fun j h1 _=>absurd h1 (by simp)) ⟨.bl _,H,I,rfl,?_⟩
  simpa using hq
 | cons a b=>
  refine SeqAt.eq_list_lengthsAt pl.isList pl2.isList (by simp) hu ⟨.bl _,H,I,rfl,?_⟩
  simpa using hq
def z6j (td ty tx:TE):TE:=fun σ H Q=>td σ H fun x H1=>∃a,x=.ref a∧IsD H1 a∧ty σ H1 fun y H2=>tx σ H2 fun z H3=>∃kvs k,H3 a=some (.dK kvs)∧y=kV k∧kvs.length < sizeLine∧
 match valV kvs k with
 | some v=>Q v H3
 | none=>Q z (upd H3 a (.dK (putK kvs k z)))
theorem z3i {o e f:Expr} {apos cpos:Pos} {td ty tx:TE} (ho:PE X o td) (he:PE X e ty) (hf:PE X f tx) (m:M2 X o "setdefault" apos e f cpos):PE X (.Call (.Attribute o "setdefault" apos) [e,f] [] cpos) (z6j td ty tx):=by
 intro pins s σ H Q I h
 refine wpAny_Call_method m.base m.few m.line PySem.F.plainAttrs_dict PySem.F.slot_dict_setdefault PySem.F.type_dict_setdefault (thn (ho pins s σ H _ I h) fun u s1 zz=>?_)
 obtain ⟨x,H1,I1,rx,a,ex,d,q1⟩:=zz
 subst ex
 obtain rfl:u=Value.ref a:=rx
 obtain ⟨t1,t2,_⟩:=z1N I1 d
 refine ⟨t1,t2,?_⟩
 rw [m.trees]
 refine Calls.callWith_builtin rfl (Calls.evalArgs_plain (Calls.spliced_cons (thn (he pins s1 σ H1 _ I1 q1) fun iv s2 ⟨y,H2,I2,ry,q2⟩=>
  Calls.spliced_cons (thn (hf pins s2 σ H2 _ I2 q2) fun fv s3 ⟨z,H3,I3,rz,kvs,k,ea,ek,hz,q3⟩=>Calls.spliced_nil ?_))))
 subst ek
 obtain ⟨hl,lo,vs,rel,dd⟩:=z3W I3.hok ea
 have lenr:=rel.length
 have hargs:argsOk "dict.setdefault" ⟨[.ref a,iv,fv],[]⟩:=PySem.F.args_dict_setdefault_3 _ _ _
 show wpAny (model X.prog X.w) X.A (call (.builtin "dict.setdefault") [.ref a,iv,fv]) _ _ _
 refine call_meetsIn PySem.F.slot_dict_setdefault dd.typeIs PySem.F.entry_dict_setdefault hargs (kt_meets_setdefault (zM X.prog X.w) a (J5 ry) lo fv) ⟨vs,dd,by lia,fun v hv=>?_,fun hn h' dd' sb=>?_⟩
 ·cases l:valV kvs k with
  | none=>
   have:=rel.val k
   rw [l,hv] at this
   exact this.elim
  | some w'=>
   have r:=rel.val k
   rw [l,hv] at r
   rw [l] at q3
   exact ⟨w',H3,I3.tok _,r,q3⟩
 ·cases l:valV kvs k with
  | some w'=>
   have r:=rel.val k
   rw [l,hn] at r
   exact r.elim
  | none=>
   rw [l] at q3
   refine ⟨z,_,QV I3 (ob:=.dK (putK kvs k z)) (by rw [ea];exact trivial) sb ?_ (z0z (kz (qQ kvs k z) hz) lo (rel.put k rz) dd'),rz,q3⟩
   obtain ⟨ob,_,_,e,_⟩:=dd'
   exact ⟨ob,e⟩
end
end L2
namespace L2
open PySem PySem.Spec PyProof.Rows
theorem z0C {prog:Program} {w:World} {A:Around} {R:Result→Shared→Prop} {s:Shared} {elt target iter:Expr} {ifs:List Expr} {scope:Scope} {pos:Pos} {it acc:Value} {env:Env} (I:Nat→Shared→Prop)
  (turn:∀n s,I n s→wpAny (model prog w) A (pyNext it) (fun r s₁=>match r with
   | none=>R (.ok .next) s₁
   | some v=>wpAny (model prog w) A (letOwnedTupleGo target it v) (fun _ s₁'=>wpAny (model prog w) A (assign target env v) (fun _ s₂=>
     wpAny (model prog w) A (forIn ifs true fun c r=>if r=true then do let ok ←isTrue c env (eval c env);pure (ForInStep.yield ok) else pure (ForInStep.yield r)) (fun ok s₃=>
     if ok=true then wpAny (model prog w) A (eval elt env) (fun x s₃'=>
      wpAny (model prog w) A (call (.builtin "list.append") [acc,x]) (fun _ s₄=>∃m,m < n∧I m s₄) (fun _ _=>False) s₃') (fun _ _=>False) s₃
     else ∃m,m < n∧I m s₃)
     (fun _ _=>False) s₂) (fun _ _=>False) s₁') (fun _ _=>False) s₁) (fun _ _=>False) s)
  (n:Nat) (h:I n s):codeAny (model prog w) A (.compLoop (.ListComp elt [⟨target,iter,ifs,0⟩] scope pos) 0 it acc env) R s:=by
 refine codeAny_loop rfl I (fun n s hI=>?_) n h
 show wpAny _ _ ((compTurn (.ListComp elt [⟨target,iter,ifs,0⟩] scope pos) 0 it acc env).onRaise (fun x=>do noteFrame x env;theTreesLotGoes x)) _ _ s
 refine wpAny_noted ?_
 rw [compTurn_list]
 refine wpAny_bind (wpAny_standAt (wpAny_bind (wpAny_mono (turn n s hI) (fun r s₁ h₁=>?_) fun _ _ h'=>h'.elim)))
 cases r with
 | none=>exact wpAny_pure h₁
 | some v=>
  refine wpAny_bind (wpAny_mono h₁ (fun _ s₁' h₁'=>?_) fun _ _ h'=>h'.elim)
  refine wpAny_bind (wpAny_mono h₁' (fun _ s₂ h₂=>wpAny_bind (wpAny_mono h₂ (fun ok s₃ h₃=>?_) fun _ _ h'=>h'.elim)) fun _ _ h'=>h'.elim)
  cases ok with
  | true=>
   rw [kE rfl] at h₃ ⊢
   exact wpAny_bind (wpAny_bind (wpAny_mono h₃ (fun x s₃' h₃'=>wpAny_bind (wpAny_mono h₃' (fun _ s₄ h₄=>wpAny_pure (wpAny_pure ⟨rfl,h₄⟩)) fun _ _ h'=>h'.elim)) fun _ _ h'=>h'.elim))
  | false=>
   rw [kD ke] at h₃ ⊢
   exact wpAny_bind (wpAny_pure (wpAny_pure ⟨rfl,h₃⟩))
noncomputable abbrev qt (X:Cx) (N:List Str) (scope:Scope) (cl:List (Str × Addr)) (s:Shared) (H:Hp) (fp:List Addr) (C:Addr):Cx where
 prog:=X.prog
 w:=X.w
 K:=X.K
 mg:=X.mg
 base:=X.base
 A:=X.A
 N:=N
 s₀:=s
 H₀:=H
 env:=compEnvC scope cl C X.env
 outer:=X.stack
 stack:=X.stack
 ex:=fp
 fn:=fun _=>false
 calm:=true
 pn:=[]
 xe:=fun _ _=>False
structure Ze (X:Cx) (N:List Str) (nt:Nat) (ix:List Nat) (scope:Scope) (cl:List (Str × Addr)):Prop where
 clos:closureFor scope X.env=pure cl
 nocell:∀y∈scope.names,y.2≠.cell
 kind:scope.kind=.function
 names:∀y∈scope.names,y.2=.local→scope.names.lookup y.1=some .local
 sub:∀x c,cl.lookup x=some c→X.env.cells.lookup x=some c
 has:∀x,((relabel scope X.env).names.lookup x=some .cell∨(relabel scope X.env).names.lookup x=some .free)→∃c,cl.lookup x=some c
 len:N.length=nt+ix.length
 free:∀j x,N[nt+j]?=some x→∃i,ix[j]?=some i∧X.N[i]?=some x∧X.env.kindOf x=some .cell∧(relabel scope X.env).names.lookup x=some .cell∧∀c,X.env.cells.lookup x=some c→cl.lookup x=some c
noncomputable def Qh (nt:Nat) (ix:List Nat) (σ:St):St:=List.replicate nt none++ix.map fun i=>(σ[i]?).join
def PTs (X:Cx) (ifs:List Expr) (tc:TT):Prop:=
 ∀(pins:List (Addr × Obj)) (s:Shared) (σ:St) (H:Hp) (Q:Bool→Hp→Prop),Inv X pins σ H s→tc σ H Q→
  wpAny (model X.prog X.w) X.A (forIn ifs true fun c r=>if r=true then do let ok ←isTrue c X.env (eval c X.env);pure (ForInStep.yield ok) else pure (ForInStep.yield r)) (TP X pins σ Q) X.xe s
def tAll:TT:=fun _ H Q=>Q true H
theorem z14 {X:Cx}:PTs X [] tAll:=fun pins s σ H Q I h=>wpAny_tests_nil ⟨H,I,h⟩
theorem z6A {X:Cx} {c:Expr} {tc:TT} (h:PT X c tc):PTs X [c] tc:=fun pins s σ H Q I hq=>wpAny_tests_one (h pins s σ H Q I hq)
def z5K (nt:Nat) (ix:List Nat) (wi:TI) (g:TG) (tc:TT) (te:TE):TE:=fun σ H Q=>wi σ H fun J H1=>∀l,H1 l=none→∃W:Nat→Nat→List V→St→Hp→Prop,(∃m,W 0 m [] (Qh nt ix σ) (upd H1 l (.lst [])))∧∀i m ys σ' H2,W i m ys σ' H2→
 (J.stop i H2∧Q (.ref l) H2)∨(J.go i H2∧∀x H3,J.yld i H2 x H3→g x σ' H3 fun σ2 H4=>tc σ2 H4 fun b H5=>if b=true then te σ2 H5 fun v H6=>H6 l=some (.lst ys)∧ys.length < sizeLine∧∃m',m' < m∧W (i+1) m' (ys++[v]) σ2 (upd H6 l (.lst (ys++[v])))
  else ∃m',m' < m∧W (i+1) m' ys σ2 H5)
section
variable {X:Cx}
theorem Zs {elt iter tg:Expr} {ifs:List Expr} {N:List Str} {nt:Nat} {ix:List Nat} {scope:Scope} {cl:List (Str × Addr)} {pos:Pos} {pins:List (Addr × Obj)} {σ:St} {H:Hp} {s:Shared} {it:Addr} {fp:List Addr} {tn:Nat→Heap→Prop} {J:It} {g:TG} {tc:TT} {te:TE} {Q:VK} {E:Value→Shared→Prop}
  {RR:Value→Addr→Result→Shared→Prop}
  (hc:X.calm=true) (sc:Ze X N nt ix scope cl) (I:Inv X pins σ H s) (T:Turn X.prog X.w X.K tg J fp it tn) (st:tn 0 s.heap) (hf:∀b∈fp,FpOk X pins H b)
  (hg:∀(s:Shared) (H:Hp) (fp:List Addr) (C:Addr),PG (qt X N scope cl s H fp C) tg g)
  (ht:∀(s:Shared) (H:Hp) (fp:List Addr) (C:Addr),PTs (qt X N scope cl s H fp C) ifs tc)
  (he:∀(s:Shared) (H:Hp) (fp:List Addr) (C:Addr),PE (qt X N scope cl s H fp C) elt te)
  (h:∀l,H l=none→∃W:Nat→Nat→List V→St→Hp→Prop,(∃m,W 0 m [] (Qh nt ix σ) (upd H l (.lst [])))∧∀i m ys σ' H2,W i m ys σ' H2→
   (J.stop i H2∧Q (.ref l) H2)∨(J.go i H2∧∀x H3,J.yld i H2 x H3→g x σ' H3 fun σ2 H4=>tc σ2 H4 fun b H5=>if b=true then te σ2 H5 fun v H6=>H6 l=some (.lst ys)∧ys.length < sizeLine∧∃m',m' < m∧W (i+1) m' (ys++[v]) σ2 (upd H6 l (.lst (ys++[v])))
    else ∃m',m' < m∧W (i+1) m' ys σ2 H5))
  (hRR:∀D C s' H' m,Inv X pins σ H' s'→s'.heap.Ns C m→C≠X.env.locals→H' C=none→X.s₀.heap.objs.size≤C→(∀x c,X.env.cells.lookup x=some c→c≠C)→(∀p∈X.pn++pins,p.1≠C)→Q (.ref D) H'→RR (.ref D) C (.ok .next) s'):
  wpAny (model X.prog X.w) X.A (newList []) (fun acc s₃=>wpAny (model X.prog X.w) X.A (newFunctionEnv scope X.env.globals cl [] X.env.qual none .none (some X.env)) (fun cenv s₄=>
   codeAny (model X.prog X.w) X.A (.compStart (.ListComp elt [⟨tg,iter,ifs,0⟩] scope pos) 0 (.ref it) acc { cenv with scope:=relabel scope X.env }) (RR acc cenv.locals) s₄) E s₃) E s:=by
 refine wpAny_newObj_type ?_
 have I3:Inv X pins σ (upd H s.heap.objs.size (.lst [])) { s with heap:=s.heap.push { cls:=.type "list",data:=.seq ([]:List Value).toArray } }:=I.lnew (ys:=[]) (its:=[]) (t':=s.toks) .nil (Nat.zero_le _)
 have st3:tn 0 (s.heap.push { cls:=.type "list",data:=.seq ([]:List Value).toArray }):=T.keep _ _ _ st fun b hb o e=>Heap.get?_push_of_some _ e
 have fpl:∀b∈fp,b < s.heap.objs.size:=fun b hb=>by
  obtain ⟨o,e,_⟩:=T.obj _ _ st b hb
  exact Heap.lt_size e
 obtain ⟨W,⟨m0,w0⟩,turn⟩:=h s.heap.objs.size I.fresh
 have hf3:∀b∈fp,FpOk X pins (upd H s.heap.objs.size (.lst [])) b:=fun b hb=>⟨by rw [zf (Nat.ne_of_lt (fpl b hb))];exact (hf b hb).1,(hf b hb).2⟩
 generalize hD:s.heap.objs.size=D at *
 generalize hH3:upd H D (HO.lst [])=H3 at *
 generalize hs3:({ s with heap:=s.heap.push { cls:=.type "list",data:=.seq ([]:List Value).toArray } }:Shared)=s3 at *
 have hsz3:s3.heap.objs.size=D+1:=by rw [←hs3,←hD];exact Heap.size_push ..
 have st3':tn 0 s3.heap:=by rw [←hs3];exact st3
 refine wpAny_newFunctionEnv (s:=s3) sc.nocell (by intro y hy;simp at hy) (fun h1 hns hsb=>?_) sc.kind
 generalize hC:s3.heap.objs.size=C at *
 have kept:∀b o,s3.heap.get? b=some o→h1.get? b=some o:=fun b o e=>hsb.extBut b o (by rw [←hC];exact Nat.ne_of_lt (Heap.lt_size e)) (Heap.get?_push_of_some _ e)
 show codeAny (model X.prog X.w) X.A (.compStart (.ListComp elt [⟨tg,iter,ifs,0⟩] scope pos) 0 (.ref it) (.ref D) (compEnvC scope cl C X.env)) (RR (.ref D) C) { s3 with heap:=h1,toks:=s3.toks+0 }
 have fpC:∀b∈fp,b≠C:=fun b hb=>Nat.ne_of_lt (kP (fpl b hb) (by rw [hsz3];exact Nat.le_succ D))
 have cellC:∀x c,cl.lookup x=some c→c≠C:=fun x c e z=>by
  obtain ⟨v,q⟩:=I3.cell x c (sc.sub x c e)
  have:=q.lt
  rw [hC,z] at this
  exact Nat.lt_irrefl _ this
 have ok:(qt X N scope cl s3 H3 fp C).Ok:={
  mod:=I.ok.mod,kind:=(show (relabel scope X.env).kind=.function from sc.kind),glob:=I.ok.glob,blt:=I.ok.blt,above:=yb hC
  inj:=fun y z c e e'=>I.ok.inj y z c (sc.sub y c e) (sc.sub z c e')
  has:=fun y hy=>sc.has y hy
  cab:=fun y c e _=>nomatch e
  hd:=fun _=>I.ok.hd hc
  frames:=I.ok.frames
  stk:=.inl rfl
  exf:=fun b hb=>⟨fpC b hb,fun y c e=>(hf3 b hb).2.2.2.2.1 y c (sc.sub y c e)⟩
  bs:=I3.bs
  bsz:=kz I.ok.bsz I3.sz
  noex:=fun b o e hb=>by
   obtain ⟨_,_,_,h4,_⟩:=hf3 b hb
   rcases h4 with z | z
   ·exact I.ok.noex b o e z
   ·exact absurd (kP (Heap.lt_size (I.ok.bs b o e).1) z) (Nat.lt_irrefl _)
  exfs:=fun b hb z=>by
   obtain ⟨_,h1,h2,_⟩:=hf3 b hb
   rcases kH.mp (I3.stkSub b z) with q | q
   ·exact h1 q
   ·exact h2 q
  funs:=I3.stack
  frf:=I3.stkFree }
 have cellK:∀c v,s3.heap.IsCell c v→h1.IsCell c v:=fun c v ⟨o,ho,hd⟩=>⟨o,kept c o ho,hd⟩
 have I4:Inv (qt X N scope cl s3 H3 fp C) [] (Qh nt ix σ) H3 { s3 with heap:=h1,toks:=s3.toks+0 }:={
  ok:=ok,os:=rfl,bare:=I3.bare,base:=Un.kept kept
  loc:=⟨_,hns,fun i y v e1 e2 _=>by
   have e2:(Qh nt ix σ)[i]?=some (some v):=e2
   unfold Qh at e2
   by_cases hi:i < nt
   ·rw [yj (by simpa using hi),List.getElem?_replicate,kE hi] at e2
    cases e2
   ·obtain ⟨j,rfl⟩:∃j,i=nt+j:=⟨i - nt,by lia⟩
    rw [yk (by simp),List.length_replicate,Nat.add_sub_cancel_left,List.getElem?_map] at e2
    obtain ⟨k,hk,hXN,hkind,hrel,hcl⟩:=sc.free j y e1
    rw [hk] at e2
    have e3:σ[k]?=some (some v):=by
     cases q:σ[k]? with
     | none=>rw [Option.map_some,q] at e2;cases e2
     | some o=>rw [Option.map_some,q] at e2;simpa using e2
    obtain ⟨m,_,hl⟩:=I3.loc
    obtain ⟨u,ru,lk⟩:=hl k y v hXN e3 (.inr (.inl hkind))
    refine ⟨u,ru,.inr ⟨.inl hrel,?_⟩⟩
    rcases lk with ⟨z,_⟩ | ⟨_,c,hcc,hcell⟩
    ·rw [hkind] at z;cases z
    ·exact ⟨c,hcl c hcc,cellK _ _ hcell⟩⟩
  cell:=fun y c e=>let ⟨v,q⟩:=I3.cell y c (sc.sub y c e);⟨v,cellK _ _ q⟩
  free:=I3.hok.fresh (yb hC)
  freeC:=fun y c e=>I3.freeC y c (sc.sub y c e)
  pin:=fun p hp=>absurd (show p∈([]:List (Addr × Obj)) from hp) (by simp)
  hok:=I3.hok.kept kept
  len:=by show (Qh nt ix σ).length=N.length;rw [sc.len];unfold Qh;simp }
 have st4:tn 0 h1:=T.keep _ _ _ st3' fun b hb o e=>kept b o e
 have stat:∀{H':Hp},(∀b∈fp,H' b=none)→∀b∈fp,FpOk (qt X N scope cl s3 H3 fp C) [] H' b:=fun hn b hb=>⟨hn b hb,fpC b hb,ok.exfs b hb,.inl hb,(fun y c e=>(hf3 b hb).2.2.2.2.1 y c (sc.sub y c e)),fun p hp=>absurd (show p∈([]:List (Addr × Obj)) from hp) (by simp)⟩
 have loop:codeAny (model X.prog X.w) X.A (.compLoop (.ListComp elt [⟨tg,iter,ifs,0⟩] scope pos) 0 (.ref it) (.ref D) (compEnvC scope cl C X.env)) (RR (.ref D) C) { s3 with heap:=h1,toks:=s3.toks+0 }:=by
  refine z0C (fun n s'=>∃i ys σ' H',Inv (qt X N scope cl s3 H3 fp C) [] σ' H' s'∧tn i s'.heap∧(∀b∈fp,H' b=none)∧W i n ys σ' H') ?_ m0 ⟨0,[],_,H3,I4,st4,fun b hb=>(hf3 b hb).1,w0⟩
  rintro n s5 ⟨i,ys,σ5,H5,I5,st5,fr5,w5⟩
  rcases turn i n ys σ5 H5 w5 with ⟨stop,qn⟩ | ⟨go,step⟩
  ·refine thn (T.done (qt X N scope cl s3 H3 fp C) rfl rfl rfl rfl i [] s5 σ5 H5 _ I5 (stat fr5) st5 stop) fun r s6 zz=>?_
   obtain ⟨hr,I6⟩:=zz
   subst hr
   obtain ⟨m6,n6,_⟩:=I6.loc
   refine hRR D C s6 H5 m6 (I3.call' I6.os I6.base I6.hok I6.bare fun b hb=>?_) n6 (Nat.ne_of_gt (by have:=I3.lt;rw [hC] at this;exact this)) I6.free (by have:=I3.sz;rw [hC] at this;exact this) (fun y c e z=>?_) (fun p hp z=>?_) qn
   ·obtain ⟨_,h1,_,h4,h5,h6⟩:=hf3 b hb
    exact ⟨h4,h1,h5,h6⟩
   ·obtain ⟨v,q⟩:=I3.cell y c e
    have:=q.lt
    rw [hC,z] at this
    exact Nat.lt_irrefl _ this
   ·have:=Heap.lt_size (I3.pin p hp).1
    rw [hC,z] at this
    exact Nat.lt_irrefl _ this
  ·refine thn (T.item (qt X N scope cl s3 H3 fp C) rfl rfl rfl rfl i [] s5 σ5 H5 _ I5 (stat fr5) st5 go) fun r s6 zz=>?_
   obtain ⟨u,hr,h6⟩:=zz
   subst hr
   refine thn h6 fun _ s7 zz=>?_
   obtain ⟨v,H7,I7,r7,y7,st7,fr7⟩:=zz
   have I7':=I7.pinned (stat fr7) (T.obj _ _ st7)
   refine thn (hg s3 H3 fp C _ s7 σ5 H7 v u _ I7' r7 (step v H7 y7)) fun _ s8 zz=>?_
   obtain ⟨σ8,H8,I8,q8⟩:=zz
   refine thn (ht s3 H3 fp C _ s8 σ8 H8 _ I8 q8) fun b s9 zz=>?_
   obtain ⟨H9,I9,q9⟩:=zz
   have again:∀{sE:Shared} {HE:Hp} {ysE:List V} {m':Nat},Inv (qt X N scope cl s3 H3 fp C) ([]++z09 fp s7.heap) σ8 HE sE→m' < n→W (i+1) m' ysE σ8 HE→∃m,m < n∧∃i ys σ' H',Inv (qt X N scope cl s3 H3 fp C) [] σ' H' sE∧tn i sE.heap∧(∀b∈fp,H' b=none)∧W i m ys σ' H':=fun {sE HE ysE m'} IE hm' wE=>by
    refine ⟨m',hm',i+1,ysE,σ8,HE,IE.unpinned (pins:=[]),T.keep _ _ _ st7 fun b hb o e=>(IE.pin (b,o) (kQ _ (kQ _ (Z3 hb e)))).1,fun b hb=>?_,wE⟩
    obtain ⟨o,e,d⟩:=T.obj _ _ st7 b hb
    exact (IE.pin (b,o) (kQ _ (kQ _ (Z3 hb e)))).2.1
   cases b with
   | false=>
    rw [kD ke] at q9 ⊢
    obtain ⟨m',hm',w9⟩:=q9
    exact again I9 hm' w9
   | true=>
    rw [kE rfl] at q9 ⊢
    refine thn (he s3 H3 fp C _ s9 σ8 H9 _ I9 q9) fun yv s10 zz=>?_
    obtain ⟨y,H10,I10,r10,q10⟩:=zz
    obtain ⟨hl9,hz9,m',hm',w9⟩:=q10
    obtain ⟨z9,its,k9,rv9,ll9,e9⟩:=I10.lstM hl9
    refine call_meets F.slot_list_append ⟨_,e9,rfl⟩ F.entry_list_append (F.args_list_append_2 _ _) (PySem.list_append D its.toArray k9 yv (by rw [kI];lia)) ⟨e9,?_⟩
    have I11:=I10.lset (t':=s10.toks) (its':=its++[yv]) (f:=(·.push yv)) hl9 e9 (by simp) (rv9.append (.cons r10 .nil)) (by rw [ko,kJ];lia)
    exact again I11 hm' w9
 exact codeAny_compStart_list loop (T.self _ 0 _ _ _ st4 loop)
theorem z4K {elt iter tg:Expr} {ifs:List Expr} {N:List Str} {nt:Nat} {ix:List Nat} {scope:Scope} {cl:List (Str × Addr)} {pos:Pos} {wi:TI} {g:TG} {tc:TT} {te:TE} (hc:X.calm=true) (sc:Ze X N nt ix scope cl) (hi:PI X tg iter wi)
  (hg:∀(s:Shared) (H:Hp) (fp:List Addr) (C:Addr),PG (qt X N scope cl s H fp C) tg g)
  (ht:∀(s:Shared) (H:Hp) (fp:List Addr) (C:Addr),PTs (qt X N scope cl s H fp C) ifs tc)
  (he:∀(s:Shared) (H:Hp) (fp:List Addr) (C:Addr),PE (qt X N scope cl s H fp C) elt te) (hs:∀x,foldedSetIterable iter X.env x=pure x:=by intro _;rfl):
  PE X (.ListComp elt [⟨tg,iter,ifs,0⟩] scope pos) (z5K nt ix wi g tc te):=by
 intro pins s σ H Q I h
 rw [eval_ListComp]
 refine wpAny_comprehension_free (use:=none) rfl hs sc.clos sc.kind sc.names (thn (hi pins s σ H _ I h) fun v s1 h1=>thn h1 fun itv s2 h2=>?_)
 obtain ⟨it,fp,tn,J,H2,e,I2,T,st2,f2,q2⟩:=h2
 subst e
 refine Zs (RR:=fun acc C=>compPost (model X.prog X.w) X.A X.xe none (EP X pins σ Q) acc C) hc sc I2 T st2 f2 hg ht he q2 ?_
 intro D C s' H' m I' n' c1 c2 c3 c4 c5 q'
 exact ⟨m,n',fun h' hs'=>⟨.ref D,H',I'.turned (t':=s'.toks) (it:=C) (fun b o hb e=>(hs'.2 b hb).trans e) c2 c1 (.inr c3) c4 c5,rfl,q'⟩⟩
theorem z15 {elt iter tg:Expr} {ifs:List Expr} {N:List Str} {nt:Nat} {ix:List Nat} {y:Str} {i:Nat} {py spos:Pos} {scope:Scope} {cl:List (Str × Addr)} {pos:Pos} {wi:TI} {g:TG} {tc:TT} {te:TE} (hc:X.calm=true) (hN:X.N.Nodup) (hy:X.N[i]?=some y) (hl:Loc X.env.scope y) (sc:Ze X N nt ix scope cl) (hi:PI X tg iter wi)
  (hg:∀(s:Shared) (H:Hp) (fp:List Addr) (C:Addr),PG (qt X N scope cl s H fp C) tg g)
  (ht:∀(s:Shared) (H:Hp) (fp:List Addr) (C:Addr),PTs (qt X N scope cl s H fp C) ifs tc)
  (he:∀(s:Shared) (H:Hp) (fp:List Addr) (C:Addr),PE (qt X N scope cl s H fp C) elt te)
  (hsw:autoParam (swapsWith (.ListComp elt [⟨tg,iter,ifs,0⟩] scope pos) (some (.Name y py)) spos.line X.env=pure true) aR._auto_1) (hs:∀x,foldedSetIterable iter X.env x=pure x:=by intro _;rfl)
  (hf:X.fn y=true∨X.env.scope.names.lookup y=some .local:=by first | exact .inl rfl | exact .inr rfl | assumption):
  PS X (.Assign [.Name y py] (.ListComp elt [⟨tg,iter,ifs,0⟩] scope pos) spos) (z4s i (z5K nt ix wi g tc te)):=by
 intro pins s σ H D I h
 rw [exec_Assign_Name_used _ _ _ _ hsw]
 refine wpAny_bind (wpAny_standAt (wpAny_bind ?_))
 show wpAny _ X.A (do let _ ←comprehension (.ListComp elt [⟨tg,iter,ifs,0⟩] scope pos) scope X.env _ (newList []) false (eval iter X.env) (some (assign (.Name y py) X.env))) _ _ s
 refine wpAny_bind (wpAny_mono (wpAny_comprehension_free (use:=some (assign (.Name y py) X.env)) (Q:=fun _ s'=>SP X pins D .next s') (E:=X.xe) rfl hs sc.clos sc.kind sc.names
  (thn (hi pins s σ H _ I h) fun v s1 h1=>thn h1 fun itv s2 h2=>?_)) (fun _ s' hq=>wpAny_pure (wpAny_pure hq)) fun _ _ e=>e)
 obtain ⟨it,fp,tn,J,H2,e,I2,T,st2,f2,q2⟩:=h2
 subst e
 refine Zs (Q:=fun v H1=>D.nx (σ.set i (some v)) H1) (RR:=fun acc C=>compPost (model X.prog X.w) X.A X.xe (some (assign (.Name y py) X.env)) (fun _ s'=>SP X pins D .next s') acc C) hc sc I2 T st2 f2 hg ht he q2 ?_
 intro l C s' H' m I' n' c1 c2 c3 c4 c5 q'
 show wpAny _ X.A (assign (.Name y py) X.env (.ref l)) _ _ _
 refine wpAny_assign_Name (z01 I' hN hy hl (v:=.ref l) rfl (fun s'' I'' k=>?_) hf)
 obtain ⟨a,sb,ha⟩:=k
 have hne:C≠a:=by
  rcases ha with ha | ha
  ·rw [ha];exact c1
  ·exact fun z=>c4 _ _ ha z.symm
 refine ⟨m,n'.sameBut sb hne,fun h' hs'=>?_⟩
 exact ⟨_,H',I''.turned (t':=s''.toks) (it:=C) (fun b o hb e=>(hs'.2 b hb).trans e) c2 c1 (.inr c3) c4 c5,q'⟩
end
end L2
namespace L2
open PySem PySem.Spec PyProof.Rows
theorem Inv.recast {X:Cx} {pins:List (Addr × Obj)} {σ:St} {H:Hp} {s:Shared} {d:Addr} {u u':HO} (I:Inv X pins σ H s) (e:H d=some u) (nt:∀xs,u≠.tup xs) (nb:∀ps,u≠.tbl ps) (no:∀x,u≠.own x)
  (hfz:∀o v,X.H₀ d≠some (.frz o v)) (ok:qz X.prog X.w (upd H d u') s.heap d u'):Inv X pins σ (upd H d u') s:=by
 have nn:∀b,H b=none→upd H d u' b=none:=fun b h=>by
  rw [zf (fun z=>by rw [z,e] at h;cases h)];exact h
 refine { I with base:=⟨I.base.keep,I.base.slot,fun b o q n hx=>nn b (I.base.free b o q n hx),I.base.there,fun b xs q=>?_,fun b o v q=>?_,fun b ps q=>?_⟩,free:=nn _ I.free,freeC:=fun x c q=>nn _ (I.freeC x c q),pin:=fun p hp=>?_,hok:=fun b v q=>?_ }
 ·have:=I.base.tups b xs q
  rw [zf (fun z=>by rw [z,e] at this;exact nt xs (kF this))];exact this
 ·have:=I.base.frzs b o v q
  rw [zf (fun z=>hfz o v (by rw [←z];exact q))];exact this
 ·obtain ⟨m,h⟩:=I.base.tbls b ps q
  exact ⟨m,by rw [zf (fun z=>by rw [z,e] at h;exact nb _ (kF h))];exact h⟩
 ·obtain ⟨a,b,c⟩:=I.pin p hp
  exact ⟨a,nn _ b,c⟩
 ·by_cases hb:b=d
  ·subst hb;rw [zb] at q;cases q;exact ok
  ·rw [zf hb] at q
   refine (I.hok b v q).stay (fun _ _ _ z=>z) (fun c z=>?_) fun c xs z=>?_
   ·rw [zf (fun y=>by rw [y,e] at z;exact no _ (kF z))];exact z
   ·rw [zf (fun y=>by rw [y,e] at z;exact nt _ (kF z))];exact z
theorem Inv.nofrz {X:Cx} {pins:List (Addr × Obj)} {σ:St} {H:Hp} {s:Shared} {d:Addr} {u:HO} (I:Inv X pins σ H s) (e:H d=some u) (nf:∀o v,u≠.frz o v):∀o v,X.H₀ d≠some (.frz o v):=fun o v q=>by
 have:=I.base.frzs d o v q
 rw [e] at this
 exact nf o v (kF this)
theorem z0p {k:Key} {u:Value} (h:z1f k u=true):RelV (kV k) u:=by
 rcases qk h with ⟨i,t,rfl,rfl⟩ | ⟨x,t,rfl,rfl⟩
 ·exact ⟨t,rfl⟩
 ·exact ⟨t,rfl⟩
theorem KV.get {kvs:List (Key × V)} {vs:List (Key × Value)} (r:KV kvs vs):∀{i:Nat} {p:Key × V},kvs[i]?=some p→∃v,vs[i]?=some (p.1,v)∧RelV p.2 v:=by
 unfold KV at r
 induction r with
 | nil=>intro i p h;simp at h
 | @cons p q ps qs h t ih=>
  intro i p' hp
  cases i with
  | zero=>
   simp at hp
   subst hp
   exact ⟨q.2,by rw [h.1];rfl,h.2⟩
  | succ i=>
   obtain ⟨v,h1,h2⟩:=ih (by simpa using hp)
   exact ⟨v,by simpa using h1,h2⟩
noncomputable def Itd (a:Addr) (o:Obj) (kvs:List (Key × V)):It:=
 ⟨fun i H=>H a=some (.frz o (.dK kvs))∧i < kvs.length,fun i H x H'=>∃p k v,x=.ref p∧H p=none∧kvs[i]?=some (k,v)∧H'=upd H p (.tup [kV k,v]),fun i H=>H a=some (.frz o (.dK kvs))∧kvs.length≤i⟩
theorem z3Q:entryFor table "dict_itemiterator.__iter__"=some Builtin.«dict_keyiterator.__iter__»:=
 entryFor_alias (id':="dict_keyiterator.__iter__") (by rw [fastTable_eq_tree];kernel_rfl) (by kernel_rfl) (by kernel_rfl) (by rw [fastTable_eq_tree];kernel_rfl)
theorem jH {prog:Program} {w:World} {A:Around} {E:Value→Shared→Prop} {s:Shared} {it d:Addr} {i n ep:Nat} {ok ov:Value} {Q:Value→Shared→Prop} (he:IsItemIter s.heap it d i n ep ok ov) (h:Q (.ref it) s):
  wpAny (model prog w) A (pyIter (.ref it)) Q E s:=by
 have hT:s.TypeIs (.ref it) "dict_itemiterator":=⟨_,he,rfl⟩
 refine wpAny_pyIter_slot hT F.slot_dict_itemiterator_iter (wpAny_call_entry F.slot_dict_itemiterator_iter hT z3Q ?_ (F.args_dict_itemiterator_iter_1 _))
 show wpAny _ _ (ret (.ref it)) _ _ s
 exact wpAny_pure ⟨_,rfl,"dict_itemiterator",_,hT,F.slot_dict_itemiterator_next.lookup,h⟩
theorem z25 {P:Program} {w:World} {K:kC} {elts:List Expr} {x1} {pos:Pos} (a it:Addr) (o:Obj) (kvs:List (Key × V)):
  Turn P w K (.Tuple elts x1 pos) (Itd a o kvs) [it] it (fun i h=>∃es ep ok ov,o.data=.dict es ep∧IsItemIter h it a i kvs.length ep ok ov) where
 mem:=by simp
 obj:=fun i h st b hb=>by
  have z:b=it:=by simpa using hb
  subst z
  obtain ⟨es,ep,ok,ov,_,q⟩:=st
  exact ⟨_,q,fun v y=>by cases y⟩
 keep:=fun i h h' st k=>let ⟨es,ep,ok,ov,d,q⟩:=st;⟨es,ep,ok,ov,d,k it (by simp) _ q⟩
 item:=by
  intro X hP hw hK hc i pins s σ H E I hf st hg
  subst hP hw hK
  obtain ⟨hq,hi⟩:=hg
  obtain ⟨es,ep,ok,ov,hd,hit⟩:=st
  obtain ⟨ho,hz,hsy,vs,rel,ob,es',ep',hob,hex,hdat,r3⟩:=(show qz X.prog X.w H s.heap a (.frz o (.dK kvs)) from I.hok a _ hq)
  rw [ho] at hob
  cases hob
  rw [hd] at hdat
  cases hdat
  have hm:s.heap.DictAt (zM X.prog X.w) a vs ep:=⟨o,es,ho,hex,hd,r3⟩
  have hlen:kvs.length=vs.length:=Paired.length rel
  obtain ⟨p,hp⟩:∃p,kvs[i]?=some p:=⟨kvs[i],kO hi⟩
  obtain ⟨v,hv,rv⟩:=rel.get hp
  have fi:=hf it (by simp)
  rw [hlen] at hit
  refine wpAny_pyNext_items_item hit hm hv fun key h' hkey heo ht hsz hk=>⟨_,rfl,?_⟩
  have rk:RelV (kV p.1) key:=z0p hkey
  have new:qz X.prog X.w (upd H s.heap.objs.size (.tup [kV p.1,p.2])) h' s.heap.objs.size (.tup [kV p.1,p.2]):=⟨by show 2≤sizeLine;decide,[key,v],.cons rk (.cons rv .nil),_,ht,rfl,_,rfl⟩
  have I1:Inv X pins σ (upd H s.heap.objs.size (.tup [kV p.1,p.2])) { s with heap:=h',toks:=s.toks }:=I.turned2 (e:=it) (it:=it) (t':=s.toks) (fun b o hb _ e=>hk b o hb e) (fun b hb=>by
   have z:b=it:=by simpa using hb
   subst z;exact ⟨_,heo⟩) fi fi new
  have ne1:it≠s.heap.objs.size:=Nat.ne_of_lt (Heap.lt_size hit)
  refine wpAny_letOwnedTupleGo_items (s:={ s with heap:=h' }) heo fun h2 he2 hs2=>?_
  refine ⟨.ref s.heap.objs.size,_,I1.turned (t':=s.toks) (it:=it) (fun b o hb q=>(hs2.2 b hb).trans q) (by rw [zf ne1];exact fi.1) fi.2.1 fi.2.2.2.1 fi.2.2.2.2.1 fi.2.2.2.2.2,rfl,⟨_,p.1,p.2,rfl,I.fresh,hp,rfl⟩,⟨es,ep,key,v,hd,by rw [hlen];exact he2⟩,fun b hb=>?_⟩
  have z:b=it:=by simpa using hb
  subst z;rw [zf ne1];exact fi.1
 done:=by
  intro X hP hw hK hc i pins s σ H E I hf st hg
  subst hP hw hK
  obtain ⟨hq,hi⟩:=hg
  obtain ⟨es,ep,ok,ov,hd,hit⟩:=st
  obtain ⟨ho,hz,hsy,vs,rel,ob,es',ep',hob,hex,hdat,r3⟩:=(show qz X.prog X.w H s.heap a (.frz o (.dK kvs)) from I.hok a _ hq)
  rw [ho] at hob
  cases hob
  rw [hd] at hdat
  cases hdat
  have hm:s.heap.DictAt (zM X.prog X.w) a vs ep:=⟨o,es,ho,hex,hd,r3⟩
  have hlen:kvs.length=vs.length:=Paired.length rel
  rw [hlen] at hit hi
  obtain ⟨f0,f1,f2,f3,f4,f5⟩:=hf it (by simp)
  exact wpAny_pyNext_items_end (I.ok.hd hc) hit hm (by rw [List.getElem?_eq_none_iff];exact hi) fun h' eb=>⟨rfl,I.turned (t':=s.toks) (fun b o hb e=>eb b o hb e) f0 f1 f3 f4 f5⟩
 self:=fun _ _ _ _ _ st h=>let ⟨es,ep,ok,ov,_,q⟩:=st;jH q h
section
variable {X:Cx}
def z7U (nt:Nat) (ix:List Nat) (td:TE) (g:TG) (tc:TT) (te:TE):TE:=fun σ H Q=>td σ H fun x H1=>∃a kvs,x=.ref a∧H1 a=some (.dK kvs)∧∀o l,H1 l=none→∃W:Nat→Nat→List V→St→Hp→Prop,(∃m,W 0 m [] (Qh nt ix σ) (upd (upd H1 a (.frz o (.dK kvs))) l (.lst [])))∧∀i m ys σ' H2,W i m ys σ' H2→
 H2 a=some (.frz o (.dK kvs))∧(kvs.length≤i→Q (.ref l) (upd H2 a (.dK kvs)))∧(∀p k v,kvs[i]?=some (k,v)→H2 p=none→g (.ref p) σ' (upd H2 p (.tup [kV k,v])) fun σ2 H4=>tc σ2 H4 fun b H5=>if b=true then te σ2 H5 fun v H6=>H6 l=some (.lst ys)∧ys.length < sizeLine∧∃m',m' < m∧W (i+1) m' (ys++[v]) σ2 (upd H6 l (.lst (ys++[v])))
  else ∃m',m' < m∧W (i+1) m' ys σ2 H5)
theorem z1E {elt o:Expr} {elts:List Expr} {x1} {tp apos cpos:Pos} {ifs:List Expr} {N:List Str} {nt:Nat} {ix:List Nat} {scope:Scope} {cl:List (Str × Addr)} {pos:Pos} {td:TE} {g:TG} {tc:TT} {te:TE} (hc:X.calm=true) (sc:Ze X N nt ix scope cl) (ho:PE X o td)
  (hg:∀(s:Shared) (H:Hp) (fp:List Addr) (C:Addr),PG (qt X N scope cl s H fp C) (.Tuple elts x1 tp) g)
  (ht:∀(s:Shared) (H:Hp) (fp:List Addr) (C:Addr),PTs (qt X N scope cl s H fp C) ifs tc)
  (he:∀(s:Shared) (H:Hp) (fp:List Addr) (C:Addr),PE (qt X N scope cl s H fp C) elt te) (hs:∀x,foldedSetIterable (.Call (.Attribute o "items" apos) [] [] cpos) X.env x=pure x:=by intro _;rfl)
  (hbase:autoParam (attributeBase o "items" X.env (eval o X.env)=eval o X.env) aR._auto_1) (hline:autoParam ((apos.endLine == cpos.line)=true) aR._auto_1):
  PE X (.ListComp elt [⟨.Tuple elts x1 tp,.Call (.Attribute o "items" apos) [] [] cpos,ifs,0⟩] scope pos) (z7U nt ix td g tc te):=by
 intro pins s σ H Q I h
 rw [eval_ListComp]
 refine wpAny_comprehension_free (use:=none) rfl hs sc.clos sc.kind sc.names ?_
 refine wpAny_Call_method0_late hbase hline (thn (ho pins s σ H _ I h) fun v s1 zz=>?_)
 obtain ⟨x,H1,I1,r1,a,kvs,ex,ha,q1⟩:=zz
 subst ex
 cases r1
 obtain ⟨hz,hsy,vs,rel,dd⟩:=z3W I1.hok ha
 obtain ⟨ob,es,ep,hob,hex,hdat,r3⟩:=id dd
 have hlen:kvs.length=vs.length:=Paired.length rel
 refine ⟨"dict",_,F.plainAttrs_dict,F.slot_dict_items,F.type_dict_items,⟨ob,hob,hex.1⟩,fun b z=>(by cases z;exact ⟨ob,hob,hex.2.1⟩),Calls.callWith_builtin rfl (PySem.evalArgs_none ?_)⟩
 refine call_meetsIn F.slot_dict_items dd.typeIs F.entry_dict_items (F.args_dict_items_1 _) (meets_dict_items (zM X.prog X.w) a hsy) ⟨⟨vs,dd⟩,?_⟩
 have k2:∀b o,s1.heap.get? b=some o→(s1.heap.push { cls:=.type "dict_items",data:=.fields #[.ref a] }).get? b=some o:=fun b o e=>Heap.get?_push_of_some _ e
 have I2:Inv X pins σ H1 { s1 with heap:=s1.heap.push { cls:=.type "dict_items",data:=.fields #[.ref a] } }:=I1.kept (t':=s1.toks) k2
 have hm:(s1.heap.push { cls:=.type "dict_items",data:=.fields #[.ref a] }).DictAt (zM X.prog X.w) a vs ep:=⟨ob,es,k2 _ _ hob,hex,hdat,r3⟩
 generalize hs2:({ s1 with heap:=s1.heap.push { cls:=.type "dict_items",data:=.fields #[.ref a] } }:Shared)=s2 at *
 have hm2:s2.heap.DictAt (zM X.prog X.w) a vs ep:=by rw [←hs2];exact hm
 have hview:s2.heap.IsItemsView s1.heap.objs.size a:=⟨_,by rw [←hs2];exact Heap.get?_push_size _ rfl,rfl,rfl⟩
 refine wpAny_pyIter_items hview hm2 ?_
 have k3:∀b o,s2.heap.get? b=some o→(s2.heap.push { cls:=.type "dict_itemiterator",data:=.fields #[.none,.bool false,.ref a,.int 0 0,.int vs.length 0,.int ep 0,.none,.none] }).get? b=some o:=fun b o e=>Heap.get?_push_of_some _ e
 have I3:Inv X pins σ H1 { s2 with heap:=s2.heap.push { cls:=.type "dict_itemiterator",data:=.fields #[.none,.bool false,.ref a,.int 0 0,.int vs.length 0,.int ep 0,.none,.none] } }:=I2.kept (t':=s2.toks) k3
 have hob3:(s2.heap.push { cls:=.type "dict_itemiterator",data:=.fields #[.none,.bool false,.ref a,.int 0 0,.int vs.length 0,.int ep 0,.none,.none] }).get? a=some ob:=k3 _ _ (by rw [←hs2];exact k2 _ _ hob)
 have nf:=I3.nofrz ha (fun _ _=>nofun)
 have I4:=I3.recast (u':=.frz ob (.dK kvs)) ha (fun _=>nofun) (fun _=>nofun) (fun _=>nofun) nf ⟨hob3,hz,hsy,vs,rel,ob,es,ep,hob3,hex,hdat,r3⟩
 have itn:H1 s2.heap.objs.size=none:=I2.fresh
 have nea:s2.heap.objs.size≠a:=(ze ha itn).symm
 refine Zs (Q:=fun v H'=>H' a=some (.frz ob (.dK kvs))∧Q v (upd H' a (.dK kvs))) (RR:=fun acc C=>compPost (model X.prog X.w) X.A X.xe none (EP X pins σ Q) acc C) hc sc I4 (z25 a s2.heap.objs.size ob kvs) ⟨es,ep,.none,.none,hdat,by rw [hlen];exact Heap.get?_push_size _ rfl⟩ (fun b hb=>?_) hg ht he (fun l hl=>?_) ?_
 ·have z:b=s2.heap.objs.size:=by simpa using hb
  subst z
  exact I2.fpOk (kh _) (by rw [zf nea];exact itn)
 ·have hl1:H1 l=none:=by
   cases q:H1 l with
   | none=>rfl
   | some u=>
    by_cases z:l=a
    ·subst z;rw [zb] at hl;cases hl
    ·rw [zf z,q] at hl;cases hl
  obtain ⟨W,w0,turn⟩:=q1 ob l hl1
  refine ⟨W,w0,fun i m ys σ' H2 hW=>?_⟩
  obtain ⟨t1,t2,t3⟩:=turn i m ys σ' H2 hW
  by_cases hlt:i < kvs.length
  ·refine .inr ⟨⟨t1,hlt⟩,fun x H3 y=>?_⟩
   obtain ⟨p,k,v,rfl,hp,hkv,rfl⟩:=y
   exact t3 p k v hkv hp
  ·exact .inl ⟨⟨t1,by lia⟩,t1,t2 (by lia)⟩
 ·intro D C s' H' m I' n' c1 c2 c3 c4 c5 q'
  obtain ⟨q5,q6⟩:=q'
  refine ⟨m,n',fun h' hs'=>?_⟩
  have I5:=I'.turned (t':=s'.toks) (it:=C) (h':=h') (fun b o hb e=>(hs'.2 b hb).trans e) c2 c1 (.inr c3) c4 c5
  obtain ⟨hob5,ok5⟩:=(show qz X.prog X.w H' h' a (.frz ob (.dK kvs)) from I5.hok a _ q5)
  obtain ⟨z1,z2,vs',rel',dd'⟩:=(show qz X.prog X.w H' h' a (.dK kvs) from ok5)
  exact ⟨.ref D,_,I5.recast (u':=.dK kvs) q5 (fun _=>nofun) (fun _=>nofun) (fun _=>nofun) nf ⟨z1,z2,vs',rel',dd'⟩,rfl,q6⟩
theorem z4k {bs:List Bool} {us:List Value} (r:Vals (bs.map V.bl) us):us=bs.map Value.bool:=by
 induction bs generalizing us with
 | nil=>cases r;rfl
 | cons b bs ih=>
  cases r with
  | cons x y=>cases x;rw [ih y];rfl
theorem JX (hc:X.calm=true):Z8 X (.builtin "all") (fun xs H Q=>∃(p:Addr) (bs:List Bool),xs=[.ref p]∧SqL X.K H p (bs.map V.bl)∧Q (.bl (bs.all id)) H):=by
 intro pins s σ H xs us Q I r h
 obtain ⟨p,bs,rfl,hS,q⟩:=h
 obtain ⟨u,rfl,ru⟩:=QD r
 cases ru
 obtain ⟨its,rv,pl,hz⟩:=I.list hS
 obtain rfl:=z4k rv
 have hh:X.A.in1.handled=none:=I.ok.hd hc
 have hne:p≠s.heap.objs.size:=Nat.ne_of_lt (by obtain ⟨o,_,e,_⟩:=pl;exact Heap.lt_size e)
 refine call_all_walk (wpAny_pyIter_list pl.isList ?_)
 refine ⟨s.heap.objs.size,_,_,_,_,_,fun i=>(bs[i]?).getD true,rfl,Walks.list hh s.heap.objs.size p hne (bs.map Value.bool).toArray,⟨⟨_,Heap.get?_push_size _ rfl,rfl,rfl⟩,pl.isList.push _⟩,fun i v s' Q' E' hv hq=>?_,fun h' tk hk=>?_⟩
 ·have hv:(bs.map Value.bool).toArray[i]?=some v:=hv
  rw [List.getElem?_toArray,List.getElem?_map] at hv
  cases hb:bs[i]? with
  | none=>rw [hb] at hv;cases hv
  | some b=>
   rw [hb] at hv
   cases hv
   have hq:Q' ((bs[i]?).getD true) s':=hq
   rw [hb] at hq
   exact wpAny_truthy_bool hq
 ·have e:(List.range (bs.map Value.bool).toArray.size).all (fun i=>(bs[i]?).getD true)=bs.all id:=by
   rw [kI,km,Bool.eq_iff_iff,List.all_eq_true,List.all_eq_true]
   constructor
   ·intro h b hb
    obtain ⟨i,hi⟩:=List.getElem?_of_mem hb
    have:=h i (List.mem_range.mpr (ki.mp hi).1)
    rw [hi] at this
    exact this
   ·intro h i hi
    rw [kO (List.mem_range.mp hi)]
    exact h _ (List.getElem_mem _)
  rw [e]
  refine ⟨.bl _,H,I.kept (t':=tk) fun b o e=>hk b o (fun z=>?_) (Heap.get?_push_of_some _ e),rfl,q⟩
  have:b=s.heap.objs.size:=by simpa using z
  rw [this] at e
  exact absurd (Heap.lt_size e) (Nat.lt_irrefl _)
theorem JW:Z8 X (.type "bool") (fun xs H Q=>∃x,xs=[x]∧((x=.non∧Q (.bl false) H)∨(∃b,x=.bl b∧Q (.bl b) H)∨(∃i,x=.int i∧Q (.bl (i != 0)) H)∨∃z,x=.str z∧z.length≤sizeLine∧Q (.bl ((z.length:Int) != 0)) H)):=by
 intro pins s σ H xs us Q I r h
 obtain ⟨x,rfl,h⟩:=h
 obtain ⟨u,rfl,ru⟩:=QD r
 rcases h with ⟨rfl,q⟩ | ⟨b,rfl,q⟩ | ⟨i,rfl,q⟩ | ⟨z,rfl,hz,q⟩
 ·cases ru;exact call_bool_none ⟨.bl false,H,I,rfl,q⟩
 ·cases ru;exact call_bool_bool ⟨.bl b,H,I,rfl,q⟩
 ·obtain ⟨t,rfl⟩:=ru;exact call_bool_int ⟨.bl _,H,I,rfl,q⟩
 ·obtain ⟨t,rfl⟩:=ru
  have:=QQ
  exact call_bool_str (by lia) ⟨.bl _,H,I.tok _,rfl,q⟩
def z7O (tab:List (Str × V)) (ty tx:TE):TE:=fun σ H Q=>ty σ H fun y H1=>tx σ H1 fun z H2=>∃x,y=.str x∧Q ((tab.lookup x).getD z) H2
theorem Qx {nm:Str} {e f:Expr} {p apos cpos:Pos} {d:Addr} {tab:List (Str × V)} {ty tx:TE} (T:KTab X.w.params X.K d tab) (hg:Gl X nm) (hm:X.mg nm=some (.ref d)) (he:PE X e ty) (hf:PE X f tx) (m:M2 X (.Name nm p) "get" apos e f cpos) (hd:autoParam ((nm == ("__debug__":Str))=false) aR._auto_2):
  PE X (.Call (.Attribute (.Name nm p) "get" apos) [e,f] [] cpos) (z7O tab ty tx):=by
 intro pins s σ H Q I h
 refine wpAny_Call_method m.base m.few m.line PySem.F.plainAttrs_dict PySem.F.slot_dict_get PySem.F.type_dict_get (Q3 I hg hm ?_ hd)
 obtain ⟨es,n,hl,hk,hsy,hp⟩:=id T
 have ho:=I.kIn d _ hl
 refine ⟨⟨_,ho,rfl⟩,fun b z=>(by cases z;exact ⟨_,ho,rfl⟩),?_⟩
 rw [m.trees]
 refine Calls.callWith_builtin rfl (Calls.evalArgs_plain (Calls.spliced_cons (thn (he pins s σ H _ I h) fun iv s2 ⟨y,H2,I2,ry,q2⟩=>
  Calls.spliced_cons (thn (hf pins s2 σ H2 _ I2 q2) fun fv s3 ⟨z,H3,I3,rz,x,ex,q3⟩=>Calls.spliced_nil ?_))))
 subst ex
 obtain ⟨t,rfl⟩:=ry
 obtain ⟨fm,mo,_,hf⟩:=JI (prog:=X.prog) (w:=X.w) rfl T I3.kIn
 refine call_meetsIn PySem.F.slot_dict_get mo.typeIs PySem.F.entry_dict_get (PySem.F.args_dict_get_3 _ _ _) (meets_dict_get_default (strKind X.prog X.w) d (strKind_is X.prog X.w x t) hsy fv) ⟨_,mo,_,H3,I3.tok _,(hf x).getD rz,q3⟩
end
end L2
theorem zU0 {C:List PySem.Value→Prop} (h:C []):∀us:List PySem.Value,us.length=0→C us:=by
 intro us hl
 cases us with
 | nil=>exact h
 | cons a t=>exact absurd hl (Nat.succ_ne_zero _)
theorem zU1 {C:List PySem.Value→Prop} (h:∀a,C [a]):∀us:List PySem.Value,us.length=1→C us:=by
 intro us hl
 cases us with
 | nil=>exact absurd hl.symm (Nat.succ_ne_zero _)
 | cons a t=>exact zU0 (C:=fun t=>C (a :: t)) (h a) t (Nat.succ.inj hl)
theorem zU2 {C:List PySem.Value→Prop} (h:∀a b,C [a,b]):∀us:List PySem.Value,us.length=2→C us:=by
 intro us hl
 cases us with
 | nil=>exact absurd hl.symm (Nat.succ_ne_zero _)
 | cons a t=>exact zU1 (C:=fun t=>C (a :: t)) (h a) t (Nat.succ.inj hl)
theorem zU3 {C:List PySem.Value→Prop} (h:∀a b c,C [a,b,c]):∀us:List PySem.Value,us.length=3→C us:=by
 intro us hl
 cases us with
 | nil=>exact absurd hl.symm (Nat.succ_ne_zero _)
 | cons a t=>exact zU2 (C:=fun t=>C (a :: t)) (h a) t (Nat.succ.inj hl)
theorem zU4 {C:List PySem.Value→Prop} (h:∀a b c d,C [a,b,c,d]):∀us:List PySem.Value,us.length=4→C us:=by
 intro us hl
 cases us with
 | nil=>exact absurd hl.symm (Nat.succ_ne_zero _)
 | cons a t=>exact zU3 (C:=fun t=>C (a :: t)) (h a) t (Nat.succ.inj hl)
theorem zU5 {C:List PySem.Value→Prop} (h:∀a b c d e,C [a,b,c,d,e]):∀us:List PySem.Value,us.length=5→C us:=by
 intro us hl
 cases us with
 | nil=>exact absurd hl.symm (Nat.succ_ne_zero _)
 | cons a t=>exact zU4 (C:=fun t=>C (a :: t)) (h a) t (Nat.succ.inj hl)
namespace My
open PySem PySem.Spec PyProof.Rows L2
variable {P:Program} {w:World} {K:kC} {mg:Str→Option Value} {base:Heap}
theorem fsM {N P:List Str} {sc:Scope} (a:autoParam (sc.kind=.function) aR._auto_1) (b:autoParam (sc.isCoroutine=false) aR._auto_1) (c:autoParam (sc.isGenerator=false) aR._auto_1) (d:N.Nodup:=by trivial) (e:autoParam (N.take P.length=P) aR._auto_1)
  (f:∀x∈P,sc.names.lookup x=some .local∨sc.names.lookup x=some .cell:=by trivial) (g:∀y∈sc.names,y.2≠.free:=by trivial):zi N P sc:=⟨a,b,c,d,e,f,g⟩
theorem jj {X:Cx} {o e:Expr} {es:List Expr} {to:TE} {t:TA} {apos cpos:Pos} (ho:PE X o to) (ha:PA X (e :: es) t) (hbase:autoParam (attributeBase o "append" X.env (eval o X.env)=eval o X.env) aR._auto_1)
  (hfew:autoParam (((backTo cpos (starEach (e :: es) X.env)).all (fun x=> !x.1)&&(backToKw cpos (keywordEach [] X.env)).all (fun x=>x.1.isSome)&&decide ((e :: es).length+([]:List Keyword).length+(if ([]:List Keyword).isEmpty then 0 else 1) < 30))=true) aR._auto_1)
  (hline:autoParam ((apos.endLine == cpos.line)=true) aR._auto_1) (hs:autoParam (starEach (e :: es) X.env=(false,eval e X.env) :: starEach es X.env) aR._auto_1) (hplain:autoParam ((backTo cpos (starEach es X.env)).any (·.1)=false) aR._auto_1):PE X (.Call (.Attribute o "append" apos) (e :: es) [] cpos) (tBM X.K "list" z13 to t):=z8o PySem.F.plainAttrs_list PySem.F.slot_list_append PySem.F.type_list_append z3s ho ha hbase hfew hline hs hplain
theorem jA {X:Cx} {o:Expr} {to:TE} {apos cpos:Pos} (ho:PE X o to) (hbase:autoParam (attributeBase o "pop" X.env (eval o X.env)=eval o X.env) aR._auto_1) (hline:autoParam ((apos.endLine == cpos.line)=true) aR._auto_1):PE X (.Call (.Attribute o "pop" apos) [] [] cpos) (tBM0 X.K "list" rPop to):=z1G PySem.F.plainAttrs_list PySem.F.slot_list_pop PySem.F.type_list_pop z8x ho hbase hline
noncomputable def top (i:Nat):Stmt:=PySem.Challenge.pw_codemill_k18_whole_told_step_by_step.main.body.getD i (.Pass ⟨0,0,0,0⟩)
def FN (P:Program) (w:World) (K:kC) (mg:Str→Option Value) (base:Heap) (k:Nat) (name:Str) (ps:List Str) (sp:Sp):Prop:=
 ∃f fd,mg name=some (.ref f)∧PySem.W.keepIn K (.ref f)=true∧Z9 K fd ps []∧FnOk P w K mg base CX0 k f fd ps sp
def zn (K:kC) (mg:Str→Option Value) (name:Str) (st:Stmt):Prop:=∃f fd,Fun K name name st f fd∧mg name=some (.ref f)
section
theorem FN.mono {j k:Nat} {name:Str} {ps:List Str} {sp:Sp} (F:FN P w K mg base j name ps sp) (h:j≤k):FN P w K mg base k name ps sp:=by
 obtain ⟨f,fd,a,b,c,d⟩:=F
 exact ⟨f,fd,a,b,c,d.mono h⟩
theorem FN.imp {k:Nat} {name:Str} {ps:List Str} {sp sp':Sp} (F:FN P w K mg base k name ps sp) (h:∀vs H Q E,sp' vs H Q E→sp vs H Q E):FN P w K mg base k name ps sp':=by
 obtain ⟨f,fd,a,b,c,d⟩:=F
 exact ⟨f,fd,a,b,c,d.imp h⟩
theorem FN.of {name:Str} {st:Stmt} {N ps:List Str} {sp:Sp} {k:Nat} (D:zn K mg name st) (S:zi N ps (zc st))
  (hb:∀(kV doc pm:Value) (an:Option Addr) (cdv ct:Value) (us:List Value),us.length=ps.length→bindArgs (PySem.W.fnOf name name (qr st) (zK st) (zc st) .none kV doc pm an cdv ct) ⟨us,[]⟩=pure (ps.zip us))
  (len:∀vs H Q E,sp vs H Q E→vs.length=ps.length)
  (hbody:∀(f:Addr) (cdv:Value) (A:Around) (outer:List Env) (s:Shared) (H:Hp) (vs:List V) (Q:VK) (E:XK),Room k (A.deeper (envOfC name (zc st) s.heap.objs.size f cdv))→sp vs H Q E→
   ∃t,PSs (cxOf CX0 P w K mg base N name (zc st) f cdv A outer s H E).nox (zK st) t∧t { nx:=fun _ H'=>Q .non H',rt:=Q } (jq N vs) H):FN P w K mg base (k+1) name ps sp:=by
 obtain ⟨f,fd,F,m⟩:=D
 exact ⟨f,fd,m,F.kp,F.binds hb,F.ok S len (hbody f)⟩
theorem FN.o {name:Str} {st:Stmt} {N ps:List Str} {sp:Sp} {k:Nat} (D:zn K mg name st) (S:zi N ps (zc st))
  (hbody:∀(f:Addr) (cdv:Value) (A:Around) (outer:List Env) (s:Shared) (H:Hp) (vs:List V) (Q:VK) (E:XK),Room k (A.deeper (envOfC name (zc st) s.heap.objs.size f cdv))→sp vs H Q E→
   ∃t,PSs (cxOf CX0 P w K mg base N name (zc st) f cdv A outer s H E).nox (zK st) t∧t { nx:=fun _ H'=>Q .non H',rt:=Q } (jq N vs) H)
  (hb:∀(kV doc pm:Value) (an:Option Addr) (cdv ct:Value) (us:List Value),us.length=ps.length→bindArgs (PySem.W.fnOf name name (qr st) (zK st) (zc st) .none kV doc pm an cdv ct) ⟨us,[]⟩=pure (ps.zip us):=by (first | exact fun _ _ _ _ _ _=>zU1 fun _=>rfl | exact fun _ _ _ _ _ _=>zU2 fun _ _=>rfl | exact fun _ _ _ _ _ _=>zU3 fun _ _ _=>rfl | exact fun _ _ _ _ _ _=>zU4 fun _ _ _ _=>rfl | exact fun _ _ _ _ _ _=>zU5 fun _ _ _ _ _=>rfl))
  (len:∀vs H Q E,sp vs H Q E→vs.length=ps.length:=by (intro vs H Q E h;repeat (first | (obtain ⟨e,_⟩:=h;subst e;rfl) | (obtain ⟨_,h⟩:=h)))):FN P w K mg base (k+1) name ps sp:=FN.of D S hb len hbody
end
section
variable {X:Cx} {k:Nat} {name:Str} {ps:List Str} {sp:Sp} {p pos:Pos} {e:Expr} {es:List Expr} {t:TA}
theorem zo (F:FN X.prog X.w X.K X.mg X.base k name ps sp) (hr:Room k X.A) (hg:Gl X name) (ha:PA X (e :: es) t) (hdb:autoParam ((name == ("__debug__":Str))=false) aR._auto_2)
  (he:autoParam (starEach (e :: es) X.env=(false,eval e X.env) :: starEach es X.env) aR._auto_1) (hpl:autoParam ((backTo pos (starEach es X.env)).any (·.1)=false) aR._auto_1):
  PE X (.Call (.Name name p) (e :: es) [] pos) (z2N sp [] E0 t):=by
 obtain ⟨f,fd,a,b,c,d⟩:=F
 exact z3k d hr hg a b c .nil z2e ha hdb he hpl
end
inductive Scal:V→Prop where
 | non:Scal .non
 | bl (b:Bool):Scal (.bl b)
 | int (i:Int):Scal (.int i)
 | str (s:Str) (h:s.length≤sizeLine):Scal (.str s)
noncomputable def Qn:V→Bool
 | .int _=>true
 | _=>false
noncomputable def isB:V→Bool
 | .bl _=>true
 | _=>false
noncomputable def isS:V→Bool
 | .str _=>true
 | _=>false
noncomputable def qK (x:V) (lo hi:Int):Bool:=match x with
 | .int i=>decide (lo≤i)&&decide (i≤hi)
 | _=>false
noncomputable def jT (x:V) (most:Int):Bool:=match x with
 | .str s=>decide ((1:Int)≤(s.length:Int))&&decide ((s.length:Int)≤most)&&Txt.isascii s&&Txt.isalpha s
 | _=>false
noncomputable def low:V→Bool
 | .str s=>Txt.islower s
 | _=>false
noncomputable def JF (x:V):Bool:=jT x 4&&low x
noncomputable def JJ (x:V):Bool:=jT x 8
noncomputable def z4R (x:V):Bool:=qK x 0 99
noncomputable def J8 (x:V) (most:Int):Bool:=decide (x=.non)||isB x||qK x (-most) most||JJ x
noncomputable def jN (x:V):Bool:=J8 x 1000000000
noncomputable def JU (x:V):Bool:=qK x 1 9
noncomputable def Qu (x:V):Bool:=qK x 2 9
noncomputable def z4O (x:V):Bool:=decide (x=.non)
noncomputable def ZW:List (Str × Str):=[("push","value"),("load","name"),("quick","name"),("store","name"),("clear","name"),("copy","copied"),("swap","swapped"),("jump","mark"),("iftrue","mark"),("iffalse","mark"),("ortrue","mark"),("orfalse","mark"),("try","mark"),("label","mark"),("add","none"),("sub","none"),("mul","none"),("div","none"),("rest","none"),("less","none"),("same","none"),("neg","none"),("not","none"),("drop","none"),("tell","none"),("return","none"),("raise","none"),("endtry","none")]
noncomputable def zX (op:Str):Option Str:=ZW.lookup op
noncomputable def qU (sort:Str) (x:V):Bool:=
 if sort="value" then jN x else if sort="name" then JF x else if sort="copied" then JU x else if sort="swapped" then Qu x else if sort="mark" then z4R x else z4O x
noncomputable def Zt (op:Str) (x:V):Bool:=match zX op with
 | some s=>qU s x
 | none=>false
noncomputable def rowV (op:Str) (arg line:V):Bool:=(zX op).isSome&&Zt op arg&&qK line 0 9999
structure Glo (mg:Str→Option Value):Prop where
 isinstance:mg "isinstance"=none
 int:mg "int"=none
 bool:mg "bool"=none
 str:mg "str"=none
 tuple:mg "tuple"=none
 list:mg "list"=none
 len:mg "len"=none
 range:mg "range"=none
 enumerate:mg "enumerate"=none
 rows:∃u,mg "MOST_ROWS"=some u∧RelV (.int 150) u
 line:∃u,mg "MOST_LINE"=some u∧RelV (.int 9999) u
 mark:∃u,mg "MOST_MARK"=some u∧RelV (.int 99) u
 pushed:∃u,mg "MOST_PUSHED"=some u∧RelV (.int 1000000000) u
 name:∃u,mg "LONGEST_NAME"=some u∧RelV (.int 4) u
 kind:∃u,mg "LONGEST_KIND"=some u∧RelV (.int 8) u
 all:mg "all"=none
 dict:mg "dict"=none
 max:mg "max"=none
 min:mg "min"=none
 abs:mg "abs"=none
 made:∃u,mg "MOST_MADE"=some u∧RelV (.int 1000000000000000000) u
 names:∃u,mg "MOST_NAMES"=some u∧RelV (.int 8) u
theorem zI:bootBuiltins "isinstance"=some (.builtin "isinstance"):=by trivial
theorem z5A:bootBuiltins "int"=some (.type "int"):=by trivial
theorem jX:bootBuiltins "bool"=some (.type "bool"):=by trivial
theorem z1Y:bootBuiltins "str"=some (.type "str"):=by trivial
theorem z2E:bootBuiltins "tuple"=some (.type "tuple"):=by trivial
theorem qW:bootBuiltins "list"=some (.type "list"):=by trivial
theorem qv:bootBuiltins "len"=some (.builtin "len"):=by trivial
theorem z4Z {K:kC} {H:Hp} {x:V} (h:Scal x):∃t,TyOf K H x t∧PySem.W.kitOne K t (.type "int")=some (Qn x||isB x):=by
 cases h with
 | non=>exact ⟨_,.non,rfl⟩
 | bl b=>exact ⟨_,.bl b,rfl⟩
 | int i=>exact ⟨_,.int i,rfl⟩
 | str s _=>exact ⟨_,.str s,rfl⟩
theorem ZK {K:kC} {H:Hp} {x:V} (h:Scal x):∃t,TyOf K H x t∧PySem.W.kitOne K t (.type "bool")=some (isB x):=by
 cases h with
 | non=>exact ⟨_,.non,rfl⟩
 | bl b=>exact ⟨_,.bl b,rfl⟩
 | int i=>exact ⟨_,.int i,rfl⟩
 | str s _=>exact ⟨_,.str s,rfl⟩
theorem z1O {K:kC} {H:Hp} {x:V} (h:Scal x):∃t,TyOf K H x t∧PySem.W.kitOne K t (.type "str")=some (isS x):=by
 cases h with
 | non=>exact ⟨_,.non,rfl⟩
 | bl b=>exact ⟨_,.bl b,rfl⟩
 | int i=>exact ⟨_,.int i,rfl⟩
 | str s _=>exact ⟨_,.str s,rfl⟩
theorem z2s {K:kC} {H:Hp} {x:V} (h:Scal x):∃t,TyOf K H x t∧PySem.W.kitOne K t (.type "tuple")=some false:=by
 cases h with
 | non=>exact ⟨_,.non,rfl⟩
 | bl b=>exact ⟨_,.bl b,rfl⟩
 | int i=>exact ⟨_,.int i,rfl⟩
 | str s _=>exact ⟨_,.str s,rfl⟩
section
variable {X:Cx}
theorem J3 (T:String) {x:Str} {pos:Pos} (hg:Gl X x) (hm:X.mg x=none) (hv:bootBuiltins x=some (.type T)) (hn:autoParam (x≠"__name__") aR._auto_2) (hd:autoParam ((x == ("__debug__":Str))=false) aR._auto_2):PE X (.Name x pos) (tC (.ty T)):=z6G hg hm hv rfl hn hd
theorem ji {x:Str} {v:V} {pos:Pos} (hg:Gl X x) (hm:∃u,X.mg x=some u∧RelV v u) (hd:autoParam ((x == ("__debug__":Str))=false) aR._auto_2):PE X (.Name x pos) (tC v):=by
 obtain ⟨u,h1,h2⟩:=hm
 exact qb hg h1 h2 hd
end
section
def sp1 (f:V→Bool):Sp:=fun vs H Q _=>∃x,vs=[x]∧Scal x∧Q (.bl (f x)) H
theorem z9t {f:V→Bool} (vs:List V) (H:Hp) (Q:VK) (E:XK) (h:sp1 f vs H Q E):vs.length=1:=by
 obtain ⟨x,rfl,_⟩:=h
 rfl
theorem sc13:zi ["thing"] ["thing"] (zc (top 13)):=fsM
theorem z0w (D:zn K mg "is_number" (top 13)) (G:Glo mg):FN P w K mg base 1 "is_number" ["thing"] (sp1 Qn):=by
 refine FN.o D sc13 fun f cdv A outer s H vs Q E hr h=>?_
 obtain ⟨x,rfl,hx,q⟩:=h
 refine ⟨_,zd (zl (jm (zy ql rfl G.isinstance zI (z6 (pv 0) (z6 (J3 "int" rfl G.int z5A) z7)))
  (jB (z5Z (zy ql rfl G.isinstance zI (z6 (pv 0) (z6 (J3 "bool" rfl G.bool jX) z7))))))),?_⟩
 try dsimp only [L2.cxOf,L2.Cx.nox]
 obtain ⟨t1,ty1,k1⟩:=z4Z (K:=K) (H:=H) hx
 obtain ⟨t2,ty2,k2⟩:=ZK (K:=K) (H:=H) hx
 refine ⟨_,rfl,_,"int",t1,_,rfl,ty1,k1,_,rfl,?_⟩
 cases hx with
 | non=>exact q
 | bl b=>exact ⟨_,rfl,_,"bool",t2,_,rfl,ty2,k2,_,rfl,q⟩
 | int i=>exact ⟨_,rfl,_,"bool",t2,_,rfl,ty2,k2,_,rfl,q⟩
 | str s _=>exact q
def Z1:Sp:=fun vs H Q _=>∃x lo hi,vs=[x,.int lo,.int hi]∧Scal x∧Q (.bl (qK x lo hi)) H
theorem sc14:zi ["thing","low","high"] ["thing","low","high"] (zc (top 14)):=fsM
theorem z3G (D:zn K mg "is_number_within" (top 14)) (G:Glo mg) (F1:FN P w K mg base 1 "is_number" ["thing"] (sp1 Qn)):FN P w K mg base 2 "is_number_within" ["thing","low","high"] Z1:=by
 refine FN.o D sc14 fun f cdv A outer s H vs Q E hr h=>?_
 obtain ⟨x,lo,hi,rfl,hx,q⟩:=h
 refine ⟨_,zd (zl (jm (zo F1 hr rfl (z6 (pv 0) z7)) (jB (Jz z2f z2f (pv 1) (pv 0) (pv 2))))),?_⟩
 try dsimp only [L2.cxOf,L2.Cx.nox]
 refine ⟨_,rfl,x,rfl,hx,_,rfl,?_⟩
 cases hx with
 | non=>exact q
 | bl b=>exact q
 | str s _=>exact q
 | int i=>
  refine ⟨_,rfl,_,rfl,_,_,rfl,rfl,_,rfl,?_⟩
  have q':Q (.bl (decide (lo≤i)&&decide (i≤hi))) H:=q
  refine ite2 (fun c=>?_) (fun c=>?_)
  ·rw [c,Bool.true_and] at q'
   exact ⟨_,rfl,_,_,rfl,rfl,q'⟩
  ·rw [Bool.eq_false_iff.mpr c,Bool.false_and] at q'
   exact q'
def QF:Sp:=fun vs H Q _=>∃x most,vs=[x,.int most]∧Scal x∧Q (.bl (jT x most)) H
theorem sc15:zi ["thing","most"] ["thing","most"] (zc (top 15)):=fsM
theorem z2x (D:zn K mg "is_letters" (top 15)) (G:Glo mg):FN P w K mg base 1 "is_letters" ["thing","most"] QF:=by
 refine FN.o D sc15 fun f cdv A outer s H vs Q E hr h=>?_
 obtain ⟨x,most,rfl,hx,q⟩:=h
 refine ⟨_,zd (zl (jm (zy ql rfl G.isinstance zI (z6 (pv 0) (z6 (J3 "str" rfl G.str z1Y) z7)))
  (jm (Jz z2f z2f zg (zy z0H rfl G.len qv (z6 (pv 0) z7)) (pv 1))
  (jm (z1G F.plainAttrs_str F.slot_str_isascii F.type_str_isascii z2h (pv 0))
  (jB (z1G F.plainAttrs_str F.slot_str_isalpha F.type_str_isalpha z2i (pv 0))))))),?_⟩
 try dsimp only [L2.cxOf,L2.Cx.nox]
 obtain ⟨t1,ty1,k1⟩:=z1O (K:=K) (H:=H) hx
 refine ⟨_,rfl,_,"str",t1,_,rfl,ty1,k1,_,rfl,?_⟩
 cases hx with
 | non=>exact q
 | bl b=>exact q
 | int i=>exact q
 | str z hz=>
  have q':Q (.bl (decide ((1:Int)≤(z.length:Int))&&decide ((z.length:Int)≤most)&&Txt.isascii z&&Txt.isalpha z)) H:=q
  refine ⟨_,rfl,z,rfl,hz,_,_,rfl,rfl,_,rfl,?_⟩
  refine ite2 (fun c=>?_) (fun c=>?_)
  ·rw [c,Bool.true_and] at q'
   refine ⟨_,rfl,_,_,rfl,rfl,_,rfl,?_⟩
   refine ite2 (fun c=>?_) (fun c=>?_)
   ·rw [c,Bool.true_and] at q'
    refine ⟨_,rfl,rfl,z,rfl,rfl,_,rfl,?_⟩
    refine ite2 (fun c=>?_) (fun c=>?_)
    ·rw [c,Bool.true_and] at q'
     exact ⟨_,rfl,rfl,z,rfl,rfl,q'⟩
    ·rw [Bool.eq_false_iff.mpr c,Bool.false_and] at q'
     exact q'
   ·rw [Bool.eq_false_iff.mpr c,Bool.false_and,Bool.false_and] at q'
    exact q'
  ·rw [Bool.eq_false_iff.mpr c,Bool.false_and,Bool.false_and,Bool.false_and] at q'
   exact ⟨_,rfl,q'⟩
theorem sc16:zi ["thing"] ["thing"] (zc (top 16)):=fsM
theorem z7c (D:zn K mg "is_name" (top 16)) (G:Glo mg) (F1:FN P w K mg base 1 "is_letters" ["thing","most"] QF):FN P w K mg base 2 "is_name" ["thing"] (sp1 JF):=by
 refine FN.o D sc16 fun f cdv A outer s H vs Q E hr h=>?_
 obtain ⟨x,rfl,hx,q⟩:=h
 refine ⟨_,zd (zl (jm (zo F1 hr rfl (z6 (pv 0) (z6 (ji rfl G.name) z7)))
  (jB (z1G F.plainAttrs_str F.slot_str_islower F.type_str_islower z2g (pv 0))))),?_⟩
 try dsimp only [L2.cxOf,L2.Cx.nox]
 refine ⟨_,rfl,x,4,rfl,hx,_,rfl,?_⟩
 have q':Q (.bl (jT x 4&&low x)) H:=q
 refine ite2 (fun c=>?_) (fun c=>?_)
 ·rw [c,Bool.true_and] at q'
  cases hx with
  | non=>cases c
  | bl b=>cases c
  | int i=>cases c
  | str z hz=>exact ⟨_,rfl,rfl,z,rfl,rfl,q'⟩
 ·rw [Bool.eq_false_iff.mpr c,Bool.false_and] at q'
  exact q'
theorem sc17:zi ["thing"] ["thing"] (zc (top 17)):=fsM
theorem z7g (D:zn K mg "is_kind" (top 17)) (G:Glo mg) (F1:FN P w K mg base 1 "is_letters" ["thing","most"] QF):FN P w K mg base 2 "is_kind" ["thing"] (sp1 JJ):=by
 refine FN.o D sc17 fun f cdv A outer s H vs Q E hr h=>?_
 obtain ⟨x,rfl,hx,q⟩:=h
 refine ⟨_,zd (zl (zo F1 hr rfl (z6 (pv 0) (z6 (ji rfl G.kind) z7)))),?_⟩
 try dsimp only [L2.cxOf,L2.Cx.nox]
 exact ⟨_,rfl,x,8,rfl,hx,q⟩
theorem sc18:zi ["thing"] ["thing"] (zc (top 18)):=fsM
theorem z7d (D:zn K mg "is_mark" (top 18)) (G:Glo mg) (F1:FN P w K mg base 2 "is_number_within" ["thing","low","high"] Z1):FN P w K mg base 3 "is_mark" ["thing"] (sp1 z4R):=by
 refine FN.o D sc18 fun f cdv A outer s H vs Q E hr h=>?_
 obtain ⟨x,rfl,hx,q⟩:=h
 refine ⟨_,zd (zl (zo F1 hr rfl (z6 (pv 0) (z6 zg (z6 (ji rfl G.mark) z7))))),?_⟩
 try dsimp only [L2.cxOf,L2.Cx.nox]
 exact ⟨_,rfl,x,0,99,rfl,hx,q⟩
def z0V:Sp:=fun vs H Q _=>∃x most,vs=[x,.int most]∧Scal x∧Q (.bl (J8 x most)) H
theorem sc19:zi ["thing","most"] ["thing","most"] (zc (top 19)):=fsM
theorem z58 (D:zn K mg "is_value_within" (top 19)) (G:Glo mg) (F1:FN P w K mg base 2 "is_number_within" ["thing","low","high"] Z1) (F2:FN P w K mg base 2 "is_kind" ["thing"] (sp1 JJ)):FN P w K mg base 3 "is_value_within" ["thing","most"] z0V:=by
 refine FN.o D sc19 fun f cdv A outer s H vs Q E hr h=>?_
 obtain ⟨x,most,rfl,hx,q⟩:=h
 refine ⟨_,z8 (zJ (PW.pt (Jv (zm Qd (pv 0) qm (zq _)) (ZC (qZ (zy ql rfl G.isinstance zI (z6 (pv 0) (z6 (J3 "bool" rfl G.bool jX) z7))))))) (zd (zl ZZ)) zw)
  (zd (zl (z8m (zo F1 hr rfl (z6 (pv 0) (z6 (Z7 qY (pv 1)) (z6 (pv 1) z7)))) (jB (zo F2 hr rfl (z6 (pv 0) z7)))))),?_⟩
 try dsimp only [L2.cxOf,L2.Cx.nox]
 refine ⟨_,rfl,rfl,_,rfl,?_⟩
 have q':Q (.bl (decide (x=.non)||isB x||qK x (-most) most||JJ x)) H:=q
 refine ite2 (fun c=>?_) (fun c=>?_)
 ·rw [c,Bool.true_or,Bool.true_or,Bool.true_or] at q'
  exact iteT q'
 ·rw [Bool.eq_false_iff.mpr c,Bool.false_or] at q'
  obtain ⟨t2,ty2,k2⟩:=ZK (K:=K) (H:=H) hx
  refine ⟨_,rfl,_,"bool",t2,_,rfl,ty2,k2,_,rfl,?_⟩
  refine ite2 (fun c=>?_) (fun c=>?_)
  ·rw [c,Bool.true_or,Bool.true_or] at q'
   exact q'
  ·rw [Bool.eq_false_iff.mpr c,Bool.false_or] at q'
   refine ⟨_,rfl,_,rfl,most,rfl,_,rfl,x,-most,most,rfl,hx,_,rfl,?_⟩
   refine ite2 (fun c=>?_) (fun c=>?_)
   ·rw [c,Bool.true_or] at q'
    exact q'
   ·rw [Bool.eq_false_iff.mpr c,Bool.false_or] at q'
    exact ⟨_,rfl,x,rfl,hx,q'⟩
theorem sc20:zi ["thing"] ["thing"] (zc (top 20)):=fsM
theorem z3K (D:zn K mg "is_pushed" (top 20)) (G:Glo mg) (F1:FN P w K mg base 3 "is_value_within" ["thing","most"] z0V):FN P w K mg base 4 "is_pushed" ["thing"] (sp1 jN):=by
 refine FN.o D sc20 fun f cdv A outer s H vs Q E hr h=>?_
 obtain ⟨x,rfl,hx,q⟩:=h
 refine ⟨_,zd (zl (zo F1 hr rfl (z6 (pv 0) (z6 (ji rfl G.pushed) z7)))),?_⟩
 try dsimp only [L2.cxOf,L2.Cx.nox]
 exact ⟨_,rfl,x,1000000000,rfl,hx,q⟩
theorem sc21:zi ["thing"] ["thing"] (zc (top 21)):=fsM
theorem z3L (D:zn K mg "is_copied" (top 21)) (F1:FN P w K mg base 2 "is_number_within" ["thing","low","high"] Z1):FN P w K mg base 3 "is_copied" ["thing"] (sp1 JU):=by
 refine FN.o D sc21 fun f cdv A outer s H vs Q E hr h=>?_
 obtain ⟨x,rfl,hx,q⟩:=h
 refine ⟨_,zd (zl (zo F1 hr rfl (z6 (pv 0) (z6 zg (z6 zg z7))))),?_⟩
 try dsimp only [L2.cxOf,L2.Cx.nox]
 exact ⟨_,rfl,x,1,9,rfl,hx,q⟩
theorem sc22:zi ["thing"] ["thing"] (zc (top 22)):=fsM
theorem z2w (D:zn K mg "is_swapped_with" (top 22)) (F1:FN P w K mg base 2 "is_number_within" ["thing","low","high"] Z1):FN P w K mg base 3 "is_swapped_with" ["thing"] (sp1 Qu):=by
 refine FN.o D sc22 fun f cdv A outer s H vs Q E hr h=>?_
 obtain ⟨x,rfl,hx,q⟩:=h
 refine ⟨_,zd (zl (zo F1 hr rfl (z6 (pv 0) (z6 zg (z6 zg z7))))),?_⟩
 try dsimp only [L2.cxOf,L2.Cx.nox]
 exact ⟨_,rfl,x,2,9,rfl,hx,q⟩
theorem sc23:zi ["thing"] ["thing"] (zc (top 23)):=fsM
theorem z7a (D:zn K mg "is_none" (top 23)):FN P w K mg base 1 "is_none" ["thing"] (sp1 z4O):=by
 refine FN.o D sc23 fun f cdv A outer s H vs Q E hr h=>?_
 obtain ⟨x,rfl,hx,q⟩:=h
 refine ⟨_,zd (zl (qI Qd (pv 0) qm (zq _))),?_⟩
 try dsimp only [L2.cxOf,L2.Cx.nox]
 exact ⟨_,rfl,rfl,q⟩
theorem Q2 {α β:Type} (f:α→β) (x:Str):∀l:List (Str × α),(l.map fun p=>(p.1,f p.2)).lookup x=(l.lookup x).map f
 | []=>rfl
 | (k,v) :: r=>by
  rw [kY,List.lookup_cons,List.lookup_cons]
  cases x == k with
  | true=>rfl
  | false=>exact Q2 f x r
noncomputable def z33:List (Str × V):=ZW.map fun p=>(p.1,V.str p.2)
theorem QG (x:Str):z33.lookup x=(zX x).map V.str:=Q2 _ _ _
structure Tabs (w:World) (K:kC) (mg:Str→Option Value):Prop where
 sorts:∃d,mg "ARG_SORTS"=some (.ref d)∧KTab w.params K d z33
 tests:∃d f1 f2 f3 f4 f5 f6,mg "ARG_TESTS"=some (.ref d)∧KTab w.params K d [("value",.ref f1),("name",.ref f2),("copied",.ref f3),("swapped",.ref f4),("mark",.ref f5),("none",.ref f6)]∧
  mg "is_pushed"=some (.ref f1)∧mg "is_name"=some (.ref f2)∧mg "is_copied"=some (.ref f3)∧mg "is_swapped_with"=some (.ref f4)∧mg "is_mark"=some (.ref f5)∧mg "is_none"=some (.ref f6)
noncomputable def isOp:V→Bool
 | .str s=>(zX s).isSome
 | _=>false
theorem sc25:zi ["thing"] ["thing"] (zc (top 25)):=fsM
theorem z9T (D:zn K mg "is_op" (top 25)) (G:Glo mg) (T:Tabs w K mg):FN P w K mg base 1 "is_op" ["thing"] (sp1 isOp):=by
 refine FN.o D sc25 fun f cdv A outer s H vs Q E hr h=>?_
 obtain ⟨x,rfl,hx,q⟩:=h
 obtain ⟨d,md,td⟩:=T.sorts
 refine ⟨_,zd (zl (jm (zy ql rfl G.isinstance zI (z6 (pv 0) (z6 (J3 "str" rfl G.str z1Y) z7))) (jB (z1F (z8p td rfl md (pv 0)))))),?_⟩
 try dsimp only [L2.cxOf,L2.Cx.nox]
 obtain ⟨t1,ty1,k1⟩:=z1O (K:=K) (H:=H) hx
 refine ⟨_,rfl,_,"str",t1,_,rfl,ty1,k1,_,rfl,?_⟩
 cases hx with
 | non=>exact q
 | bl b=>exact q
 | int i=>exact q
 | str z hz=>
  refine ⟨_,rfl,z,rfl,?_⟩
  have q':Q (.bl (zX z).isSome) H:=q
  rw [QG,Option.isSome_map]
  exact q'
def z2V:Sp:=fun vs H Q _=>∃op s,vs=[.str op]∧zX op=some s∧Q (.str s) H
theorem sc26:zi ["op"] ["op"] (zc (top 26)):=fsM
theorem z73 (D:zn K mg "arg_sort" (top 26)) (T:Tabs w K mg):FN P w K mg base 1 "arg_sort" ["op"] z2V:=by
 refine FN.o D sc26 fun f cdv A outer s H vs Q E hr h=>?_
 obtain ⟨op,so,rfl,hs,q⟩:=h
 obtain ⟨d,md,td⟩:=T.sorts
 refine ⟨_,zd (zl (Jy td rfl md (pv 0) (fun _ _=>rfl))),?_⟩
 try dsimp only [L2.cxOf,L2.Cx.nox]
 exact ⟨_,rfl,op,.str so,rfl,by rw [QG,hs];rfl,q⟩
def z5S:Sp:=fun vs H Q _=>∃op s x,vs=[.str op,x]∧zX op=some s∧Scal x∧Q (.bl (qU s x)) H
theorem sc27:zi ["op","arg","fits"] ["op","arg"] (zc (top 27)):=fsM
theorem z6t {op s:Str} (h:zX op=some s):s="value"∨s="name"∨s="copied"∨s="swapped"∨s="mark"∨s="none":=by
 have hm:(op,s)∈ZW:=PySem.mem_of_lookup h
 have all:∀p∈ZW,p.2="value"∨p.2="name"∨p.2="copied"∨p.2="swapped"∨p.2="mark"∨p.2="none":=by trivial
 exact all _ hm
theorem z7i (D:zn K mg "arg_fits" (top 27)) (T:Tabs w K mg) (F1:FN P w K mg base 1 "arg_sort" ["op"] z2V) (A1:FN P w K mg base 4 "is_pushed" ["thing"] (sp1 jN)) (A2:FN P w K mg base 2 "is_name" ["thing"] (sp1 JF))
  (A3:FN P w K mg base 3 "is_copied" ["thing"] (sp1 JU)) (A4:FN P w K mg base 3 "is_swapped_with" ["thing"] (sp1 Qu)) (A5:FN P w K mg base 3 "is_mark" ["thing"] (sp1 z4R)) (A6:FN P w K mg base 1 "is_none" ["thing"] (sp1 z4O)):
  FN P w K mg base 5 "arg_fits" ["op","arg"] z5S:=by
 refine FN.o D sc27 fun f cdv A outer s H vs Q E hr h=>?_
 obtain ⟨op,so,x,rfl,hs,hx,q⟩:=h
 obtain ⟨d,f1,f2,f3,f4,f5,f6,md,td,m1,m2,m3,m4,m5,m6⟩:=T.tests
 have hr1:=hr.mono (show 1≤4 by decide)
 refine ⟨_,z8 (zG (i:=2) sc27.nd rfl (Or.inl rfl) (Jy td rfl md (zo F1 hr1 rfl (z6 (pv 0) z7)) (fun _ _=>rfl))) (zd (zl (JA (pv 2) (z6 (pv 1) z7)))),?_⟩
 try dsimp only [L2.cxOf,L2.Cx.nox]
 refine ⟨_,rfl,op,so,rfl,hs,so,?_⟩
 rcases z6t hs with e | e | e | e | e | e
 ·subst e
  obtain ⟨g,gd,mg1,kp,bd,ok⟩:=A1
  cases (kF (m1.symm.trans mg1))
  exact ⟨.ref f1,rfl,by rfl,f1,gd,_,_,4,rfl,kp,ok,hr,bd,_,rfl,x,rfl,hx,q⟩
 ·subst e
  obtain ⟨g,gd,mg1,kp,bd,ok⟩:=A2
  cases (kF (m2.symm.trans mg1))
  exact ⟨.ref f2,rfl,by rfl,f2,gd,_,_,2,rfl,kp,ok,hr.mono (by decide),bd,_,rfl,x,rfl,hx,q⟩
 ·subst e
  obtain ⟨g,gd,mg1,kp,bd,ok⟩:=A3
  cases (kF (m3.symm.trans mg1))
  exact ⟨.ref f3,rfl,by rfl,f3,gd,_,_,3,rfl,kp,ok,hr.mono (by decide),bd,_,rfl,x,rfl,hx,q⟩
 ·subst e
  obtain ⟨g,gd,mg1,kp,bd,ok⟩:=A4
  cases (kF (m4.symm.trans mg1))
  exact ⟨.ref f4,rfl,by rfl,f4,gd,_,_,3,rfl,kp,ok,hr.mono (by decide),bd,_,rfl,x,rfl,hx,q⟩
 ·subst e
  obtain ⟨g,gd,mg1,kp,bd,ok⟩:=A5
  cases (kF (m5.symm.trans mg1))
  exact ⟨.ref f5,rfl,by rfl,f5,gd,_,_,3,rfl,kp,ok,hr.mono (by decide),bd,_,rfl,x,rfl,hx,q⟩
 ·subst e
  obtain ⟨g,gd,mg1,kp,bd,ok⟩:=A6
  cases (kF (m6.symm.trans mg1))
  exact ⟨.ref f6,rfl,by rfl,f6,gd,_,_,1,rfl,kp,ok,hr.mono (by decide),bd,_,rfl,x,rfl,hx,q⟩
def z6q:Sp:=fun vs H Q _=>(vs=[.non]∧Q (.bl false) H)∨∃a op arg line,vs=[.ref a]∧H a=some (.tup [.str op,arg,line])∧op.length≤sizeLine∧Scal arg∧Scal line∧Q (.bl (rowV op arg line)) H
theorem sc28:zi ["thing","op","arg","line"] ["thing"] (zc (top 28)):=fsM
theorem z8N (D:zn K mg "is_row" (top 28)) (G:Glo mg) (F1:FN P w K mg base 1 "is_op" ["thing"] (sp1 isOp)) (F2:FN P w K mg base 5 "arg_fits" ["op","arg"] z5S) (F3:FN P w K mg base 2 "is_number_within" ["thing","low","high"] Z1):
  FN P w K mg base 6 "is_row" ["thing"] z6q:=by
 refine FN.of D sc28 (fun _ _ _ _ _ _=>zU1 fun _=>rfl) (fun vs H Q E h=>by rcases h with ⟨rfl,_⟩ | ⟨a,op,arg,line,rfl,_⟩ <;> rfl) (fun f cdv A outer s H vs Q E hr h=>?_)
 refine ⟨_,z8 (zJ (PW.pt (Jv (Za (qZ (zy ql rfl G.isinstance zI (z6 (pv 0) (z6 (J3 "tuple" rfl G.tuple z2E) z7)))))
   (ZC (zm z0d (zy zL rfl G.len qv (z6 (pv 0) z7)) zg (zq _))))) (zd (zl ZZ)) zw)
  (z8 (jb (pv 0) (jc rfl (zr (zu (i:=1) sc28.nd rfl (Or.inl rfl)) (zr (zu (i:=2) sc28.nd rfl (Or.inl rfl)) (zr (zu (i:=3) sc28.nd rfl (Or.inl rfl)) qx)))))
  (zd (zl (jm (zo F1 (hr.mono (by decide)) rfl (z6 (pv 1) z7)) (jm (zo F2 hr rfl (z6 (pv 1) (z6 (pv 2) z7))) (jB (zo F3 (hr.mono (by decide)) rfl (z6 (pv 3) (z6 zg (z6 (ji rfl G.line) z7)))))))))),?_⟩
 try dsimp only [L2.cxOf,L2.Cx.nox]
 rcases h with ⟨rfl,q⟩ | ⟨a,op,arg,line,rfl,ha,hop,harg,hline,q⟩
 ·obtain ⟨t1,ty1,k1⟩:=z2s (K:=K) (H:=H) .non
  exact ⟨_,rfl,_,"tuple",t1,_,rfl,ty1,k1,_,rfl,iteT (iteT q)⟩
 ·refine ⟨_,rfl,_,"tuple",_,true,rfl,.tup ha,rfl,_,rfl,iteF ?_⟩
  refine ⟨_,rfl,a,_,rfl,.inr (SqT.of ha),rfl,_,rfl,iteF ?_⟩
  refine ⟨_,rfl,a,_,rfl,SqT.of ha,rfl,_,_,rfl,_,_,rfl,_,_,rfl,rfl,?_⟩
  refine ⟨_,rfl,_,rfl,.str op hop,_,rfl,?_⟩
  have q':Q (.bl ((zX op).isSome&&Zt op arg&&qK line 0 9999)) H:=q
  cases hs:zX op with
  | none=>
   have e:isOp (.str op)=false:=by show (zX op).isSome=false;rw [hs];rfl
   rw [e]
   rw [hs] at q'
   exact iteF q'
  | some so=>
   have e:isOp (.str op)=true:=by show (zX op).isSome=true;rw [hs];rfl
   have ea:Zt op arg=qU so arg:=by unfold Zt;rw [hs]
   rw [e]
   rw [hs,ea] at q'
   refine iteT ⟨_,rfl,_,rfl,op,so,arg,rfl,hs,harg,_,rfl,?_⟩
   refine ite2 (fun c=>?_) (fun c=>?_)
   ·rw [c] at q'
    exact ⟨_,rfl,line,0,9999,rfl,hline,q'⟩
   ·rw [Bool.eq_false_iff.mpr c] at q'
    exact q'
end
structure Row where
 op:Str
 arg:V
 line:Int
noncomputable def tupV (r:Row):List V:=[.str r.op,r.arg,.int r.line]
abbrev zV (H:Hp):List Addr→List Row→Prop:=Paired fun a r=>H a=some (.tup (tupV r))
def jG (r:Row):Prop:=rowV r.op r.arg (.int r.line)=true
theorem z1C {α β:Type} {F:α→β→Prop} {xs ys:List α} {us vs:List β} (h:Paired F xs us) (k:Paired F ys vs):Paired F (xs++ys) (us++vs):=by
 induction h with
 | nil=>exact k
 | cons r _ ih=>exact .cons r ih
theorem z3d {β:Type} {F:Addr→β→Prop} {as:List Addr} {rs:List β} (h:Paired F as rs):∀{i:Nat} {x:V},(as.map V.ref)[i]?=some x→∃a r,x=.ref a∧rs[i]?=some r∧F a r:=by
 induction h with
 | nil=>intro i x e;simp at e
 | cons r t ih=>
  intro i x e
  cases i with
  | zero=>simp at e;subst e;exact ⟨_,_,rfl,rfl,r⟩
  | succ i=>
   obtain ⟨a,r,h1,h2,h3⟩:=ih (i:=i) (x:=x) (by simpa using e)
   exact ⟨a,r,h1,by simpa using h2,h3⟩
theorem z8i {α β:Type} {F:α→β→Prop} {as:List α} {rs:List β} (h:Paired F as rs):∀{i:Nat} {r:β},rs[i]?=some r→∃a,as[i]?=some a∧F a r:=by
 induction h with
 | nil=>intro i x e;simp at e
 | cons r t ih=>
  intro i x e
  cases i with
  | zero=>simp at e;subst e;exact ⟨_,rfl,r⟩
  | succ i=>
   obtain ⟨a,h2,h3⟩:=ih (i:=i) (by simpa using e)
   exact ⟨a,by simpa using h2,h3⟩
theorem zV.keep {H H':Hp} {as:List Addr} {rs:List Row} (h:zV H as rs) (k:∀a xs,H a=some (.tup xs)→H' a=some (.tup xs)):zV H' as rs:=Paired.mapP h fun _ _ e=>k _ _ e
theorem zV.same {H H':Hp} {as:List Addr} {rs:List Row} (h:zV H as rs) (s:Same H H'):zV H' as rs:=h.keep fun _ _ e=>s _ _ e
theorem zV.get {H:Hp} {as:List Addr} {rs:List Row} {i:Nat} {x:V} (h:zV H as rs) (e:(as.map V.ref)[i]?=some x):∃a r,x=.ref a∧rs[i]?=some r∧H a=some (.tup (tupV r)):=z3d h e
theorem zV.append {H:Hp} {as bs:List Addr} {rs ts:List Row} (h:zV H as rs) (k:zV H bs ts):zV H (as++bs) (rs++ts):=z1C h k
theorem zV.len {H:Hp} {as:List Addr} {rs:List Row} (h:zV H as rs):as.length=rs.length:=Paired.length h
theorem zh {H:Hp} {p:Addr} (h:H p=none) (o:HO):Same H (upd H p o):=fun b u q=>by rw [zf (ze q h)];exact q
theorem Same.upd {H H2:Hp} {p:Addr} (s:Same H H2) (h:H p=none) (o:HO):Same H (upd H2 p o):=fun b u q=>by rw [zf (ze q h)];exact s b u q
theorem z4L {op s:Str} (h:zX op=some s):op.length≤7:=by
 have hm:(op,s)∈ZW:=PySem.mem_of_lookup h
 have all:∀p∈ZW,p.1.length≤7:=by trivial
 exact all _ hm
theorem z1z {n:Nat} (h:n≤1000):n≤sizeLine:=Nat.le_of_lt (qG h)
theorem Qf {x:V} {m:Int} (h:jT x m=true) (hm:m≤100):Scal x:=by
 cases x with
 | str s=>
  have h:(decide ((1:Int)≤(s.length:Int))&&decide ((s.length:Int)≤m)&&Txt.isascii s&&Txt.isalpha s)=true:=h
  simp only [yg,yh] at h
  exact .str s (z1z (by lia))
 | _=>cases h
theorem qC {x:V} {lo hi:Int} (h:qK x lo hi=true):∃i,x=.int i∧lo≤i∧i≤hi:=by
 cases x with
 | int i=>
  have h:(decide (lo≤i)&&decide (i≤hi))=true:=h
  simp only [yg,yh] at h
  exact ⟨i,rfl,h.1,h.2⟩
 | _=>cases h
theorem z3N {s:Str} {x:V} (h:qU s x=true):Scal x:=by
 unfold qU at h
 split at h
 ·unfold jN J8 at h
  simp only [Bool.or_eq_true,yh] at h
  rcases h with ((h | h) | h) | h
  ·subst h;exact .non
  ·cases x with
   | bl b=>exact .bl b
   | _=>cases h
  ·obtain ⟨i,rfl,_⟩:=qC h;exact .int i
  ·exact Qf h (by decide)
 ·split at h
  ·unfold JF at h
   simp only [yg] at h
   exact Qf h.1 (by decide)
  ·split at h
   ·obtain ⟨i,rfl,_⟩:=qC h;exact .int i
   ·split at h
    ·obtain ⟨i,rfl,_⟩:=qC h;exact .int i
    ·split at h
     ·obtain ⟨i,rfl,_⟩:=qC h;exact .int i
     ·unfold z4O at h
      simp only [yh] at h
      subst h;exact .non
theorem jG.parts {r:Row} (h:jG r):∃s,zX r.op=some s∧qU s r.arg=true∧0≤r.line∧r.line≤9999∧r.op.length≤sizeLine∧Scal r.arg:=by
 unfold jG rowV at h
 simp only [yg] at h
 obtain ⟨⟨h1,h2⟩,h3⟩:=h
 obtain ⟨s,hs⟩:=Option.isSome_iff_exists.mp h1
 have h2':qU s r.arg=true:=by unfold Zt at h2;rw [hs] at h2;exact h2
 obtain ⟨i,e,l1,l2⟩:=qC h3
 cases e
 exact ⟨s,hs,h2',l1,l2,z1z (kz (z4L hs) (by decide)),z3N h2'⟩
theorem ZH {x:V} (h:qU "mark" x=true):∃m:Int,x=.int m∧0≤m∧m≤99:=by
 have e:qU "mark" x=z4R x:=by
  unfold qU
  rw [kD (by trivial),kD (by trivial),kD (by trivial),kD (by trivial),kE rfl]
 rw [e] at h
 exact qC h
noncomputable def labP (m:Int) (r:Row):Bool:=decide (r.op="label")&&decide (r.arg=.int m)
noncomputable def zE (rs:List Row) (m:Int):Option Nat:=rs.findIdx? (labP m)
noncomputable def jo (rs:List Row) (i:Nat) (r:Row):Bool:=
 if r.op="label" then (match r.arg with | .int m=>decide (zE rs m=some i) | _=>false)
 else if zX r.op=some ("mark":Str) then (match r.arg with | .int m=>(zE rs m).isSome | _=>false) else true
def Q6 (kvs:List (Key × V)) (rs:List Row):Prop:=∀m:Int,valV kvs (Sum.inl m:Key)=Option.map (fun i:Nat=>V.int (i:Int)) (zE rs m)
section
def z1w (K:kC):Sp:=fun vs H Q _=>∃l as rs,vs=[.ref l]∧SqL K H l (as.map V.ref)∧zV H as rs∧(∀r∈rs,jG r)∧rs.length≤1000∧
 ∀d kvs H',H d=none→Same H H'→H' d=some (.dK kvs)→Q6 kvs rs→Q (.ref d) H'
theorem sc29:zi ["rows","places","place","row"] ["rows"] (zc (top 29)):=fsM
theorem Zy {α:Type} {l:List α} {i:Nat} {x:α} (h:l[i]?=some x):l.take (i+1)=l.take i++[x]:=by
 rw [List.take_add_one,h]
 rfl
theorem JH {rs:List Row} {i:Nat} {r:Row} (h:rs[i]?=some r) (m:Int):zE (rs.take (i+1)) m=(zE (rs.take i) m).or (if labP m r=true then some i else none):=by
 have hl:(rs.take i).length=i:=by
  rw [List.length_take]
  have:=(ki.mp h).1
  lia
 unfold zE
 rw [Zy h,List.findIdx?_append,hl]
 congr 1
 rw [List.findIdx?_cons]
 by_cases c:labP m r=true
 ·rw [kE c,kE c];simp
 ·rw [kD c,kD c];simp
theorem z7f (D:zn K mg "label_places" (top 29)) (G:Glo mg) (FR:FN P w K mg base 6 "is_row" ["thing"] z6q):FN P w K mg base 7 "label_places" ["rows"] (z1w K):=by
 refine FN.o D sc29 fun f cdv A outer s H vs Q E hr h=>?_
 obtain ⟨l,as,rs,rfl,hS,hR,hok,hlen,q⟩:=h
 refine ⟨_,z8 (zG (i:=1) sc29.nd rfl (Or.inl rfl) z1D)
  (z8 (Zb PassesOwn.never rfl (z3h rfl G.enumerate (z6 (pv 0) z7)) (jc rfl (zr (zu (i:=2) sc29.nd rfl (Or.inl rfl)) (zr (zu (i:=3) sc29.nd rfl (Or.inl rfl)) qx)))
   (zd (zJ (PW.pt (Qa (qZ (zo FR hr rfl (z6 (pv 3) z7))) (jM (zm qJ (qc qE (pv 3) zg (fun _ _=>rfl)) zk (zq _)))))
    (zd (zj (z3i (pv 1) (qc qE (pv 3) zg (fun _ _=>rfl)) (pv 2) ⟨rfl,rfl,rfl,rfl⟩))) zw)))
  (zd (zl (pv 1)))),?_⟩
 try dsimp only [L2.cxOf,L2.Cx.nox]
 intro d hd
 have hll:as.length=rs.length:=hR.len
 have hml:(as.map V.ref).length=rs.length:=by rw [km];exact hll
 refine ⟨_,rfl,l,rfl,⟨_,(zh hd _).seq hS⟩,z1S (K:=K) (a:=l) (xs:=as.map V.ref) (fun i σ H2=>∃kvs v2 v3,σ=[some (.ref l),some (.ref d),v2,v3]∧Same H H2∧H2 d=some (.dK kvs)∧kvs.length≤i∧Q6 kvs (rs.take i))
  ⟨[],none,none,rfl,zh hd _,zb,kh _,fun m=>by rw [List.take_zero];rfl⟩ (fun i σ H2 _ zz=>by obtain ⟨_,_,_,_,s2,_⟩:=zz;exact s2.seq hS) ?_ ?_⟩
 ·rintro i x σ H2 p hi ⟨kvs,v2,v3,rfl,s2,hD,hk,hL⟩ hp
  obtain ⟨a,r,rfl,hr1,ha⟩:=(hR.same s2).get hi
  have hil:i < rs.length:=(ki.mp hr1).1
  have npd:d≠p:=ze hD hp
  have nap:a≠p:=ze ha hp
  have ha':(upd H2 p (.tup [.int i,.ref a])) a=some (.tup (tupV r)):=by rw [zf nap];exact ha
  have s3:Same H (upd H2 p (.tup [.int i,.ref a])):=fun b o e=>by rw [zf (ze (s2 b o e) hp)];exact s2 b o e
  obtain ⟨so,hs,hfit,hl0,hl1,hop,hsc⟩:=(hok r (kK hr1)).parts
  have hrow:rowV r.op r.arg (.int r.line)=true:=hok r (kK hr1)
  refine ⟨p,_,rfl,SqT.of zb,rfl,_,_,rfl,_,_,rfl,rfl,?_⟩
  refine ⟨_,rfl,.inr ⟨a,r.op,r.arg,.int r.line,rfl,ha',hop,hsc,.int _,_,rfl,?_⟩⟩
  rw [hrow]
  refine iteT ⟨_,rfl,a,_,_,_,rfl,rfl,SqT.of ha',zt (j:=0) rfl,rfl,_,rfl,?_⟩
  have hD':(upd H2 p (.tup [.int i,.ref a])) d=some (.dK kvs):=by rw [zf npd];exact hD
  refine ite2 (fun c=>?_) (fun c=>?_)
  ·have eop:r.op="label":=by
    have:=kG c
    injection this
   have esort:so="mark":=by
    rw [eop] at hs
    have:zX "label"=some "mark":=by trivial
    rw [this] at hs
    exact (kF hs).symm
   rw [esort] at hfit
   obtain ⟨m,em,_,_⟩:=ZH hfit
   refine ⟨_,rfl,d,rfl,.inl ⟨kvs,.inl hD'⟩,_,rfl,a,_,_,_,rfl,rfl,SqT.of ha',zt (j:=1) rfl,_,rfl,kvs,Sum.inl m,hD',em,qG (by lia),?_⟩
   have eP:labP m r=true:=by unfold labP;rw [eop,em];simp
   cases hv:valV kvs (Sum.inl m:Key) with
   | some v=>
    refine ⟨kvs,_,_,rfl,s3,hD',by lia,fun m'=>?_⟩
    rw [JH hr1 m',hL m']
    by_cases e:m'=m
    ·subst e
     have:=hL m'
     rw [hv] at this
     cases h1:zE (rs.take i) m' with
     | none=>rw [h1] at this;cases this
     | some j=>rfl
    ·have:labP m' r=false:=by
      unfold labP
      rw [em]
      have:¬(V.int m=V.int m'):=fun z=>e (by injection z with z;exact z.symm)
      simp [this]
     rw [this]
     simp
   | none=>
    refine ⟨putK kvs (Sum.inl m) (.int i),_,_,rfl,fun b o e=>?_,zb,?_,fun m'=>?_⟩
    ·rw [zf (ze e hd)]
     exact s3 b o e
    ·have:=qQ kvs (Sum.inl m:Key) (V.int i)
     lia
    ·rw [Qs,JH hr1 m']
     by_cases e:m'=m
     ·subst e
      have:=hL m'
      rw [hv] at this
      rw [kE rfl,eP,kE rfl]
      cases h1:zE (rs.take i) m' with
      | none=>rfl
      | some j=>rw [h1] at this;cases this
     ·have:labP m' r=false:=by
       unfold labP
       rw [em]
       have:¬(V.int m=V.int m'):=fun z=>e (by injection z with z;exact z.symm)
       simp [this]
      rw [this,kD (fun z=>e (by injection z)),hL m']
      simp
  ·refine ⟨kvs,_,_,rfl,s3,hD',by lia,fun m'=>?_⟩
   rw [JH hr1 m',hL m']
   have:labP m' r=false:=by
    unfold labP
    have:¬(r.op="label"):=fun z=>c (by rw [z];rfl)
    simp [this]
   rw [this]
   simp
 ·rintro σ H2 ⟨kvs,v2,v3,rfl,s2,hD,hk,hL⟩
  refine ⟨_,rfl,q d kvs H2 hd s2 hD ?_⟩
  rw [hml,List.take_length] at hL
  exact hL
end
section
def z5P:Sp:=fun vs H Q _=>∃a i d r kvs rs,vs=[.ref a,.int (i:Nat),.ref d]∧H a=some (.tup (tupV r))∧jG r∧H d=some (.dK kvs)∧Q6 kvs rs∧(∀m:Int,r.op="label"→r.arg=.int m→(zE rs m).isSome=true)∧Q (.bl (jo rs i r)) H
theorem sc30:zi ["row","place","labels","op","mark"] ["row","place","labels"] (zc (top 30)):=fsM
theorem Z4:zX "label"=some "mark":=by trivial
theorem z0v (D:zn K mg "mark_fits" (top 30)) (FS:FN P w K mg base 1 "arg_sort" ["op"] z2V):FN P w K mg base 2 "mark_fits" ["row","place","labels"] z5P:=by
 refine FN.o D sc30 fun f cdv A outer s H vs Q E hr h=>?_
 obtain ⟨a,i,d,r,kvs,rs,rfl,ha,hok,hd,hL,hlab,q⟩:=h
 have hu:=Qo hr
 obtain ⟨so,hs,hfit,hl0,hl1,hop,hsc⟩:=hok.parts
 refine ⟨_,z8 (Qb (i:=3) (j:=4) rfl sc30.nd rfl rfl (by decide) rfl rfl (z6 (qc qE (pv 0) zg (fun _ _=>rfl)) (z6 (qc qE (pv 0) zg (fun _ _=>rfl)) z7)) rfl)
  (z8 (zJ (zm qJ (pv 3) zk (zq _)) (zd (zl (qI qJ (ZY hu (pv 2) (pv 4) (fun _ _=>rfl)) (pv 1) (zq _)))) zw)
  (zd (zl (z8m (qI z0d (zo FS hr rfl (z6 (pv 3) z7)) zk (zq _)) (jB (z1F (z3l hu (pv 4) (pv 2)))))))),?_⟩
 try dsimp only [L2.cxOf,L2.Cx.nox]
 refine ⟨_,rfl,a,_,_,_,rfl,rfl,SqT.of ha,zt (j:=0) rfl,_,rfl,a,_,_,_,rfl,rfl,SqT.of ha,zt (j:=1) rfl,_,_,rfl,?_⟩
 refine ⟨_,rfl,rfl,_,rfl,?_⟩
 refine ite2 (fun c=>?_) (fun c=>?_)
 ·have eop:r.op="label":=by
   have:=kG c
   injection this
  have esort:so="mark":=by
   rw [eop,Z4] at hs
   exact (kF hs).symm
  rw [esort] at hfit
  obtain ⟨m,em,_,_⟩:=ZH hfit
  obtain ⟨j,hj⟩:=Option.isSome_iff_exists.mp (hlab m eop em)
  have hv:valV kvs (Sum.inl m:Key)=some (.int (j:Int)):=by rw [hL m,hj];rfl
  have hg:DGet H d r.arg (some (.int (j:Int))):=by rw [em,←hv];exact DGet.k (k:=Sum.inl m) hd
  refine ⟨_,rfl,_,rfl,d,_,rfl,hg,_,rfl,rfl,?_⟩
  have e:jo rs i r=decide (V.int (j:Int)=V.int (i:Int)):=by
   unfold jo
   rw [kE eop,em]
   show decide (zE rs m=some i)=_
   rw [hj]
   by_cases z:j=i
   ·subst z;simp
   ·rw [kj (fun y=>z (by injection y)),kj (fun y=>z (by injection y with y;lia))]
  rw [e] at q
  exact q
 ·have eop:¬r.op="label":=fun z=>c (by rw [z];rfl)
  refine ⟨_,rfl,r.op,so,rfl,hs,rfl,_,rfl,?_⟩
  unfold jo at q
  rw [kD eop,hs] at q
  by_cases e:so="mark"
  ·subst e
   rw [kE rfl] at q
   obtain ⟨m,em,_,_⟩:=ZH hfit
   have e1:(!decide (V.str "mark"=V.str "mark"))=false:=by trivial
   rw [e1]
   refine iteF ⟨_,rfl,_,rfl,d,Option.map (fun i:Nat=>V.int (i:Int)) (zE rs m),rfl,?_,?_⟩
   ·have:DGet H d r.arg (Option.map (fun i:Nat=>V.int (i:Int)) (zE rs m)):=by
     rw [em,←hL m]
     exact DGet.k (k:=Sum.inl m) hd
    exact this
   ·rw [em] at q
    rw [Option.isSome_map]
    exact q
  ·rw [kD (fun z=>e (kF z))] at q
   have e1:(!decide (V.str so=V.str "mark"))=true:=by
    rw [kj (fun z=>e (by injection z))]
    rfl
   rw [e1]
   exact iteT q
def z81 (K:kC):Sp:=fun vs H Q _=>∃l as rs,vs=[.ref l]∧SqL K H l (as.map V.ref)∧zV H as rs∧(∀r∈rs,jG r)∧rs.length≤1000∧
 (∀H',Same H H'→(∀i r,rs[i]?=some r→jo rs i r=true)→Q .non H')∧
 (∀(i:Nat) r H',Same H H'→rs[i]?=some r→jo rs i r=false→(∀j r',j < i→rs[j]?=some r'→jo rs j r'=true)→Q (.int i) H')
theorem sc31:zi ["rows","labels","place","row"] ["rows"] (zc (top 31)):=fsM
theorem z1l {rs:List Row} {i:Nat} {r:Row} {m:Int} (h:rs[i]?=some r) (h1:r.op="label") (h2:r.arg=.int m):(zE rs m).isSome=true:=by
 unfold zE
 rw [List.findIdx?_isSome,List.any_eq_true]
 exact ⟨r,kK h,by unfold labP;rw [h1,h2];simp⟩
theorem z8U (D:zn K mg "first_bad_place" (top 31)) (G:Glo mg) (FR:FN P w K mg base 6 "is_row" ["thing"] z6q) (FL:FN P w K mg base 7 "label_places" ["rows"] (z1w K)) (FM:FN P w K mg base 2 "mark_fits" ["row","place","labels"] z5P):
  FN P w K mg base 8 "first_bad_place" ["rows"] (z81 K):=by
 refine FN.o D sc31 fun f cdv A outer s H vs Q E hr h=>?_
 obtain ⟨l,as,rs,rfl,hS,hR,hok,hlen,q1,q2⟩:=h
 refine ⟨_,z8 (zG (i:=1) sc31.nd rfl (Or.inl rfl) (zo FL hr rfl (z6 (pv 0) z7)))
  (z8 (Zb PassesOwn.never rfl (z3h rfl G.enumerate (z6 (pv 0) z7)) (jc rfl (zr (zu (i:=2) sc31.nd rfl (Or.inl rfl)) (zr (zu (i:=3) sc31.nd rfl (Or.inl rfl)) qx)))
   (zd (zJ (PW.pt (Jv (Za (qZ (zo FR (hr.mono (by decide)) rfl (z6 (pv 3) z7)))) (ZC (Za (qZ (zo FM (hr.mono (by decide)) rfl (z6 (pv 3) (z6 (pv 2) (z6 (pv 1) z7)))))))))
    (zd (zl (pv 2))) zw)))
  (zd (zl qm))),?_⟩
 try dsimp only [L2.cxOf,L2.Cx.nox]
 refine ⟨_,rfl,l,as,rs,rfl,hS,hR,hok,hlen,fun d kvs H1 hd0 s1 hD hL=>?_⟩
 have hll:as.length=rs.length:=hR.len
 have hml:(as.map V.ref).length=rs.length:=by rw [km];exact hll
 refine ⟨_,rfl,l,rfl,⟨_,s1.seq hS⟩,z1S (K:=K) (a:=l) (xs:=as.map V.ref) (fun i σ H2=>∃v2 v3,σ=[some (.ref l),some (.ref d),v2,v3]∧Same H1 H2∧∀j r',j < i→rs[j]?=some r'→jo rs j r'=true)
  ⟨none,none,rfl,Same.refl _,fun j _ hj=>absurd hj (Nat.not_lt_zero _)⟩ (fun i σ H2 _ zz=>by obtain ⟨_,_,_,s2,_⟩:=zz;exact s2.seq (s1.seq hS)) ?_ ?_⟩
 ·rintro i x σ H2 p hi ⟨v2,v3,rfl,s2,hall⟩ hp
  obtain ⟨a,r,rfl,hr1,ha⟩:=((hR.same s1).same s2).get hi
  have hD2:=s2 _ _ hD
  have npd:d≠p:=ze hD2 hp
  have nap:a≠p:=ze ha hp
  have ha':(upd H2 p (.tup [.int i,.ref a])) a=some (.tup (tupV r)):=by rw [zf nap];exact ha
  have hD':(upd H2 p (.tup [.int i,.ref a])) d=some (.dK kvs):=by rw [zf npd];exact hD2
  have s3:Same H1 (upd H2 p (.tup [.int i,.ref a])):=fun b o e=>by rw [zf (ze (s2 b o e) hp)];exact s2 b o e
  have hro:=hok r (kK hr1)
  obtain ⟨so,hs,hfit,hl0,hl1,hop,hsc⟩:=hro.parts
  refine ⟨p,_,rfl,SqT.of zb,rfl,_,_,rfl,_,_,rfl,rfl,?_⟩
  refine ⟨_,rfl,.inr ⟨a,r.op,r.arg,.int r.line,rfl,ha',hop,hsc,.int _,_,rfl,?_⟩⟩
  have hrow:rowV r.op r.arg (.int r.line)=true:=hro
  rw [hrow]
  refine iteF ⟨_,rfl,_,rfl,_,rfl,a,i,d,r,kvs,rs,rfl,ha',hro,hD',hL,(fun m h1 h2=>z1l hr1 h1 h2),_,rfl,?_⟩
  cases hb:jo rs i r with
  | true=>
   refine iteF ⟨_,_,rfl,s3,fun j r' hj hr'=>?_⟩
   by_cases e:j=i
   ·subst e
    rw [hr1] at hr'
    cases hr'
    exact hb
   ·exact hall j r' (by lia) hr'
  | false=>exact iteT ⟨_,rfl,q2 i r _ (s1.trans s3) hr1 hb hall⟩
 ·rintro σ H2 ⟨v2,v3,rfl,s2,hall⟩
  refine q1 H2 (s1.trans s2) fun i r hir=>hall i r ?_ hir
  rw [hml]
  exact (ki.mp hir).1
def z80:Sp:=fun vs H Q _=>∃l xs,vs=[.ref l]∧H l=some (.lst xs)∧1≤xs.length∧xs.length≤150∧Q (.bl true) H
theorem sc32:zi ["thing"] ["thing"] (zc (top 32)):=fsM
theorem z8T (D:zn K mg "has_places" (top 32)) (G:Glo mg):FN P w K mg base 1 "has_places" ["thing"] z80:=by
 refine FN.o D sc32 fun f cdv A outer s H vs Q E hr h=>?_
 obtain ⟨l,xs,rfl,hl,h1,h2,q⟩:=h
 refine ⟨_,zd (zl (jm (zy ql rfl G.isinstance zI (z6 (pv 0) (z6 (J3 "list" rfl G.list qW) z7)))
  (jB (Jz z2f z2f zg (zy zL rfl G.len qv (z6 (pv 0) z7)) (ji rfl G.rows))))),?_⟩
 try dsimp only [L2.cxOf,L2.Cx.nox]
 refine ⟨_,rfl,_,"list",_,true,rfl,.lst hl,rfl,_,rfl,iteT ?_⟩
 refine ⟨_,rfl,l,_,rfl,.inl (SqL.of hl),_,_,rfl,rfl,_,rfl,?_⟩
 have e1:decide ((1:Int)≤(xs.length:Int))=true:=kl (by lia)
 have e2:decide ((xs.length:Int)≤150)=true:=kl (by lia)
 rw [e1]
 refine iteT ⟨_,_,rfl,rfl,?_⟩
 show Q (.bl (decide ((xs.length:Int)≤150))) H
 rw [e2]
 exact q
structure Code (rs:List Row):Prop where
 ok:∀r∈rs,jG r
 fit:∀i r,rs[i]?=some r→jo rs i r=true
 lo:1≤rs.length
 hi:rs.length≤150
def z32:Sp:=fun vs H Q _=>∃l as rs,vs=[.ref l]∧H l=some (.lst (as.map V.ref))∧zV H as rs∧Code rs∧∀H',Same H H'→Q .non H'
theorem sc33:zi ["thing","place"] ["thing"] (zc (top 33)):=fsM
theorem z5p (D:zn K mg "check_code" (top 33)) (FH:FN P w K mg base 1 "has_places" ["thing"] z80) (FB:FN P w K mg base 8 "first_bad_place" ["rows"] (z81 K)):FN P w K mg base 9 "check_code" ["thing"] z32:=by
 refine FN.o D sc33 fun f cdv A outer s H vs Q E hr h=>?_
 obtain ⟨l,as,rs,rfl,hl,hR,hC,q⟩:=h
 refine ⟨_,z8 (zJ (Za (qZ (zo FH (hr.mono (by decide)) rfl (z6 (pv 0) z7)))) qL zw)
  (z8 (zG (i:=1) sc33.nd rfl (Or.inl rfl) (zo FB hr rfl (z6 (pv 0) z7)))
  (zd (zJ (zm JB (pv 1) qm (zq _)) qL zw))),?_⟩
 try dsimp only [L2.cxOf,L2.Cx.nox]
 have hll:as.length=rs.length:=hR.len
 refine ⟨_,rfl,l,_,rfl,hl,by rw [km,hll];exact hC.lo,by rw [km,hll];exact hC.hi,_,rfl,iteF ?_⟩
 refine ⟨_,rfl,l,as,rs,rfl,SqL.of hl,hR,hC.ok,kz hC.hi (by decide),fun H' s' _=>?_,fun i r H' s' hi hf _=>?_⟩
 ·exact ⟨_,rfl,rfl,_,rfl,iteF (q H' s')⟩
 ·rw [hC.fit i r hi] at hf
  cases hf
end
noncomputable def zD:List (Str × Int):=[("store",1),("drop",1),("add",2),("sub",2),("mul",2),("div",2),("rest",2),("less",2),("same",2),("neg",1),("not",1),("tell",1),("iftrue",1),("iffalse",1),("ortrue",1),("orfalse",1),("return",1),("raise",1)]
noncomputable def zH:List (Str × Int):=[("push",1),("load",1),("quick",1),("copy",1),("add",1),("sub",1),("mul",1),("div",1),("rest",1),("less",1),("same",1),("neg",1),("not",1)]
noncomputable def zP:List (Str × Int):=[("try",1),("endtry",-1)]
noncomputable def jumping:List Str:=["jump","iftrue","iffalse","ortrue","orfalse"]
noncomputable def leaving:List Str:=["ortrue","orfalse"]
noncomputable def qi:List Str:=["jump","return","raise"]
noncomputable def faulting:List Str:=["load","clear","add","sub","mul","div","rest","less","neg","raise"]
noncomputable def z0r (t:List (Str × Int)):List (Str × V):=t.map fun p=>(p.1,V.int p.2)
noncomputable def tabI (t:List (Str × Int)) (x:Str):Int:=(t.lookup x).getD 0
theorem ZJ (t:List (Str × Int)) (x:Str):((z0r t).lookup x).getD (.int 0)=.int (tabI t x):=by
 unfold z0r tabI
 rw [Q2]
 cases t.lookup x <;> rfl
def KTup (K:kC) (a:Addr) (xs:List V):Prop:=
 ∃(o:Obj) (its:Array Value) (n:Nat),K.lookup a=some o∧o.cls=.type "tuple"∧o.data=.seq its n∧its.size≤sizeLine∧Vals xs its.toList
theorem KTup.sq {K:kC} {a:Addr} {xs:List V} (h:KTup K a xs) (H:Hp):SqT K H a xs:=.inr h
structure z5G (w:World) (K:kC) (mg:Str→Option Value):Prop where
 takes:∃d,mg "TAKES"=some (.ref d)∧KTab w.params K d (z0r zD)
 pushes:∃d,mg "PUSHES"=some (.ref d)∧KTab w.params K d (z0r zH)
 gput:∃d,mg "GUARDS_PUT"=some (.ref d)∧KTab w.params K d (z0r zP)
 jumping:∃a,mg "JUMPING"=some (.ref a)∧KTup K a (jumping.map V.str)
 leaving:∃a,mg "LEAVING"=some (.ref a)∧KTup K a (leaving.map V.str)
 never:∃a,mg "NEVER_ON"=some (.ref a)∧KTup K a (qi.map V.str)
 faulting:∃a,mg "FAULTING"=some (.ref a)∧KTup K a (faulting.map V.str)
 first:∃a g,mg "FIRST_STATE"=some (.ref a)∧KTup K a [.int 0,.ref g]∧KTup K g []
noncomputable def inT (x:Str) (l:List Str):Bool:=inV (.str x) (l.map V.str)
theorem Zo {x:Str} {l:List Str}:inT x l=true↔x∈l:=by
 unfold inT inV
 rw [List.any_map,List.any_eq_true]
 constructor
 ·rintro ⟨y,hy,e⟩
  have e:(y == x)=true:=e
  rw [beq_iff_eq] at e
  exact e▸hy
 ·exact fun h=>⟨x,h,by show (x == x)=true;simp⟩
theorem jV (l:List Str):(l.map V.str).all jW=true:=by
 rw [List.all_map,List.all_eq_true]
 exact fun _ _=>rfl
noncomputable def qy:List Str:=["copy","swap"]
noncomputable def zQ (r:Row):Int:=if inT r.op qy=true then (match r.arg with | .int n=>n | _=>0) else tabI zD r.op
abbrev Gd:=Int × Int
def jZ (H:Hp) (x:V):Option Gd→Prop
 | none=>x=.non
 | some g=>∃a,x=.ref a∧H a=some (.tup [.int g.1,.int g.2])
theorem jZ.same {H H':Hp} {x:V} {og:Option Gd} (h:jZ H x og) (s:Same H H'):jZ H' x og:=by
 cases og with
 | none=>exact h
 | some g=>
  obtain ⟨a,e,h⟩:=h
  exact ⟨a,e,s _ _ h⟩
noncomputable def Zn (r:Row) (og:Option Gd):Bool:=decide (r.op="endtry")&&og.isNone
noncomputable def qw (r:Row) (d:Int) (og:Option Gd):Bool:=match og with
 | none=>false
 | some g=>if r.op="copy" then false else decide ((if d - zQ r > 0 then d - zQ r else 0) < (if g.2 < d then g.2 else d))
theorem Z5 {r:Row} (hok:jG r) (h:inT r.op qy=true):∃n:Int,r.arg=.int n∧1≤n∧n≤9:=by
 obtain ⟨s,hs,hfit,_⟩:=hok.parts
 rw [Zo] at h
 rcases kH.mp h with h | h
 ·rw [h,show zX "copy"=some "copied" by trivial] at hs
  cases hs
  have e:qU "copied" r.arg=JU r.arg:=by
   unfold qU
   rw [kD (by trivial),kD (by trivial),kE rfl]
  rw [e] at hfit
  exact qC hfit
 ·rw [ku.mp h,show zX "swap"=some "swapped" by trivial] at hs
  cases hs
  have e:qU "swapped" r.arg=Qu r.arg:=by
   unfold qU
   rw [kD (by trivial),kD (by trivial),kD (by trivial),kE rfl]
  rw [e] at hfit
  obtain ⟨n,h1,h2,h3⟩:=qC hfit
  exact ⟨n,h1,by lia,h3⟩
theorem jL {K:kC} {H H':Hp} {a:Addr} {xs:List V} (s:Same H H') (h:SqT K H a xs):SqT K H' a xs:=by
 rcases h with (h | ⟨o,h⟩) | h
 ·exact .inl (.inl (s _ _ h))
 ·exact .inl (.inr ⟨o,s _ _ h⟩)
 ·exact .inr h
section
def spUp (K:kC):Sp:=fun vs H Q _=>∃(g:Addr) (as:List Addr),vs=[.ref g]∧SqT K H g (as.map V.ref)∧((as=[]∧Q .non H)∨∃bs a,as=bs++[a]∧Q (.ref a) H)
theorem sc43:zi ["guards"] ["guards"] (zc (top 43)):=fsM
theorem z9P (D:zn K mg "uppermost" (top 43)):FN P w K mg base 1 "uppermost" ["guards"] (spUp K):=by
 refine FN.o D sc43 fun f cdv A outer s H vs Q E hr h=>?_
 obtain ⟨g,as,rfl,hS,q⟩:=h
 refine ⟨_,zd (zl (jh (Qw (pv 0) (fun _=>rfl)) (qc qE (pv 0) (Z7 qY zg) (fun _ _=>rfl)) qm)),?_⟩
 try dsimp only [L2.cxOf,L2.Cx.nox]
 rcases q with ⟨rfl,q⟩ | ⟨bs,a,rfl,q⟩
 ·exact ⟨_,rfl,false,.inr (.inl ⟨_,hS,rfl⟩),iteF q⟩
 ·refine ⟨_,rfl,true,.inr (.inl ⟨_,hS,by simp⟩),iteT ⟨_,rfl,1,rfl,g,_,_,.ref a,rfl,rfl,hS,?_,q⟩⟩
  rw [kN]
  exact QC _ _
def z12:Sp:=fun vs H Q _=>∃a r,vs=[.ref a]∧H a=some (.tup (tupV r))∧jG r∧∀H',Same H H'→Q (.int (zQ r)) H'
theorem sc44:zi ["row","op","arg"] ["row"] (zc (top 44)):=fsM
theorem z5q (D:zn K mg "depth_asked" (top 44)) (T:z5G w K mg):FN P w K mg base 1 "depth_asked" ["row"] z12:=by
 refine FN.o D sc44 fun f cdv A outer s H vs Q E hr h=>?_
 obtain ⟨a,r,rfl,ha,hok,q⟩:=h
 obtain ⟨d,md,td⟩:=T.takes
 refine ⟨_,z8 (Qb (i:=1) (j:=2) rfl sc44.nd rfl rfl (by decide) rfl rfl (z6 (qc qE (pv 0) zg (fun _ _=>rfl)) (z6 (qc qE (pv 0) zg (fun _ _=>rfl)) z7)) rfl)
  (zd (zl (jh (zm jd (pv 1) (zZ (z6 zk (z6 zk z7))) rfl) (pv 2) (Qx td rfl md (pv 1) zg ⟨rfl,rfl,rfl,rfl⟩)))),?_⟩
 try dsimp only [L2.cxOf,L2.Cx.nox]
 refine ⟨_,rfl,a,_,_,_,rfl,rfl,SqT.of ha,zt (j:=0) rfl,_,rfl,a,_,_,_,rfl,rfl,SqT.of ha,zt (j:=1) rfl,_,_,rfl,?_⟩
 refine ⟨_,rfl,by show 2≤sizeLine;decide,fun p hp=>?_⟩
 have s1:=zh hp (.tup (qy.map V.str))
 refine ⟨p,_,rfl,.inr (SqT.of (xs:=qy.map V.str) zb),rfl,jV _,_,rfl,?_⟩
 have q:=q _ s1
 unfold zQ at q
 refine ite2 (fun c=>?_) (fun c=>?_)
 ·have c':inT r.op qy=true:=c
  obtain ⟨n,en,_⟩:=Z5 hok c'
  rw [kE c',en] at q
  refine ⟨r.arg,rfl,?_⟩
  rw [en]
  exact q
 ·have c':¬inT r.op qy=true:=c
  rw [kD c'] at q
  refine ⟨_,rfl,r.op,rfl,?_⟩
  rw [ZJ]
  exact q
def z0Z:Sp:=fun vs H Q _=>∃a r d,vs=[.ref a,.int d]∧H a=some (.tup (tupV r))∧jG r∧∀H',Same H H'→Q (.bl (decide (d < zQ r))) H'
theorem sc45:zi ["row","depth"] ["row","depth"] (zc (top 45)):=fsM
theorem z5i (D:zn K mg "lacks_values" (top 45)) (F1:FN P w K mg base 1 "depth_asked" ["row"] z12):FN P w K mg base 2 "lacks_values" ["row","depth"] z0Z:=by
 refine FN.o D sc45 fun f cdv A outer s H vs Q E hr h=>?_
 obtain ⟨a,r,d,rfl,ha,hok,q⟩:=h
 refine ⟨_,zd (zl (qI J4 (pv 1) (zo F1 hr rfl (z6 (pv 0) z7)) (zq _))),?_⟩
 try dsimp only [L2.cxOf,L2.Cx.nox]
 exact ⟨_,rfl,_,rfl,a,r,rfl,ha,hok,fun H' s'=>⟨_,_,rfl,rfl,q H' s'⟩⟩
def z10:Sp:=fun vs H Q _=>∃a r gv og,vs=[.ref a,gv]∧H a=some (.tup (tupV r))∧jZ H gv og∧Q (.bl (Zn r og)) H
theorem sc46:zi ["row","guard"] ["row","guard"] (zc (top 46)):=fsM
theorem z3E {H:Hp} {x:V} {og:Option Gd} (h:jZ H x og):decide (x=.non)=og.isNone:=by
 cases og with
 | none=>rw [show x=.non from h];rfl
 | some g=>obtain ⟨a,e,_⟩:=h;rw [e];rfl
theorem z5j (D:zn K mg "lacks_guard" (top 46)):FN P w K mg base 1 "lacks_guard" ["row","guard"] z10:=by
 refine FN.o D sc46 fun f cdv A outer s H vs Q E hr h=>?_
 obtain ⟨a,r,gv,og,rfl,ha,hg,q⟩:=h
 refine ⟨_,zd (zl (jm (qI qJ (qc qE (pv 0) zg (fun _ _=>rfl)) zk (zq _)) (jB (qI Qd (pv 1) qm (zq _))))),?_⟩
 try dsimp only [L2.cxOf,L2.Cx.nox]
 refine ⟨_,rfl,a,_,_,_,rfl,rfl,SqT.of ha,zt (j:=0) rfl,rfl,_,rfl,?_⟩
 unfold Zn at q
 rw [←z3E hg] at q
 refine ite2 (fun c=>?_) (fun c=>?_)
 ·have e:r.op="endtry":=by have:=kG c;injection this
  rw [kl e,Bool.true_and] at q
  exact ⟨_,rfl,rfl,q⟩
 ·have e:¬r.op="endtry":=fun z=>c (by rw [z];rfl)
  rw [kj e,Bool.false_and] at q
  exact q
def z05:Sp:=fun vs H Q _=>∃a r d gv og,vs=[.ref a,.int d,gv]∧H a=some (.tup (tupV r))∧jG r∧jZ H gv og∧∀H',Same H H'→Q (.bl (qw r d og)) H'
theorem sc47:zi ["row","depth","guard","lowest"] ["row","depth","guard"] (zc (top 47)):=fsM
theorem z5z:bootBuiltins "max"=some (.builtin "max"):=by trivial
theorem z1Z:bootBuiltins "min"=some (.builtin "min"):=by trivial
theorem z2z (D:zn K mg "takes_beneath" (top 47)) (G:Glo mg) (F1:FN P w K mg base 1 "depth_asked" ["row"] z12):FN P w K mg base 2 "takes_beneath" ["row","depth","guard"] z05:=by
 refine FN.o D sc47 fun f cdv A outer s H vs Q E hr h=>?_
 obtain ⟨a,r,d,gv,og,rfl,ha,hok,hg,q⟩:=h
 refine ⟨_,z8 (zJ (PW.pt (Jv (zm Qd (pv 2) qm (zq _)) (ZC (zm qJ (qc qE (pv 0) zg (fun _ _=>rfl)) zk (zq _))))) (zd (zl ZZ)) zw)
  (z8 (zG (i:=3) sc47.nd rfl (Or.inl rfl) (zy (z4b rfl) rfl G.max z5z (z6 zg (z6 (zO j4 (pv 1) (zo F1 hr rfl (z6 (pv 0) z7))) z7))))
  (zd (zl (qI J4 (pv 3) (zy (z0G rfl) rfl G.min z1Z (z6 (pv 1) (z6 (qc qE (pv 2) zg (fun _ _=>rfl)) z7))) (zq _))))),?_⟩
 try dsimp only [L2.cxOf,L2.Cx.nox]
 refine ⟨_,rfl,rfl,_,rfl,?_⟩
 cases og with
 | none=>
  have e:gv=.non:=hg
  subst e
  exact iteT (iteT (q H (Same.refl _)))
 | some g=>
  obtain ⟨ga,rfl,hga⟩:=hg
  refine iteF ⟨_,rfl,a,_,_,_,rfl,rfl,SqT.of ha,zt (j:=0) rfl,rfl,_,rfl,?_⟩
  unfold qw at q
  refine ite2 (fun c=>?_) (fun c=>?_)
  ·have e:r.op="copy":=by have:=kG c;injection this
   simp only [kE e] at q
   exact q H (Same.refl _)
  ·have e:¬r.op="copy":=fun z=>c (by rw [z];rfl)
   simp only [kD e] at q
   refine ⟨_,rfl,_,rfl,a,r,rfl,ha,hok,fun H' s'=>⟨_,_,rfl,rfl,_,_,rfl,?_⟩⟩
   exact ⟨_,rfl,_,rfl,_,rfl,ga,_,_,_,rfl,rfl,SqT.of (s' _ _ hga),zt (j:=1) rfl,_,_,rfl,_,_,rfl,rfl,q H' s'⟩
end
theorem PS.imp {X:Cx} {st:Stmt} {t t':TS} (h:PS X st t) (hi:∀D σ H,t' D σ H→t D σ H):PS X st t':=fun pins s σ H D I q=>h pins s σ H D I (hi D σ H q)
abbrev Mv:=V × Int × Int
abbrev Zv (H:Hp):List Addr→List Mv→Prop:=Paired fun t m=>H t=some (.tup [m.1,.int m.2.1,.int m.2.2])
theorem Zv.same {H H':Hp} {ts:List Addr} {ms:List Mv} (h:Zv H ts ms) (k:∀a xs,H a=some (.tup xs)→H' a=some (.tup xs)):Zv H' ts ms:=Paired.mapP h fun _ _ e=>k _ _ e
theorem Zv.append {H:Hp} {as bs:List Addr} {rs ts:List Mv} (h:Zv H as rs) (k:Zv H bs ts):Zv H (as++bs) (rs++ts):=z1C h k
theorem Zv.get {H:Hp} {as:List Addr} {rs:List Mv} {i:Nat} {x:V} (h:Zv H as rs) (e:(as.map V.ref)[i]?=some x):∃a r,x=.ref a∧rs[i]?=some r∧H a=some (.tup [r.1,.int r.2.1,.int r.2.2]):=z3d h e
noncomputable def zB (r:Row) (d:Int):Int:=d - tabI zD r.op+tabI zH r.op
noncomputable def labV (rs:List Row) (m:Int):V:=match zE rs m with
 | some j=>.int (j:Nat)
 | none=>.non
noncomputable def argM (x:V):Int:=match x with
 | .int m=>m
 | _=>0
noncomputable def mv1 (r:Row) (place:Nat) (d:Int):List Mv:=if inT r.op qi=true then [] else [(.int ((place:Int)+1),zB r d,tabI zP r.op)]
noncomputable def mv2 (rs:List Row) (r:Row) (d:Int):List Mv:=if inT r.op jumping=true then [(labV rs (argM r.arg),if inT r.op leaving=true then d else zB r d,0)] else []
noncomputable def mv3 (rs:List Row) (r:Row) (og:Option Gd):List Mv:=if inT r.op faulting=true then (match og with | some g=>[(labV rs g.1,g.2+1,-1)] | none=>[]) else []
noncomputable def qP (rs:List Row) (place:Nat) (r:Row) (d:Int) (og:Option Gd):List Mv:=if decide (d < zQ r)=true then [] else if Zn r og=true then [] else mv1 r place d++mv2 rs r d++mv3 rs r og
theorem z1M {rs:List Row} {i:Nat} {r:Row} (hc:Code rs) (hr:rs[i]?=some r) (h:inT r.op jumping=true):∃(m:Int) (j:Nat),r.arg=.int m∧zE rs m=some j:=by
 have hok:=hc.ok r (kK hr)
 obtain ⟨s,hs,hfit,_⟩:=hok.parts
 have hm:zX r.op=some ("mark":Str)∧r.op≠"label":=by
  rw [Zo] at h
  have all:∀x∈jumping,zX x=some ("mark":Str)∧x≠"label":=by trivial
  exact all _ h
 rw [hm.1] at hs
 cases hs
 obtain ⟨m,em,_,_⟩:=ZH hfit
 have hf:=hc.fit i r hr
 unfold jo at hf
 rw [kD hm.2,kE hm.1,em] at hf
 obtain ⟨j,hj⟩:=Option.isSome_iff_exists.mp hf
 exact ⟨m,j,em,hj⟩
def sMv (σ0:Addr→L2.St) (Hin:Hp) (new:List Mv):TS:=fun D σ H=>∃(fa:Addr) (ts:List Addr) (ms:List Mv),σ=σ0 fa∧Hin fa=none∧Same Hin H∧H fa=some (.lst (ts.map V.ref))∧Zv H ts ms∧ts.length≤100∧
 ∀H' ts',Same Hin H'→H' fa=some (.lst (ts'.map V.ref))→Zv H' ts' (ms++new)→ts'.length≤ts.length+1→D.nx (σ0 fa) H'
theorem z3r {Hin H:Hp} {fa p:Addr} {ts:List Addr} {ms:List Mv} {m:Mv} (hn:Hin fa=none) (sm:Same Hin H) (hf:H fa=some (.lst (ts.map V.ref))) (hM:Zv H ts ms) (hp:H p=none):
  Same Hin (upd (upd H p (.tup [m.1,.int m.2.1,.int m.2.2])) fa (.lst (ts.map V.ref++[.ref p])))∧upd (upd H p (.tup [m.1,.int m.2.1,.int m.2.2])) fa (.lst (ts.map V.ref++[.ref p])) fa=some (.lst ((ts++[p]).map V.ref))∧
   Zv (upd (upd H p (.tup [m.1,.int m.2.1,.int m.2.2])) fa (.lst (ts.map V.ref++[.ref p]))) (ts++[p]) (ms++[m]):=by
 have npf:p≠fa:=(ze hf hp).symm
 have kt:∀a xs,(upd H p (.tup [m.1,.int m.2.1,.int m.2.2])) a=some (.tup xs)→(upd (upd H p (.tup [m.1,.int m.2.1,.int m.2.2])) fa (.lst (ts.map V.ref++[.ref p]))) a=some (.tup xs):=fun a xs e=>by
  rw [zf (fun z=>by rw [z,zf npf.symm,hf] at e;cases e)];exact e
 refine ⟨fun b o e=>?_,?_,Zv.append ((hM.same fun a xs e=>?_).same kt) (.cons ?_ .nil)⟩
 ·have e2:=sm b o e
  rw [zf (ze e hn),zf (ze e2 hp)]
  exact e2
 ·rw [zb,kN]
  rfl
 ·rw [zf (ze e hp)];exact e
 ·exact kt _ _ zb
section
structure z0O (K:kC) (H:Hp) (l d:Addr) (rs:List Row):Prop where
 rows:∃as,SqL K H l (as.map V.ref)∧zV H as rs
 code:Code rs
 labs:∃kvs,H d=some (.dK kvs)∧Q6 kvs rs
theorem zV.get' {H:Hp} {as:List Addr} {rs:List Row} {i:Nat} {r:Row} (h:zV H as rs) (e:rs[i]?=some r):∃a,(as.map V.ref)[i]?=some (.ref a)∧H a=some (.tup (tupV r)):=by
 have hi:i < rs.length:=(ki.mp e).1
 obtain ⟨a,r',h1,h2,h3⟩:=zV.get (i:=i) (x:=(as.map V.ref)[i]'(by rw [km,h.len];exact hi)) h (kO _)
 rw [e] at h2
 cases h2
 exact ⟨a,by rw [←h1];exact kO _,h3⟩
def z0Y (K:kC):Sp:=fun vs H Q _=>∃l d place dep gv og rs r,vs=[.ref l,.ref d,.int (place:Nat),.int dep,gv]∧z0O K H l d rs∧rs[place]?=some r∧jZ H gv og∧
 ∀f ts H',Same H H'→H f=none→H' f=some (.lst (ts.map V.ref))→Zv H' ts (qP rs place r dep og)→Q (.ref f) H'
theorem sc48:zi ["code","labels","place","depth","guard","row","op","arg","behind","found"] ["code","labels","place","depth","guard"] (zc (top 48)):=fsM
theorem z5f (D:zn K mg "moves" (top 48)) (T:z5G w K mg) (FV:FN P w K mg base 2 "lacks_values" ["row","depth"] z0Z) (FG:FN P w K mg base 1 "lacks_guard" ["row","guard"] z10):
  FN P w K mg base 3 "moves" ["code","labels","place","depth","guard"] (z0Y K):=by
 refine FN.o D sc48 fun f cdv A outer s H vs Q E hr h=>?_
 obtain ⟨l,d,place,dep,gv,og,rs,r,rfl,hC,hrp,hg,q⟩:=h
 have hu:=Qo hr
 obtain ⟨⟨as,hS,hR⟩,hc,kvs,hd,hL⟩:=id hC
 obtain ⟨ra,hra,har⟩:=hR.get' hrp
 have hro:=hc.ok r (kK hrp)
 obtain ⟨d1,md1,td1⟩:=T.takes
 obtain ⟨d2,md2,td2⟩:=T.pushes
 obtain ⟨d3,md3,td3⟩:=T.gput
 obtain ⟨a1,ma1,ta1⟩:=T.never
 obtain ⟨a2,ma2,ta2⟩:=T.jumping
 obtain ⟨a3,ma3,ta3⟩:=T.leaving
 obtain ⟨a4,ma4,ta4⟩:=T.faulting
 let σ0:Addr→L2.St:=fun fa=>[some (.ref l),some (.ref d),some (.int (place:Nat)),some (.int dep),some gv,some (.ref ra),some (.str r.op),some r.arg,some (.int (zB r dep)),some (.ref fa)]
 refine ⟨_,z8 (zG (i:=5) sc48.nd rfl (Or.inl rfl) (qc zT (pv 0) (pv 2) (fun _ _=>rfl)))
  (z8 (Qb (i:=6) (j:=7) rfl sc48.nd rfl rfl (by decide) rfl rfl (z6 (qc qE (pv 5) zg (fun _ _=>rfl)) (z6 (qc qE (pv 5) zg (fun _ _=>rfl)) z7)) rfl)
  (z8 (zJ (PW.pt (Jv (qZ (zo FV hr rfl (z6 (pv 5) (z6 (pv 3) z7)))) (ZC (qZ (zo FG (hr.mono (by decide)) rfl (z6 (pv 5) (z6 (pv 4) z7))))))) (zd (zl (qq z7))) zw)
  (z8 (zG (i:=8) sc48.nd rfl (Or.inl rfl) (zO je (zO j4 (pv 3) (Qx td1 rfl md1 (pv 6) zg ⟨rfl,rfl,rfl,rfl⟩)) (Qx td2 rfl md2 (pv 6) zg ⟨rfl,rfl,rfl,rfl⟩)))
  (z8 (zG (i:=9) sc48.nd rfl (Or.inl rfl) (qq z7))
  (z8 (PS.imp (t':=sMv σ0 H (mv1 r place dep)) (zJ (zm Qc (pv 6) (qb rfl ma1 (v:=.ref a1) rfl) rfl) (zd (zj (jj (pv 9)
    (z6 (zZ (z6 (zO je (pv 2) zg) (z6 (pv 8) (z6 (Qx td3 rfl md3 (pv 6) zg ⟨rfl,rfl,rfl,rfl⟩) z7)))) z7)))) zw) ?m1)
  (z8 (PS.imp (t':=sMv σ0 H (mv2 rs r dep)) (zJ (zm jd (pv 6) (qb rfl ma2 (v:=.ref a2) rfl) rfl) (zd (zj (jj (pv 9)
    (z6 (zZ (z6 (ZY hu (pv 1) (pv 7) (fun _ _=>rfl)) (z6 (jh (zm jd (pv 6) (qb rfl ma3 (v:=.ref a3) rfl) rfl) (pv 3) (pv 8)) (z6 zg z7)))) z7)))) zw) ?m2)
  (z8 (PS.imp (t':=sMv σ0 H (mv3 rs r og)) (zJ (PW.pt (Qa (zm jd (pv 6) (qb rfl ma4 (v:=.ref a4) rfl) rfl) (jM (zm JB (pv 4) qm (zq _))))) (zd (zj (jj (pv 9)
    (z6 (zZ (z6 (Qy hu (pv 1) (qc qE (pv 4) zg (fun _ _=>rfl)) ⟨rfl,rfl,rfl,rfl⟩) (z6 (zO je (qc qE (pv 4) zg (fun _ _=>rfl)) zg) (z6 (Z7 qY zg) z7)))) z7)))) zw) ?m3)
  (zd (zl (pv 9)))))))))),?_⟩
 try dsimp only [L2.cxOf,L2.Cx.nox]
 case m1=>
  rintro D σ H1 ⟨fa,ts,ms,rfl,hn,sm,hf,hM,hl,k⟩
  refine ⟨_,rfl,a1,_,rfl,.inr (ta1.sq _),rfl,jV _,_,rfl,?_⟩
  unfold mv1 at k
  refine ite2 (fun c=>?_) (fun c=>?_)
  ·have c':¬inT r.op qi=true:=by
    intro z
    have c:(!inT r.op qi)=true:=c
    rw [z] at c;cases c
   rw [kD c'] at k
   refine ⟨_,rfl,.inl ⟨rfl,_,SqL.of hf⟩,_,rfl,_,_,rfl,rfl,_,rfl,_,rfl,r.op,rfl,by show 3≤sizeLine;decide,fun p hp=>?_⟩
   rw [ZJ]
   obtain ⟨k1,k2,k3⟩:=z3r (m:=(.int ((place:Int)+1),zB r dep,tabI zP r.op)) hn sm hf hM hp
   exact ⟨fa,_,.ref p,rfl,rfl,by rw [zf (ze hf hp)];exact hf,qG (by rw [km];lia),k _ _ k1 k2 k3 (by simp)⟩
  ·have c':inT r.op qi=true:=by
    cases z:inT r.op qi with
    | true=>rfl
    | false=>exact absurd (show (!inT r.op qi)=true by rw [z];rfl) c
   rw [kE c'] at k
   exact k H1 ts sm hf (by rw [kZ];exact hM) (by lia)
 case m2=>
  rintro D σ H1 ⟨fa,ts,ms,rfl,hn,sm,hf,hM,hl,k⟩
  refine ⟨_,rfl,a2,_,rfl,.inr (ta2.sq _),rfl,jV _,_,rfl,?_⟩
  unfold mv2 at k
  refine ite2 (fun c=>?_) (fun c=>?_)
  ·have c':inT r.op jumping=true:=c
   rw [kE c'] at k
   obtain ⟨m,j,em,hj⟩:=z1M hc hrp c'
   have hv:valV kvs (Sum.inl m:Key)=some (.int (j:Int)):=by rw [hL m,hj];rfl
   have hgt:DGet H1 d r.arg (some (.int (j:Int))):=by rw [em,←hv];exact DGet.k (k:=Sum.inl m) (sm _ _ hd)
   refine ⟨_,rfl,.inl ⟨rfl,_,SqL.of hf⟩,_,rfl,_,rfl,d,_,rfl,hgt,_,rfl,a3,_,rfl,.inr (ta3.sq _),rfl,jV _,_,rfl,?_⟩
   have el:labV rs (argM r.arg)=.int (j:Nat):=by
    rw [em]
    show labV rs m=_
    unfold labV
    rw [hj]
   rw [el] at k
   have fin:∀x:Int,(if inT r.op leaving=true then dep else zB r dep)=x→∀p,H1 p=none→z13 (.ref fa) [.ref p] (upd H1 p (.tup [.int (j:Nat),.int x,.int 0])) (fun _ H2=>D.nx (σ0 fa) H2):=fun x ex p hp=>by
    rw [ex] at k
    obtain ⟨k1,k2,k3⟩:=z3r (m:=(.int (j:Nat),x,0)) hn sm hf hM hp
    exact ⟨fa,_,.ref p,rfl,rfl,by rw [zf (ze hf hp)];exact hf,qG (by rw [km];lia),k _ _ k1 k2 k3 (by simp)⟩
   refine ite2 (fun c2=>?_) (fun c2=>?_)
   ·have c2':inT r.op leaving=true:=c2
    exact ⟨_,rfl,by show 3≤sizeLine;decide,fin dep (kE c2')⟩
   ·have c2':¬inT r.op leaving=true:=c2
    exact ⟨_,rfl,by show 3≤sizeLine;decide,fin _ (kD c2')⟩
  ·have c':¬inT r.op jumping=true:=c
   rw [kD c'] at k
   exact k H1 ts sm hf (by rw [kZ];exact hM) (by lia)
 case m3=>
  rintro D σ H1 ⟨fa,ts,ms,rfl,hn,sm,hf,hM,hl,k⟩
  refine ⟨_,rfl,a4,_,rfl,.inr (ta4.sq _),rfl,jV _,_,rfl,?_⟩
  unfold mv3 at k
  refine ite2 (fun c=>?_) (fun c=>?_)
  ·have c':inT r.op faulting=true:=c
   rw [kE c'] at k
   have hg1:=hg.same sm
   refine ⟨_,rfl,rfl,_,rfl,?_⟩
   cases og with
   | none=>
    have e:gv=.non:=hg
    rw [e]
    exact iteF (k H1 ts sm hf (by rw [kZ];exact hM) (by lia))
   | some g=>
    obtain ⟨ga,eg,hga⟩:=hg1
    rw [kj (show ¬gv=.non by rw [eg];exact nofun)]
    have hgt:DGet H1 d (.int g.1) (valV kvs (Sum.inl g.1:Key)):=DGet.k (k:=Sum.inl g.1) (sm _ _ hd)
    have ev:(valV kvs (Sum.inl g.1:Key)).getD .non=labV rs g.1:=by
     rw [hL]
     unfold labV
     cases zE rs g.1 <;> rfl
    have eσ:(σ0 fa)[4]?=some (some (.ref ga)):=by rw [←eg];rfl
    refine iteT ⟨_,rfl,.inl ⟨rfl,_,SqL.of hf⟩,_,rfl,d,rfl,.inl ⟨kvs,.inl (sm _ _ hd)⟩,_,eσ,ga,_,_,_,rfl,rfl,SqT.of hga,zt (j:=0) rfl,_,hgt,_,eσ,ga,_,_,_,rfl,rfl,SqT.of hga,zt (j:=1) rfl,_,_,rfl,rfl,1,rfl,by show 3≤sizeLine;decide,fun p hp=>?_⟩
    rw [ev]
    obtain ⟨k1,k2,k3⟩:=z3r (m:=(labV rs g.1,g.2+1,-1)) hn sm hf hM hp
    exact ⟨fa,_,.ref p,rfl,rfl,by rw [zf (ze hf hp)];exact hf,qG (by rw [km];lia),k _ _ k1 k2 k3 (by simp)⟩
  ·have c':¬inT r.op faulting=true:=c
   rw [kD c'] at k
   exact iteF (k H1 ts sm hf (by rw [kZ];exact hM) (by lia))
 refine ⟨_,rfl,_,rfl,l,_,_,_,rfl,rfl,hS,zt hra,?_⟩
 refine ⟨_,rfl,ra,_,_,_,rfl,rfl,SqT.of har,zt (j:=0) rfl,_,rfl,ra,_,_,_,rfl,rfl,SqT.of har,zt (j:=1) rfl,_,_,rfl,?_⟩
 refine ⟨_,rfl,_,rfl,ra,r,dep,rfl,har,hro,fun H1 s1=>⟨_,rfl,?_⟩⟩
 have empty:∀H2,Same H H2→qP rs place r dep og=[]→∀p,H2 p=none→Q (.ref p) (upd H2 p (.lst [])):=fun H2 s2 e p hp=>by
  refine q p [] _ (My.Same.upd s2 (s2.free hp) _) (s2.free hp) zb ?_
  rw [e]
  exact .nil
 unfold qP at q empty
 refine ite2 (fun c=>?_) (fun c=>?_)
 ·rw [kE c] at empty
  exact iteT ⟨by show 0≤sizeLine;decide,empty H1 s1 rfl⟩
 ·rw [kD c] at q empty
  refine ⟨_,rfl,_,rfl,ra,r,gv,og,rfl,s1 _ _ har,hg.same s1,_,rfl,?_⟩
  refine ite2 (fun c2=>?_) (fun c2=>?_)
  ·rw [kE c2] at empty
   exact ⟨by show 0≤sizeLine;decide,empty H1 s1 rfl⟩
  ·rw [kD c2] at q
   refine ⟨_,rfl,_,rfl,r.op,rfl,?_⟩
   rw [ZJ]
   refine ⟨_,_,rfl,rfl,_,rfl,r.op,rfl,?_⟩
   rw [ZJ]
   refine ⟨_,_,rfl,rfl,by show 0≤sizeLine;decide,fun fa hfa=>?_⟩
   have hn:=s1.free hfa
   refine ⟨fa,[],[],rfl,hn,My.Same.upd s1 hn _,zb,.nil,by simp,fun H3 t3 s3 f3 M3 z3=>?_⟩
   refine ⟨fa,t3,_,rfl,hn,s3,f3,M3,by simp at z3;lia,fun H4 t4 s4 f4 M4 z4=>?_⟩
   refine ⟨fa,t4,_,rfl,hn,s4,f4,M4,by simp at z3;lia,fun H5 t5 s5 f5 M5 z5=>?_⟩
   exact ⟨_,rfl,q fa t5 H5 s5 hn f5 (by simpa using M5)⟩
end
theorem Jx {X:Cx} {pos:Pos} {K:kC} {es:List Expr} {k:Nat} {t:TGs} {n:Nat} (hK:X.K=K) (hc:X.calm=true) (h:PGs X es t)
  (hn:autoParam ((assignEach es X.env).length=n) aR._auto_1) (hst:autoParam ((assignEach es X.env).findIdx? (·.1)=none) aR._auto_1):PG X (.Tuple es k pos) (gTup K n t):=by
 subst hK
 exact jc hc h hn hst
theorem z0S {σ:L2.St} {H:Hp} {F G:Hp→Prop} (h:F H):tAll σ H (fun b H5=>if b=true then F H5 else G H5):=by
 show (if true=true then F H else G H)
 rw [kE rfl]
 exact h
theorem nd3:(["goal","deeper","more"]:List Str).Nodup:=by trivial
theorem nd2:(["word","is_lacking"]:List Str).Nodup:=by trivial
theorem Ze.plain {X:Cx} {N:List Str} {nt:Nat} {scope:Scope} (nofree:∀y∈scope.names,y.2≠.free) (nocell:∀y∈scope.names,y.2≠.cell) (kind:scope.kind=.function) (names:∀y∈scope.names,y.2=.local→scope.names.lookup y.1=some .local) (hl:N.length=nt):Ze X N nt [] scope [] where
 clos:=closureFor_none nofree
 nocell:=nocell
 kind:=kind
 names:=names
 sub:=fun _ _ e=>nomatch e
 has:=fun x h=>by
  rw [z29 nofree] at h
  rcases h with h | h
  ·exact absurd h (z0k nocell x)
  ·exact absurd h (z0k nofree x)
 len:=by rw [hl];rfl
 free:=fun j x e=>by
  rw [List.getElem?_eq_none (by lia)] at e
  cases e
theorem Jk {K:kC} {a:Addr} {xs:List V} {g:TG} {tc:TT} {te:TE} {R:Hp→Prop} {H:Hp} {l:Addr} {σ0:L2.St} (Pv:Nat→List V→L2.St→Hp→Prop) (h0:Pv 0 [] σ0 (upd H l (.lst []))) (hl:∀i ys σ H,i≤xs.length→Pv i ys σ H→SqL K H a xs)
  (hs:∀i x ys σ H,xs[i]?=some x→Pv i ys σ H→g x σ H fun σ2 H4=>tc σ2 H4 fun b H5=>if b=true then te σ2 H5 fun v H6=>H6 l=some (.lst ys)∧ys.length < sizeLine∧∃m',m' < xs.length - i∧m'=xs.length - (i+1)∧i+1≤xs.length∧Pv (i+1) (ys++[v]) σ2 (upd H6 l (.lst (ys++[v])))
   else ∃m',m' < xs.length - i∧m'=xs.length - (i+1)∧i+1≤xs.length∧Pv (i+1) ys σ2 H5) (hd:∀ys σ H,Pv xs.length ys σ H→R H):
  ∃W:Nat→Nat→List V→L2.St→Hp→Prop,(∃m,W 0 m [] σ0 (upd H l (.lst [])))∧∀i m ys σ' H2,W i m ys σ' H2→
   ((Itl K a).stop i H2∧R H2)∨((Itl K a).go i H2∧∀x H3,(Itl K a).yld i H2 x H3→g x σ' H3 fun σ2 H4=>tc σ2 H4 fun b H5=>if b=true then te σ2 H5 fun v H6=>H6 l=some (.lst ys)∧ys.length < sizeLine∧∃m',m' < m∧W (i+1) m' (ys++[v]) σ2 (upd H6 l (.lst (ys++[v])))
    else ∃m',m' < m∧W (i+1) m' ys σ2 H5):=by
 refine ⟨fun i m ys σ H=>m=xs.length - i∧i≤xs.length∧Pv i ys σ H,⟨xs.length,by simp,Nat.zero_le _,h0⟩,?_⟩
 rintro i m ys σ H ⟨rfl,hi,p⟩
 have q:=hl i ys σ H hi p
 by_cases hlt:i < xs.length
 ·refine .inr ⟨⟨xs,xs[i],q,by simp [hlt]⟩,fun x H' y=>?_⟩
  obtain ⟨e,y⟩:=y
  subst e
  exact hs i x ys σ _ (y xs q) p
 ·have e:i=xs.length:=by lia
  subst e
  exact .inl ⟨⟨xs,q,kh _⟩,hd ys σ H p⟩
theorem Jl {a l:Addr} {kvs:List (Key × V)} {o:Obj} {g:TG} {tc:TT} {te:TE} {Q:VK} {H:Hp} {σ0:L2.St} (Pv:Nat→List V→L2.St→Hp→Prop) (h0:Pv 0 [] σ0 (upd H l (.lst []))) (hf:∀i ys σ H,Pv i ys σ H→H a=some (.frz o (.dK kvs)))
  (hs:∀i p k v ys σ H,kvs[i]?=some (k,v)→Pv i ys σ H→H p=none→g (.ref p) σ (upd H p (.tup [kV k,v])) fun σ2 H4=>tc σ2 H4 fun b H5=>if b=true then te σ2 H5 fun v H6=>H6 l=some (.lst ys)∧ys.length < sizeLine∧∃m',m' < kvs.length - i∧m'=kvs.length - (i+1)∧i+1≤kvs.length∧Pv (i+1) (ys++[v]) σ2 (upd H6 l (.lst (ys++[v])))
   else ∃m',m' < kvs.length - i∧m'=kvs.length - (i+1)∧i+1≤kvs.length∧Pv (i+1) ys σ2 H5) (hd:∀ys σ H,Pv kvs.length ys σ H→Q (.ref l) (upd H a (.dK kvs))):
  ∃W:Nat→Nat→List V→L2.St→Hp→Prop,(∃m,W 0 m [] σ0 (upd H l (.lst [])))∧∀i m ys σ' H2,W i m ys σ' H2→
   H2 a=some (.frz o (.dK kvs))∧(kvs.length≤i→Q (.ref l) (upd H2 a (.dK kvs)))∧(∀p k v,kvs[i]?=some (k,v)→H2 p=none→g (.ref p) σ' (upd H2 p (.tup [kV k,v])) fun σ2 H4=>tc σ2 H4 fun b H5=>if b=true then te σ2 H5 fun v H6=>H6 l=some (.lst ys)∧ys.length < sizeLine∧∃m',m' < m∧W (i+1) m' (ys++[v]) σ2 (upd H6 l (.lst (ys++[v])))
    else ∃m',m' < m∧W (i+1) m' ys σ2 H5):=by
 refine ⟨fun i m ys σ H=>m=kvs.length - i∧i≤kvs.length∧Pv i ys σ H,⟨kvs.length,by simp,Nat.zero_le _,h0⟩,?_⟩
 rintro i m ys σ H ⟨rfl,hi,p⟩
 refine ⟨hf i ys σ H p,fun hle=>?_,fun p' k v hkv hp=>hs i p' k v ys σ H hkv p hp⟩
 have e:i=kvs.length:=by lia
 subst e
 exact hd ys σ H p
noncomputable def Q8 (rs:List Row) (place:Nat) (r:Row) (d:Int) (og:Option Gd):List (Str × Bool):=
 [("takes",decide (d < zQ r)),("guard",Zn r og),("beneath",qw r d og),("end",inV (.int (rs.length:Nat)) ((qP rs place r d og).map (·.1)))]
noncomputable def jI (rs:List Row) (place:Nat) (r:Row) (d:Int) (og:Option Gd):List Str:=((Q8 rs place r d og).filter (·.2)).map (·.1)
theorem z0n (rs:List Row) (m:Int):jW (labV rs m)=true:=by
 unfold labV
 cases zE rs m <;> rfl
theorem z2k (rs:List Row) (place:Nat) (r:Row) (d:Int) (og:Option Gd):((qP rs place r d og).map (·.1)).all jW=true:=by
 rw [List.all_map,List.all_eq_true]
 intro m hm
 unfold qP at hm
 split at hm
 ·cases hm
 ·split at hm
  ·cases hm
  ·rcases kX.mp hm with hm | hm
   ·rcases kX.mp hm with hm | hm
    ·unfold mv1 at hm
     split at hm
     ·cases hm
     ·rw [ku.mp hm];rfl
    ·unfold mv2 at hm
     split at hm
     ·rw [ku.mp hm];exact z0n _ _
     ·cases hm
   ·unfold mv3 at hm
    split at hm
    ·cases og with
     | none=>cases hm
     | some g=>rw [ku.mp hm];exact z0n _ _
    ·cases hm
noncomputable def kvs4 (wb:List (Str × Bool)):List (Key × V):=wb.map fun p=>(Sum.inr p.1,V.bl p.2)
theorem z8y (a b c d:Bool):ZF [] (kvs4 [("takes",a),("guard",b),("beneath",c),("end",d)])=kvs4 [("takes",a),("guard",b),("beneath",c),("end",d)]:=by rfl
section
def z2S (K:kC):Sp:=fun vs H Q _=>∃l d place dep gv og rs r,vs=[.ref l,.ref d,.int (place:Nat),.int dep,gv]∧z0O K H l d rs∧rs[place]?=some r∧jZ H gv og∧
 ∀f H',Same H H'→H f=none→H' f=some (.lst ((jI rs place r dep og).map V.str))→Q (.ref f) H'
theorem sc49:zi ["code","labels","place","depth","guard","row","goals","found"] ["code","labels","place","depth","guard"] (zc (top 49)):=fsM
theorem z57 (D:zn K mg "words_lacking" (top 49)) (G:Glo mg) (FV:FN P w K mg base 2 "lacks_values" ["row","depth"] z0Z) (FG:FN P w K mg base 1 "lacks_guard" ["row","guard"] z10) (FB:FN P w K mg base 2 "takes_beneath" ["row","depth","guard"] z05)
  (FM:FN P w K mg base 3 "moves" ["code","labels","place","depth","guard"] (z0Y K)):FN P w K mg base 4 "words_lacking" ["code","labels","place","depth","guard"] (z2S K):=by
 refine FN.o D sc49 fun f cdv A outer s H vs Q E hr h=>?_
 obtain ⟨l,d,place,dep,gv,og,rs,r,rfl,hC,hrp,hg,q⟩:=h
 obtain ⟨⟨as,hS,hR⟩,hc,kvs,hd,hL⟩:=id hC
 obtain ⟨ra,hra,har⟩:=hR.get' hrp
 have hro:=hc.ok r (kK hrp)
 have hr2:=hr.mono (show 2≤3 by decide)
 have hr1:=hr.mono (show 1≤3 by decide)
 refine ⟨_,z8 (zG (i:=5) sc49.nd rfl (Or.inl rfl) (qc zT (pv 0) (pv 2) (fun _ _=>rfl)))
  (z8 (z15 (N:=["goal","deeper","more"]) (nt:=3) (ix:=[]) (cl:=[]) (i:=6) rfl sc49.nd rfl (Or.inl rfl) (Ze.plain (by trivial) (by trivial) rfl (by trivial) rfl)
   (Jw (zo FM hr rfl (z6 (pv 0) (z6 (pv 1) (z6 (pv 2) (z6 (pv 3) (z6 (pv 4) z7)))))))
   (fun _ _ _ _=>Jx (K:=K) (n:=3) rfl rfl (zr (zu (i:=0) nd3 rfl (Or.inl rfl)) (zr (zu (i:=1) nd3 rfl (Or.inl rfl)) (zr (zu (i:=2) nd3 rfl (Or.inl rfl)) qx))))
   (fun _ _ _ _=>z14) (fun _ _ _ _=>pv 0))
  (z8 (zG (i:=7) sc49.nd rfl (Or.inl rfl) (z19 (ju zk (zo FV hr2 rfl (z6 (pv 5) (z6 (pv 3) z7))) (ju zk (zo FG hr1 rfl (z6 (pv 5) (z6 (pv 4) z7)))
    (ju zk (zo FB hr2 rfl (z6 (pv 5) (z6 (pv 3) (z6 (pv 4) z7)))) (ju zk (qI jd (zy zL rfl G.len qv (z6 (pv 0) z7)) (pv 6) rfl) z17)))) rfl rfl nofun (by decide)))
  (zd (zl (z1E (N:=["word","is_lacking"]) (nt:=2) (ix:=[]) (cl:=[]) rfl (Ze.plain (by trivial) (by trivial) rfl (by trivial) rfl) (pv 7)
   (fun _ _ _ _=>Jx (K:=K) (n:=2) rfl rfl (zr (zu (i:=0) nd2 rfl (Or.inl rfl)) (zr (zu (i:=1) nd2 rfl (Or.inl rfl)) qx)))
   (fun _ _ _ _=>z6A (qZ (pv 1))) (fun _ _ _ _=>pv 0)))))),?_⟩
 try dsimp only [L2.cxOf,L2.Cx.nox]
 refine ⟨_,rfl,_,rfl,l,_,_,_,rfl,rfl,hS,zt hra,?_⟩
 refine ⟨_,rfl,_,rfl,_,rfl,_,rfl,_,rfl,l,d,place,dep,gv,og,rs,r,rfl,hC,hrp,hg,fun ml ts H1 s1 hn1 hm1 hM1=>?_⟩
 generalize hms:qP rs place r dep og=ms at hM1
 refine ⟨ml,rfl,⟨_,SqL.of hm1⟩,fun gl hgl=>Jk (K:=K) (a:=ml) (xs:=ts.map V.ref) (fun i ys σ H2=>(∃a b c,σ=[a,b,c])∧ys=(ms.take i).map (·.1)∧Same H1 H2∧H2 gl=some (.lst ys))
  ⟨⟨none,none,none,rfl⟩,rfl,zh hgl _,zb⟩ (fun i ys σ H2 _ zz=>by obtain ⟨_,_,s2,_⟩:=zz;exact s2.seq (SqL.of hm1)) ?_ ?_⟩
 ·rintro i x ys σ H2 hi ⟨⟨a,b,c,rfl⟩,rfl,s2,hp2⟩
  obtain ⟨t,m,rfl,hm,ht⟩:=(hM1.same fun a xs e=>s2 _ _ e).get hi
  have hil:i < ts.length:=by have:=(ki.mp hi).1;simpa using this
  have hml:ts.length=ms.length:=Paired.length hM1
  refine ⟨t,_,rfl,SqT.of ht,rfl,_,_,rfl,_,_,rfl,_,_,rfl,rfl,?_⟩
  refine z0S ⟨_,rfl,hp2,?_,_,?_,rfl,?_,⟨_,_,_,rfl⟩,?_,?_,zb⟩
  ·rw [km,List.length_take]
   have h1:ms.length≤3:=by
    rw [←hms]
    unfold qP mv1 mv2 mv3
    repeat' split
    all_goals simp
   exact qG (by lia)
  ·rw [km];lia
  ·rw [km];lia
  ·rw [Zy hm,kN];rfl
  ·exact My.Same.upd s2 hgl _
 ·rintro ys σ H2 ⟨_,rfl,s2,hp2⟩
  have hml:ts.length=ms.length:=Paired.length hM1
  rw [km,hml,List.take_length] at hp2
  have s02:=s1.trans s2
  intro fd hfd
  have hgl0:H gl=none:=s1.free hgl
  have hfd0:H fd=none:=s02.free hfd
  have s3:=zh hfd (.dK [])
  refine ⟨_,rfl,_,rfl,ra,r,dep,rfl,s3 _ _ (s02 _ _ har),hro,fun H4 s4=>?_⟩
  have s24:=s3.trans s4
  refine ⟨_,rfl,_,rfl,ra,r,gv,og,rfl,s24 _ _ (s02 _ _ har),(hg.same s02).same s24,?_⟩
  refine ⟨_,rfl,_,rfl,_,rfl,ra,r,dep,gv,og,rfl,s24 _ _ (s02 _ _ har),hro,(hg.same s02).same s24,fun H5 s5=>?_⟩
  have s25:=s24.trans s5
  refine ⟨_,rfl,l,_,rfl,.inl (s25.seq (s02.seq hS)),_,rfl,gl,_,rfl,.inl (SqL.of (s25 _ _ hp2)),rfl,by rw [←hms];exact z2k _ _ _ _ _,?_⟩
  refine ⟨s5 _ _ (s4 _ _ zb),kvs4 (Q8 rs place r dep og),?_,(by show 4≤15;decide),?_⟩
  ·unfold Q8 kvs4
   rw [hms,km,hR.len]
   rfl
  ·rw [show ZF [] (kvs4 (Q8 rs place r dep og))=kvs4 (Q8 rs place r dep og) from z8y _ _ _ _]
   generalize hwb:Q8 rs place r dep og=wb
   have hwl:wb.length=4:=by rw [←hwb];rfl
   have sH5:Same H H5:=s02.trans s25
   refine ⟨_,rfl,fd,kvs4 wb,rfl,zb,fun o l2 hl2=>?_⟩
   have nlf:l2≠fd:=fun z=>by rw [z,zb] at hl2;cases hl2
   have hl20:H l2=none:=sH5.free (by rw [zf nlf] at hl2;exact hl2)
   refine Jl (fun i ys σ H2=>(∃a b,σ=[a,b])∧ys=((wb.take i).filter (·.2)).map (fun p=>V.str p.1)∧Same H H2∧H2 l2=some (.lst ys)∧H2 fd=some (.frz o (.dK (kvs4 wb)))) ⟨⟨none,none,rfl⟩,rfl,?_,zb,?_⟩ (fun i ys σ H2 h=>h.2.2.2.2) ?_ ?_
   ·intro b o e
    rw [zf (ze e hl20),zf (ze e hfd0),zf (ze e hfd0)]
    exact sH5 _ _ e
   ·rw [zf nlf.symm];exact zb
   ·rintro i p k v ys σ H2 hi ⟨⟨a,b,rfl⟩,rfl,s2',hp2',hf2⟩ hp
    have hil:i < 4:=by have:=(ki.mp hi).1;unfold kvs4 at this;rw [km,hwl] at this;exact this
    have hkl:(kvs4 wb).length=4:=by unfold kvs4;rw [km,hwl]
    obtain ⟨pw,hpw,ek⟩:∃pw:Str × Bool,wb[i]?=some pw∧(k,v)=(Sum.inr pw.1,V.bl pw.2):=by
     unfold kvs4 at hi
     rw [List.getElem?_map] at hi
     cases e:wb[i]? with
     | none=>rw [e] at hi;cases hi
     | some pw=>rw [e] at hi;exact ⟨pw,rfl,(kF hi).symm⟩
    cases ek
    have npl:l2≠p:=ze hp2' hp
    have npf:fd≠p:=ze hf2 hp
    have sp:Same H (upd H2 p (.tup [kV (Sum.inr pw.1),V.bl pw.2])):=fun b o e=>by rw [zf (ze (s2' _ _ e) hp)];exact s2' _ _ e
    refine ⟨p,_,rfl,SqT.of zb,rfl,_,_,rfl,_,_,rfl,rfl,_,rfl,pw.2,rfl,?_⟩
    have efil:(wb.take (i+1)).filter (·.2)=(wb.take i).filter (·.2)++(if pw.2=true then [pw] else []):=by
     rw [Zy hpw,List.filter_append]
     congr 1
     cases hh:pw.2 <;> simp [hh]
    refine ite2 (fun c=>?_) (fun c=>?_)
    ·rw [kE c] at efil
     refine ⟨_,rfl,by rw [zf npl];exact hp2',?_,_,by lia,rfl,by lia,⟨_,_,rfl⟩,?_,?_,zb,?_⟩
     ·rw [km]
      have h1:=List.length_filter_le (fun p:Str × Bool=>p.2) (wb.take i)
      rw [List.length_take] at h1
      exact qG (by lia)
     ·rw [efil,kN];rfl
     ·exact fun b o e=>by rw [zf (ze e hl20)];exact sp _ _ e
     ·rw [zf nlf.symm,zf npf];exact hf2
    ·rw [kD c,kZ] at efil
     exact ⟨_,by lia,rfl,by lia,⟨_,_,rfl⟩,by rw [efil],sp,by rw [zf npl];exact hp2',by rw [zf npf];exact hf2⟩
   ·rintro ys σ H2 ⟨_,rfl,s2',hp2',hf2⟩
    refine q l2 _ (fun b o e=>?_) hl20 ?_
    ·rw [zf (ze e hfd0)];exact s2' _ _ e
    ·rw [zf nlf,hp2']
     unfold jI
     rw [hwb,show (kvs4 wb).length=wb.length by unfold kvs4;rw [km],List.take_length,List.map_map]
     rfl
end
theorem sc51:zi ["code","labels","place","state","depth","guards"] ["code","labels","place","state"] (zc (top 51)):=fsM
noncomputable def z46:Scope:=match (zK (top 51)).getD 1 (.Pass ⟨0,0,0,0⟩) with
 | .Return (some (.ListComp _ _ s _)) _=>s
 | _=>zc (top 51)
noncomputable def cl52 (L:Addr):List (Str × Addr):=[("state",L+1+1+1),("place",L+1+1),("code",L+1)]
noncomputable def nm52:List (Str × NameKind):=[(".0",.local),("goal",.local),("deeper",.local),("more",.local),("guards_behind",.globalImplicit),("code",.cell),("place",.cell),("state",.cell)]
noncomputable def N52:List Str:=["goal","deeper","more","code","place","state"]
theorem z95 (f:Addr) (cdv:Value) (L:Addr):closureFor z46 (envOfC "next_states" (zc (top 51)) L f cdv)=pure (cl52 L):=by rfl
theorem z9B (f:Addr) (cdv:Value) (L:Addr):(relabel z46 (envOfC "next_states" (zc (top 51)) L f cdv)).names=nm52:=by rfl
theorem cs52 {P:Program} {w:World} {K:kC} {mg:Str→Option Value} {base:Heap} {f:Addr} {cdv:Value} {A:Around} {outer:List Env} {s:Shared} {H:Hp} {E:XK}:
  Ze (cxOf CX0 P w K mg base ["code","labels","place","state","depth","guards"] "next_states" (zc (top 51)) f cdv A outer s H E).nox N52 3 [0,2,3] z46 (cl52 s.heap.objs.size) where
 clos:=z95 f cdv s.heap.objs.size
 nocell:=by trivial
 kind:=rfl
 names:=by trivial
 sub:=fun x c e=>e
 has:=fun x h=>by
  have e:=z9B f cdv s.heap.objs.size
  have h:nm52.lookup x=some .cell∨nm52.lookup x=some .free:=by rw [←e];exact h
  have:x="code"∨x="place"∨x="state":=by
   rcases h with h | h
   ·have hm:=PySem.mem_of_lookup h
    simp only [nm52,kH,Prod.mk.injEq,ky,or_false] at hm
    rcases hm with z | z | z | z | z | z | z | z
    all_goals first | exact .inl z.1 | exact .inr (.inl z.1) | exact .inr (.inr z.1) | exact z.2.elim | cases z.2
   ·have hm:=PySem.mem_of_lookup h
    simp only [nm52,kH,Prod.mk.injEq,ky,or_false] at hm
    rcases hm with z | z | z | z | z | z | z | z
    all_goals first | exact z.2.elim | cases z.2
  rcases this with rfl | rfl | rfl
  ·exact ⟨_,rfl⟩
  ·exact ⟨_,rfl⟩
  ·exact ⟨_,rfl⟩
 len:=rfl
 free:=fun j x e=>by
  match j,e with
  | 0,e=>cases e;exact ⟨0,rfl,rfl,rfl,rfl,fun c h=>h⟩
  | 1,e=>cases e;exact ⟨2,rfl,rfl,rfl,rfl,fun c h=>h⟩
  | 2,e=>cases e;exact ⟨3,rfl,rfl,rfl,rfl,fun c h=>h⟩
  | j+3,e=>exact absurd e (by rw [List.getElem?_eq_none (by show 6≤3+(j+3);lia)];exact nofun)
abbrev GsIn (H:Hp):List Addr→List Gd→Prop:=Paired fun a p=>H a=some (.tup [.int p.1,.int p.2])
def GsAt (K:kC) (H:Hp) (g:Addr) (gs:List Gd):Prop:=∃as,SqT K H g (as.map V.ref)∧GsIn H as gs
abbrev Sta:=Int × List Gd
def StA (K:kC) (H:Hp) (a:Addr) (s:Sta):Prop:=∃g,SqT K H a [.int s.1,.ref g]∧GsAt K H g s.2
theorem GsIn.same {H H':Hp} {as:List Addr} {gs:List Gd} (h:GsIn H as gs) (s:Same H H'):GsIn H' as gs:=Paired.mapP h fun _ _ e=>s _ _ e
theorem GsAt.same {K:kC} {H H':Hp} {g:Addr} {gs:List Gd} (h:GsAt K H g gs) (s:Same H H'):GsAt K H' g gs:=let ⟨as,h1,h2⟩:=h;⟨as,jL s h1,h2.same s⟩
theorem StA.same {K:kC} {H H':Hp} {a:Addr} {st:Sta} (h:StA K H a st) (s:Same H H'):StA K H' a st:=let ⟨g,h1,h2⟩:=h;⟨g,jL s h1,h2.same s⟩
theorem GsIn.append {H:Hp} {as bs:List Addr} {gs hs:List Gd} (h:GsIn H as gs) (k:GsIn H bs hs):GsIn H (as++bs) (gs++hs):=z1C h k
theorem GsIn.dropLast {H:Hp} {as:List Addr} {gs:List Gd} (h:GsIn H as gs):GsIn H as.dropLast gs.dropLast:=by
 induction h with
 | nil=>exact .nil
 | cons h t ih=>
  cases t with
  | nil=>exact .nil
  | cons h2 t=>exact .cons h ih
theorem GsIn.last {H:Hp} {as:List Addr} {gs:List Gd} (h:GsIn H as gs):(as=[]∧gs=[])∨∃bs a g,as=bs++[a]∧gs.getLast?=some g∧H a=some (.tup [.int g.1,.int g.2]):=by
 induction h with
 | nil=>exact .inl ⟨rfl,rfl⟩
 | @cons a g as gs h t ih=>
  rcases ih with ⟨rfl,rfl⟩ | ⟨bs,a',g',e1,e2,e3⟩
  ·exact .inr ⟨[],a,g,rfl,rfl,h⟩
  ·refine .inr ⟨a :: bs,a',g',by rw [e1];rfl,?_,e3⟩
   cases gs with
   | nil=>cases e2
   | cons x y=>rw [List.getLast?_cons_cons];exact e2
section
variable {X:Cx}
def z9F (K:kC):R2:=fun x y H Q=>∃a b xs ys,x=.ref a∧y=.ref b∧SqT K H a xs∧SqT K H b ys∧ys≠[]∧xs.length+ys.length≤sizeLine∧(xs=[]→Q (.ref b) H)∧(xs≠[]→∀p,H p=none→Q (.ref p) (upd H p (.tup (xs++ys))))
theorem z6J:OpR X (binaryOp .Add) (z9F X.K):=by
 intro pins s σ H x y v u Q I rx ry h
 obtain ⟨a,b,xs,ys,rfl,rfl,ha,hb,hy,hz,q1,q2⟩:=h
 by_cases hx:xs=[]
 ·subst hx
  cases rx
  cases ry
  obtain ⟨its,r1,ht,_⟩:=I.tuple ha
  obtain ⟨its2,r2,ht2,_⟩:=I.tuple hb
  cases r1
  obtain ⟨⟨cls,dd,data,sl⟩,ho,hc,n,hd⟩:=id ht
  obtain ⟨⟨cls2,dd2,data2,sl2⟩,ho2,hc2,n2,hd2⟩:=id ht2
  simp only at hc hd hc2 hd2
  subst hc hd hc2 hd2
  exact concat_meets ⟨_,ho,rfl⟩ ⟨_,ho2,rfl⟩ noFill_tuple_add seq_tuple_add PySem.F.slot_tuple_add PySem.F.entry_tuple_add (PySem.F.args_tuple_add_2 _ _)
   (tuple_addW0 a b _ _ n n2 dd dd2 sl sl2 (by simp)) ⟨ho,ho2,.ref b,H,I,rfl,q1 rfl⟩
 ·exact z3n pins s σ H _ _ v u Q I rx ry ⟨a,b,xs,ys,rfl,rfl,ha,hb,hx,hz,fun z=>absurd z hy,fun _=>q2 hx⟩
theorem z5J {A:Around} {s:Shared} {l b:Addr} {vs ws:List Value} (hl:s.heap.IsTuple l vs.toArray) (hb:s.heap.IsTuple b ws.toArray) (hn:vs.length=ws.length) (hu:A.units < cLine)
  (he:∀j (h1:j < vs.length) (h2:j < ws.length),SeqAt.EqAt A.in1 s vs[j] ws[j] true):SeqAt.EqAt A s (.ref l) (.ref b) true:=by
 by_cases z:l=b
 ·subst z;exact SeqAt.EqAt.same _
 ·refine SeqAt.EqAt.of_refs z ?_
  have:=SeqAt.RcAt.tuples (e:=fun _=>true) hl hb hu (fun j h1 h2=>by
   have:=he j (by simpa using h1) (by simpa using h2)
   simpa using this)
  have e:((List.range (min vs.toArray.size ws.toArray.size)).all (fun _=>true)&&vs.toArray.size == ws.toArray.size)=true:=by simp [hn]
  rw [e] at this
  exact this
theorem z6d:∀{xs:List V} {vs ws:List Value} {A:Around} {s:Shared},Vals xs vs→Vals xs ws→(∀x∈xs,jW x=true∧eqV x x=true)→∀j (h1:j < vs.length) (h2:j < ws.length),SeqAt.EqAt A s vs[j] ws[j] true
 :=by
 intro xs vs ws A s r
 induction r generalizing ws with
 | nil=>intro _ _ j h1 _;exact absurd h1 (Nat.not_lt_zero _)
 | @cons x v xs vs r t ih=>
  intro r2 h j h1 h2
  cases r2 with
  | cons r' t'=>
   cases j with
   | zero=>
    have e:=z3O (A:=A) (s:=s) r r' (h x (kU ..)).1 (h x (kU ..)).1
    rw [(h x (kU ..)).2] at e
    exact e
   | succ j=>exact ih t' (fun y hy=>h y (kW _ hy)) j (by simpa using h1) (by simpa using h2)
theorem z52 {pins:List (Addr × Obj)} {σ:L2.St} {H:Hp} {s:Shared} {A:Around} {a b:Addr} {g:Gd} (I:Inv X pins σ H s) (ha:H a=some (.tup [.int g.1,.int g.2])) (hb:H b=some (.tup [.int g.1,.int g.2])) (hu:A.units < cLine):SeqAt.EqAt A s (.ref a) (.ref b) true:=by
 obtain ⟨vs,r1,t1,_⟩:=I.tuple (SqT.of ha)
 obtain ⟨ws,r2,t2,_⟩:=I.tuple (SqT.of hb)
 exact z5J t1 t2 (by rw [←r1.length,←r2.length]) hu fun j h1 h2=>z6d r1 r2 (fun x hx=>by
  rcases kH.mp hx with rfl | hx
  ·exact ⟨rfl,by show (g.1 == g.1)=true;simp⟩
  ·rw [ku.mp hx];exact ⟨rfl,by show (g.2 == g.2)=true;simp⟩) j h1 h2
theorem z3D {pins:List (Addr × Obj)} {σ:L2.St} {H:Hp} {s:Shared} {A:Around} (I:Inv X pins σ H s) (hu:A.units < cLine):∀{as bs:List Addr} {gs:List Gd} {vs ws:List Value},GsIn H as gs→GsIn H bs gs→Vals (as.map V.ref) vs→Vals (bs.map V.ref) ws→∀j (h1:j < vs.length) (h2:j < ws.length),SeqAt.EqAt A s vs[j] ws[j] true
 :=by
 intro as bs gs vs ws h
 induction h generalizing bs vs ws with
 | nil=>intro _ r _ j h1 _;cases r;exact absurd h1 (Nat.not_lt_zero _)
 | cons h t ih=>
  intro g2 r r2 j h1 h2
  cases g2 with
  | cons h' t'=>cases r with
   | cons r rr=>cases r2 with
    | cons r' rr'=>
     cases j with
     | zero=>
      cases r
      cases r'
      exact z52 I h h' hu
     | succ j=>exact ih t' rr rr' j (by simpa using h1) (by simpa using h2)
theorem z9M {pins:List (Addr × Obj)} {σ:L2.St} {H:Hp} {s:Shared} {A:Around} {a b:Addr} {gs:List Gd} (I:Inv X pins σ H s) (ha:GsAt X.K H a gs) (hb:GsAt X.K H b gs) (hu:A.units+1 < cLine):SeqAt.EqAt A s (.ref a) (.ref b) true:=by
 obtain ⟨as,h1,h2⟩:=ha
 obtain ⟨bs,h3,h4⟩:=hb
 obtain ⟨vs,r1,t1,_⟩:=I.tuple h1
 obtain ⟨ws,r2,t2,_⟩:=I.tuple h3
 have e1:=Paired.length h2
 have e2:=Paired.length h4
 refine z5J t1 t2 ?_ (by lia) (z3D I (by show A.units+1 < cLine;exact hu) h2 h4 r1 r2)
 rw [←r1.length,←r2.length,km,km,e1,e2]
def z9D (K:kC):R2:=fun x y H Q=>∃a b st,x=.ref a∧y=.ref b∧StA K H a st∧StA K H b st∧Q (.bl false) H
theorem z6H (hu:X.A.units+3 < cLine):OpR X (compareOp .NotEq) (z9D X.K):=by
 intro pins s σ H x y v u Q I rx ry h
 obtain ⟨a,b,st,rfl,rfl,⟨g,h1,h2⟩,⟨g',h3,h4⟩,q⟩:=h
 cases rx
 cases ry
 obtain ⟨vs,r1,t1,_⟩:=I.tuple h1
 obtain ⟨ws,r2,t2,_⟩:=I.tuple h3
 have e:(!((List.range (min vs.toArray.size ws.toArray.size)).all (fun _=>true)&&vs.toArray.size == ws.toArray.size))=false:=by
  have z1:=r1.length
  have z2:=r2.length
  have z:vs.length=ws.length:=z1.symm.trans z2
  simp only [kI]
  rw [z]
  simp
 refine SeqAt.RcNeAt.tuples (e:=fun _=>true) t1 t2 (by lia) (fun j j1 j2=>?_) X.prog X.w X.xe _ ⟨.bl _,H,I,rfl,by rw [e];exact q⟩
 cases r1 with
 | cons ra rb=>
  cases r2 with
  | cons rc rd=>
   cases rb with
   | cons re rf=>
    cases rd with
    | cons rg rh=>
     cases rf
     cases rh
     match j,j1,j2 with
     | 0,_,_=>
      have e:=z3O (A:=X.A.in1) (s:=s) ra rc rfl rfl
      rw [show eqV (V.int st.1) (V.int st.1)=true by show (st.1 == st.1)=true;simp] at e
      exact e
     | 1,_,_=>
      cases re
      cases rg
      exact z9M I h2 h4 (by show X.A.units+1+1 < cLine;lia)
     | j+2,j1,_=>exact absurd j1 (by simp)
end
noncomputable def zR (r:Row) (d:Int) (gs:List Gd) (more:Int):List Gd:=if more=1 then gs++[(argM r.arg,d)] else if more= -1 then gs.dropLast else gs
section
def spGb (K:kC):Sp:=fun vs H Q _=>∃ra st r d g gs more,vs=[.ref ra,.ref st,.int more]∧H ra=some (.tup (tupV r))∧SqT K H st [.int d,.ref g]∧GsAt K H g gs∧gs.length≤1000∧(more=1→∃m,r.arg=.int m)∧(more= -1→gs≠[])∧
 ∀g' H',Same H H'→GsAt K H' g' (zR r d gs more)→Q (.ref g') H'
theorem sc50:zi ["row","state","more","depth","guards"] ["row","state","more"] (zc (top 50)):=fsM
theorem z5w {α:Type} (xs:List V) (h:xs≠[]):cutV xs none (some (-1))=xs.dropLast∧¬(HT.sIx xs.length 0 none=0∧HT.sIx xs.length xs.length (some (-1))=xs.length):=by
 have hp:0 < xs.length:=List.length_pos_iff.mpr h
 have e:HT.sIx xs.length xs.length (some (-1))=xs.length - 1:=by
  show (if (-1:Int) < 0 then ((-1:Int)+(xs.length:Int)).toNat else min (-1:Int).toNat xs.length)=_
  rw [kE (by decide)]
  lia
 refine ⟨?_,fun z=>by rw [e] at z;lia⟩
 unfold cutV
 rw [e]
 show (xs.drop 0).take (xs.length - 1 - 0)=_
 rw [List.drop_zero,Nat.sub_zero,List.dropLast_eq_take]
theorem z9X (D:zn K mg "guards_behind" (top 50)):FN P w K mg base 1 "guards_behind" ["row","state","more"] (spGb K):=by
 refine FN.o D sc50 fun f cdv A outer s H vs Q E hr h=>?_
 obtain ⟨ra,st,r,d,g,gs,more,rfl,har,hst,⟨as,hga,hgs⟩,hz,h1,h2,q⟩:=h
 refine ⟨_,z8 (jb (pv 1) (jc rfl (zr (zu (i:=3) sc50.nd rfl (Or.inl rfl)) (zr (zu (i:=4) sc50.nd rfl (Or.inl rfl)) qx))))
  (z8 (zJ (zm qJ (pv 2) zg (zq _)) (zd (zl (zO z6J (pv 4) (zZ (z6 (zZ (z6 (qc qE (pv 0) zg (fun _ _=>rfl)) (z6 (pv 3) z7))) z7))))) zw)
  (zd (zl (jh (zm qJ (pv 2) (Z7 qY zg) (zq _)) (ZD z82 (pv 4) QJ (QI (Z7 qY zg))) (pv 4))))),?_⟩
 try dsimp only [L2.cxOf,L2.Cx.nox]
 refine ⟨_,rfl,st,_,rfl,hst,rfl,_,_,rfl,_,_,rfl,rfl,?_⟩
 refine ⟨_,rfl,rfl,_,rfl,?_⟩
 have hal:as.length=gs.length:=Paired.length hgs
 unfold zR at q
 refine ite2 (fun c=>?_) (fun c=>?_)
 ·have e:more=1:=by have:=kG c;injection this
  obtain ⟨m,em⟩:=h1 e
  rw [kE e,em] at q
  refine ⟨_,rfl,_,rfl,ra,_,_,_,rfl,rfl,SqT.of har,zt (j:=1) rfl,_,rfl,by show 2≤sizeLine;decide,fun p hp=>⟨by show 1≤sizeLine;decide,fun p2 hp2=>?_⟩⟩
  have s1:=zh hp (.tup [r.arg,.int d])
  have s2:=zh hp2 (.tup [.ref p])
  have hp':(upd (upd H p (.tup [r.arg,.int d])) p2 (.tup [.ref p])) p=some (.tup [.int (argM (.int m)),.int d]):=by
   rw [←em]
   have:=s2 _ _ (zb (H:=H) (a:=p) (o:=.tup [r.arg,.int d]))
   rw [this,em]
   rfl
  have s12:=s1.trans s2
  refine ⟨g,p2,as.map V.ref,[.ref p],rfl,rfl,jL s12 hga,SqT.of zb,nofun,by rw [km];show as.length+1≤_;rw [sizeLine_eq];lia,fun z=>?_,fun z p3 hp3=>?_⟩
  ·have za:as=[]:=by simpa using z
   subst za
   cases hgs
   exact q p2 _ s12 ⟨[p],SqT.of zb,.cons hp' .nil⟩
  ·have s3:=zh hp3 (.tup (as.map V.ref++[.ref p]))
   exact q p3 _ (s12.trans s3) ⟨as++[p],SqT.of (by rw [kN];exact zb),((hgs.same s12).same s3).append (.cons (s3 _ _ hp') .nil)⟩
 ·have e:¬more=1:=fun z=>c (by rw [z];rfl)
  rw [kD e] at q
  refine ⟨_,rfl,1,rfl,rfl,_,rfl,?_⟩
  refine ite2 (fun c2=>?_) (fun c2=>?_)
  ·have e2:more= -1:=by have:=kG c2;injection this
   rw [kE e2] at q
   have hne:as.map V.ref≠[]:=fun z=>h2 e2 (by
    have za:as=[]:=by simpa using z
    rw [za] at hal
    exact List.length_eq_zero_iff.mp hal.symm)
   obtain ⟨k1,k2⟩:=z5w (α:=V) _ hne
   refine ⟨_,rfl,1,rfl,-1,rfl,g,_,rfl,hga,k2,fun p hp=>?_⟩
   rw [k1]
   have s1:=zh hp (.tup (as.map V.ref).dropLast)
   refine q p _ s1 ⟨as.dropLast,SqT.of (by rw [List.map_dropLast];exact zb),(hgs.dropLast).same s1⟩
  ·have e2:¬more= -1:=fun z=>c2 (by rw [z];rfl)
   rw [kD e2] at q
   exact ⟨_,rfl,q g H (Same.refl _) ⟨as,hga,hgs⟩⟩
end
noncomputable def isT:HO→Bool
 | .tup _=>true
 | .frz _ _=>true
 | _=>false
def qo (H H':Hp):Prop:=∀b o,H b=some o→isT o=true→H' b=some o
theorem qo.trans {H H1 H2:Hp} (a:qo H H1) (b:qo H1 H2):qo H H2:=fun c o h t=>b c o (a c o h t) t
theorem qo.of {H H':Hp} (s:Same H H'):qo H H':=fun b o h _=>s b o h
theorem qo.upd {H:Hp} {l:Addr} {o u:HO} (h:H l=some u) (hu:isT u=false):qo H (upd H l o):=fun b x e t=>by
 rw [zf (fun z=>by rw [z,h] at e;cases e;rw [hu] at t;cases t)];exact e
theorem qS {K:kC} {H H':Hp} {a:Addr} {xs:List V} (s:qo H H') (h:SqT K H a xs):SqT K H' a xs:=by
 rcases h with (h | ⟨o,h⟩) | h
 ·exact .inl (.inl (s _ _ h rfl))
 ·exact .inl (.inr ⟨o,s _ _ h rfl⟩)
 ·exact .inr h
theorem GsIn.keep {H H':Hp} {as:List Addr} {gs:List Gd} (h:GsIn H as gs) (s:qo H H'):GsIn H' as gs:=Paired.mapP h fun _ _ e=>s _ _ e rfl
theorem GsAt.keep {K:kC} {H H':Hp} {g:Addr} {gs:List Gd} (h:GsAt K H g gs) (s:qo H H'):GsAt K H' g gs:=let ⟨as,h1,h2⟩:=h;⟨as,qS s h1,h2.keep s⟩
theorem StA.keep {K:kC} {H H':Hp} {a:Addr} {st:Sta} (h:StA K H a st) (s:qo H H'):StA K H' a st:=let ⟨g,h1,h2⟩:=h;⟨g,qS s h1,h2.keep s⟩
abbrev NxIn (K:kC) (H:Hp):List Addr→List (V × Sta)→Prop:=Paired fun t n=>∃a,H t=some (.tup [n.1,.ref a])∧StA K H a n.2
theorem NxIn.keep {K:kC} {H H':Hp} {ts:List Addr} {ns:List (V × Sta)} (h:NxIn K H ts ns) (s:qo H H'):NxIn K H' ts ns:=Paired.mapP h fun _ _ z=>z.elim fun a q=>⟨a,s _ _ q.1 rfl,q.2.keep s⟩
theorem NxIn.append {K:kC} {H:Hp} {as bs:List Addr} {gs hs:List (V × Sta)} (h:NxIn K H as gs) (k:NxIn K H bs hs):NxIn K H (as++bs) (gs++hs):=z1C h k
theorem NxIn.get {K:kC} {H:Hp} {as:List Addr} {rs:List (V × Sta)} {i:Nat} {x:V} (h:NxIn K H as rs) (e:(as.map V.ref)[i]?=some x):∃t n a,x=.ref t∧rs[i]?=some n∧H t=some (.tup [n.1,.ref a])∧StA K H a n.2:=by
 obtain ⟨t,n,h1,h2,a,h3⟩:=z3d h e
 exact ⟨t,n,a,h1,h2,h3⟩
noncomputable def Zl (rs:List Row) (place:Nat) (r:Row) (st:Sta):List (V × Sta):=(qP rs place r st.1 st.2.getLast?).map fun m=>(m.1,(m.2.1,zR r st.1 st.2 m.2.2))
theorem z53 {x:Str} (h:tabI zP x=1):x="try":=by
 unfold tabI at h
 cases e:zP.lookup x with
 | none=>rw [e] at h;cases h
 | some v=>
  have hm:=PySem.mem_of_lookup e
  rw [e] at h
  simp only [zP,kH,Prod.mk.injEq,ky,or_false] at hm
  rcases hm with ⟨z,_⟩ | ⟨_,z⟩
  ·exact z
  ·rw [z] at h;cases h
theorem z54 {x:Str} (h:tabI zP x= -1):x="endtry":=by
 unfold tabI at h
 cases e:zP.lookup x with
 | none=>rw [e] at h;cases h
 | some v=>
  have hm:=PySem.mem_of_lookup e
  rw [e] at h
  simp only [zP,kH,Prod.mk.injEq,ky,or_false] at hm
  rcases hm with ⟨_,z⟩ | ⟨z,_⟩
  ·rw [z] at h;cases h
  ·exact z
theorem z2j {rs:List Row} {place:Nat} {r:Row} {d:Int} {gs:List Gd} (hok:jG r):∀m∈qP rs place r d gs.getLast?,(m.2.2=1→∃k,r.arg=.int k)∧(m.2.2= -1→gs≠[]):=by
 intro m hm
 unfold qP at hm
 split at hm
 ·cases hm
 ·split at hm
  ·cases hm
  ·rename_i _ hG
   rcases kX.mp hm with hm | hm
   ·rcases kX.mp hm with hm | hm
    ·unfold mv1 at hm
     split at hm
     ·cases hm
     ·rw [ku.mp hm]
      refine ⟨fun h=>?_,fun h=>?_⟩
      ·have e:=z53 h
       obtain ⟨s,hs,hfit,_⟩:=hok.parts
       rw [e,show zX "try"=some ("mark":Str) by trivial] at hs
       cases hs
       obtain ⟨k,hk,_⟩:=ZH hfit
       exact ⟨k,hk⟩
      ·have e:=z54 h
       intro z
       subst z
       exact hG (by unfold Zn;rw [e];decide)
    ·unfold mv2 at hm
     split at hm
     ·rw [ku.mp hm]
      exact ⟨fun h=>absurd (show (0:Int)=1 from h) (by decide),fun h=>absurd (show (0:Int)= -1 from h) (by decide)⟩
     ·cases hm
   ·unfold mv3 at hm
    split at hm
    ·cases e:gs.getLast? with
     | none=>rw [e] at hm;cases hm
     | some g=>
      rw [e] at hm
      rw [ku.mp hm]
      refine ⟨fun h=>absurd (show (-1:Int)=1 from h) (by decide),fun _ z=>?_⟩
      subst z
      cases e
    ·cases hm
theorem z4X {X:Cx} {K:kC} (hK:X.K=K):IxR X (rIxL K):=by subst hK;exact zT
theorem z0i (rs:List Row) (place:Nat) (r:Row) (d:Int) (og:Option Gd):(qP rs place r d og).length≤3:=by
 unfold qP mv1 mv2 mv3
 repeat' split
 all_goals simp
theorem nd52:N52.Nodup:=by trivial
section
theorem GsAt.guardV {H:Hp} {g:Addr} {gs:List Gd} (h:GsAt K H g gs):∃as:List Addr,SqT K H g (as.map V.ref)∧((as=[]∧jZ H .non gs.getLast?)∨∃bs a,as=bs++[a]∧jZ H (.ref a) gs.getLast?):=by
 obtain ⟨as,h1,h2⟩:=h
 refine ⟨as,h1,?_⟩
 rcases h2.last with ⟨e1,e2⟩ | ⟨bs,a,g',e1,e2,e3⟩
 ·exact .inl ⟨e1,by rw [e2];rfl⟩
 ·exact .inr ⟨bs,a,e1,by rw [e2];exact ⟨a,rfl,e3⟩⟩
def z6p (K:kC):Sp:=fun vs H Q _=>∃(g:Addr) (gs:List Gd),vs=[.ref g]∧GsAt K H g gs∧∀gv,jZ H gv gs.getLast?→Q gv H
theorem up2 (F:FN P w K mg base 1 "uppermost" ["guards"] (spUp K)):FN P w K mg base 1 "uppermost" ["guards"] (z6p K):=F.imp fun vs H Q E ⟨g,gs,e,h,q⟩=>by
 obtain ⟨as,h1,h2⟩:=h.guardV
 refine ⟨g,as,e,h1,?_⟩
 rcases h2 with ⟨a,b⟩ | ⟨bs,a,e1,b⟩
 ·exact .inl ⟨a,q _ b⟩
 ·exact .inr ⟨bs,a,e1,q _ b⟩
def z1u (K:kC):Sp:=fun vs H Q _=>∃l d place sa st rs r,vs=[.ref l,.ref d,.int (place:Nat),.ref sa]∧z0O K H l d rs∧rs[place]?=some r∧StA K H sa st∧st.2.length≤1000∧
 ∀f ts H',Same H H'→H f=none→H' f=some (.lst (ts.map V.ref))→NxIn K H' ts (Zl rs place r st)→Q (.ref f) H'
def NxW (K:kC) (l:Addr) (place:Nat) (sa:Addr) (r:Row) (st:Sta) (ms:List Mv) (H1:Hp) (nl:Addr) (i:Nat) (ys:List V) (σ:L2.St) (H2:Hp):Prop:=(∃a b c,σ=[a,b,c,some (.ref l),some (.int (place:Nat)),some (.ref sa)])∧∃us:List Addr,ys=us.map V.ref∧NxIn K H2 us ((ms.take i).map fun m=>(m.1,(m.2.1,zR r st.1 st.2 m.2.2)))∧Same H1 H2∧H2 nl=some (.lst ys)
theorem z7b (D:zn K mg "next_states" (top 51)) (FU:FN P w K mg base 1 "uppermost" ["guards"] (z6p K)) (FM:FN P w K mg base 3 "moves" ["code","labels","place","depth","guard"] (z0Y K)) (FB:FN P w K mg base 1 "guards_behind" ["row","state","more"] (spGb K)):
  FN P w K mg base 4 "next_states" ["code","labels","place","state"] (z1u K):=by
 refine FN.o D sc51 fun f cdv A outer s H vs Q E hr h=>?_
 obtain ⟨l,d,place,sa,st,rs,r,rfl,hC,hrp,⟨g,hsa,hgs⟩,hz,q⟩:=h
 have hr1:=hr.mono (show 1≤3 by decide)
 refine ⟨_,z8 (jb (pv 3) (jc rfl (zr (zu (i:=4) sc51.nd rfl (Or.inl rfl)) (zr (zu (i:=5) sc51.nd rfl (Or.inl rfl)) qx))))
  (zd (zl (z4K (N:=N52) (nt:=3) (ix:=[0,2,3]) (cl:=cl52 s.heap.objs.size) rfl cs52 (Jw (zo FM hr rfl (z6 (pv 0) (z6 (pv 1) (z6 (pv 2) (z6 (pv 4) (z6 (zo FU hr1 rfl (z6 (pv 5) z7)) z7)))))))
   (fun _ _ _ _=>Jx (K:=K) (n:=3) rfl rfl (zr (zu (i:=0) nd52 rfl (Or.inl rfl)) (zr (zu (i:=1) nd52 rfl (Or.inl rfl)) (zr (zu (i:=2) nd52 rfl (Or.inl rfl)) qx))))
   (fun _ _ _ _=>z14)
   (fun _ _ _ _=>zZ (z6 (pv 0) (z6 (zZ (z6 (pv 1) (z6 (zo FB hr1 rfl (z6 (qc (z4X (K:=K) rfl) (pv 3) (pv 4) (fun _ _=>rfl)) (z6 (pv 5) (z6 (pv 2) z7)))) z7))) z7)))))),?_⟩
 try dsimp only [L2.cxOf,L2.Cx.nox]
 refine ⟨_,rfl,sa,_,rfl,hsa,rfl,_,_,rfl,_,_,rfl,rfl,?_⟩
 refine ⟨_,rfl,_,rfl,_,rfl,_,rfl,_,rfl,g,st.2,rfl,hgs,fun gv hgv=>?_⟩
 refine ⟨l,d,place,st.1,gv,_,rs,r,rfl,hC,hrp,hgv,fun ml ts H1 s1 hn1 hm1 hM1=>?_⟩
 obtain ⟨⟨as,hS,hR⟩,hc,_⟩:=id hC
 have hro:=hc.ok r (kK hrp)
 have hmm:=z2j (rs:=rs) (place:=place) (d:=st.1) (gs:=st.2) hro
 have hlen:=z0i rs place r st.1 st.2.getLast?
 unfold Zl at q
 generalize hms:qP rs place r st.1 st.2.getLast?=ms at hM1 hmm hlen q
 refine ⟨ml,rfl,⟨_,SqL.of hm1⟩,fun nl hnl=>Jk (K:=K) (a:=ml) (xs:=ts.map V.ref) (NxW K l place sa r st ms H1 nl)
  ⟨⟨none,none,none,rfl⟩,[],rfl,.nil,zh hnl _,zb⟩ (fun i ys σ H2 _ zz=>by obtain ⟨_,_,_,_,s2,_⟩:=zz;exact s2.seq (SqL.of hm1)) ?_ ?_⟩
 ·rintro i x ys σ H2 hi ⟨⟨a,b,c,rfl⟩,us,rfl,hN,s2,hp2⟩
  obtain ⟨t,m,rfl,hm,ht⟩:=(hM1.same fun a xs e=>s2 _ _ e).get hi
  have hil:i < ts.length:=by have:=(ki.mp hi).1;simpa using this
  have hml:ts.length=ms.length:=Paired.length hM1
  have hul:us.length=(ms.take i).length:=by have:=Paired.length hN;simpa using this
  have sH:=s1.trans s2
  obtain ⟨ra,hra,har⟩:=hR.get' hrp
  obtain ⟨mm1,mm2⟩:=hmm m (kK hm)
  refine ⟨t,_,rfl,SqT.of ht,rfl,_,_,rfl,_,_,rfl,_,_,rfl,rfl,?_⟩
  refine z0S ⟨_,rfl,_,rfl,_,rfl,_,rfl,l,_,_,_,rfl,rfl,sH.seq hS,zt hra,_,rfl,_,rfl,ra,sa,r,st.1,g,st.2,m.2.2,rfl,sH _ _ har,jL sH hsa,hgs.same sH,hz,mm1,mm2,fun g' H3 s3 hg'=>?_⟩
  refine ⟨by show 2≤sizeLine;decide,fun p1 hp1=>⟨by show 2≤sizeLine;decide,fun p2 hp2'=>?_⟩⟩
  have t1:=zh hp1 (.tup [.int m.2.1,.ref g'])
  have t2:=zh hp2' (.tup [m.1,.ref p1])
  have t12:=t1.trans t2
  have sE:=s3.trans t12
  have hnl5:=sE _ _ hp2
  refine ⟨hnl5,?_,_,by rw [km];lia,rfl,by rw [km];lia,⟨_,_,_,rfl⟩,us++[p2],by rw [kN];rfl,?_,?_,zb⟩
  ·rw [km,hul,List.length_take]
   exact qG (by lia)
  ·rw [Zy hm,kN]
   have kT:=qo.upd (o:=.lst (us.map V.ref++[.ref p2])) hnl5 rfl
   refine NxIn.append ((hN.keep (qo.of sE)).keep kT) (.cons ⟨p1,kT _ _ zb rfl,StA.keep ⟨g',SqT.of (t2 _ _ zb),hg'.same t12⟩ kT⟩ .nil)
  ·exact fun b o e=>by rw [zf (ze e hnl)];exact sE _ _ (s2 _ _ e)
 ·rintro ys σ H2 ⟨_,us,rfl,hN,s2,hp2⟩
  have hml:ts.length=ms.length:=Paired.length hM1
  rw [km,hml,List.take_length] at hN
  exact q nl us H2 (s1.trans s2) (s1.free hnl) hp2 hN
def spSw (K:kC):Sp:=fun vs H Q _=>∃l d place sa st rs r,vs=[.ref l,.ref d,.int (place:Nat),.ref sa]∧z0O K H l d rs∧rs[place]?=some r∧StA K H sa st∧
 ∀f H',Same H H'→H f=none→H' f=some (.lst ((jI rs place r st.1 st.2.getLast?).map V.str))→Q (.ref f) H'
theorem sc52:zi ["code","labels","place","state"] ["code","labels","place","state"] (zc (top 52)):=fsM
theorem z9R (D:zn K mg "state_words" (top 52)) (FU:FN P w K mg base 1 "uppermost" ["guards"] (z6p K)) (FW:FN P w K mg base 4 "words_lacking" ["code","labels","place","depth","guard"] (z2S K)):FN P w K mg base 5 "state_words" ["code","labels","place","state"] (spSw K):=by
 refine FN.o D sc52 fun f cdv A outer s H vs Q E hr h=>?_
 obtain ⟨l,d,place,sa,st,rs,r,rfl,hC,hrp,⟨g,hsa,hgs⟩,q⟩:=h
 refine ⟨_,zd (zl (zo FW hr rfl (z6 (pv 0) (z6 (pv 1) (z6 (pv 2) (z6 (qc qE (pv 3) zg (fun _ _=>rfl)) (z6 (zo FU (hr.mono (by decide)) rfl (z6 (qc qE (pv 3) zg (fun _ _=>rfl)) z7)) z7))))))),?_⟩
 try dsimp only [L2.cxOf,L2.Cx.nox]
 refine ⟨_,rfl,_,rfl,_,rfl,_,rfl,sa,_,_,_,rfl,rfl,hsa,zt (j:=0) rfl,_,rfl,sa,_,_,_,rfl,rfl,hsa,zt (j:=1) rfl,g,st.2,rfl,hgs,fun gv hgv=>?_⟩
 exact ⟨l,d,place,st.1,gv,_,rs,r,rfl,hC,hrp,hgv,q⟩
end
abbrev Fnd:=List (Option Sta)
noncomputable def ZX:List (V × Sta)→Fnd→List Nat→Option (Fnd × List Nat)
 | [],f,w=>some (f,w)
 | (x,s) :: r,f,w=>match x with
  | .int j=>if 0≤j then (match f[j.toNat]? with
   | some none=>ZX r (f.set j.toNat (some s)) (w++[j.toNat])
   | some (some s')=>if s'=s then ZX r f w else none
   | none=>none) else none
  | _=>none
noncomputable def bfs (rs:List Row):Nat→Fnd→List Nat→Option Fnd
 | _,f,[]=>some f
 | 0,_,_ :: _=>none
 | n+1,f,p :: w=>match rs[p]?,f[p]? with
  | some r,some (some s)=>if (jI rs p r s.1 s.2.getLast?).isEmpty=true∧s.2.length≤1000 then (match ZX (Zl rs p r s) f w with
   | some (f',w')=>bfs rs n f' w'
   | none=>none) else none
  | _,_=>none
noncomputable def ZV (rs:List Row):Option Fnd:=bfs rs 300 ((List.replicate rs.length none).set 0 (some (0,[]))) [0]
abbrev qF (K:kC) (H:Hp):List V→Fnd→Prop:=Paired fun x o=>match o with
 | none=>x=.non
 | some st=>∃a,x=.ref a∧StA K H a st
theorem qF.keep {K:kC} {H H':Hp} {xs:List V} {os:Fnd} (h:qF K H xs os) (s:qo H H'):qF K H' xs os:=Paired.mapP h fun _ o z=>by
 cases o with
 | none=>exact z
 | some st=>
  obtain ⟨a,h1,h2⟩:=z
  exact ⟨a,h1,h2.keep s⟩
theorem qF.get {K:kC} {H:Hp} {xs:List V} {os:Fnd} {j:Nat} {o:Option Sta} (h:qF K H xs os):os[j]?=some o→∃x,xs[j]?=some x∧(match o with | none=>x=.non | some st=>∃a,x=.ref a∧StA K H a st):=z8i h
theorem qF.set {K:kC} {H:Hp} {a:Addr} {st:Sta} (hs:StA K H a st):∀{xs:List V} {os:Fnd} (j:Nat),qF K H xs os→qF K H (xs.set j (.ref a)) (os.set j (some st))
 | _,_,_,.nil=>.nil
 | _,_,0,.cons _ t=>.cons ⟨a,rfl,hs⟩ t
 | _,_,j+1,.cons h t=>.cons h (qF.set hs j t)
theorem Jh (K:kC) (H:Hp):∀n:Nat,qF K H (List.replicate n V.non) (List.replicate n none)
 | 0=>.nil
 | n+1=>.cons rfl (Jh K H n)
def z1p (H:Hp) (kvs:List (Key × V)) (f:Fnd) (B:Nat):Prop:=∀(p:Nat) st,f[p]?=some (some st)→∃t ns,valV kvs (Sum.inl (p:Int):Key)=some (.ref t)∧H t=some (.tup ns)∧ns≠[]∧ns.length≤B
theorem z1p.keep {H H':Hp} {kvs:List (Key × V)} {f:Fnd} {B:Nat} (h:z1p H kvs f B) (s:qo H H'):z1p H' kvs f B:=fun p st e=>let ⟨t,ns,h1,h2,h3⟩:=h p st e;⟨t,ns,h1,s _ _ h2 rfl,h3⟩
theorem z1p.mono {H:Hp} {kvs:List (Key × V)} {f:Fnd} {B B':Nat} (h:z1p H kvs f B) (hb:B≤B'):z1p H kvs f B':=fun p st e=>let ⟨t,ns,h1,h2,h3,h4⟩:=h p st e;⟨t,ns,h1,h2,h3,kz h4 hb⟩
structure Srch (K:kC) (H0 H:Hp) (d fl wd wl:Addr) (rs:List Row) (f:Fnd) (w:List Nat) (B C:Nat):Prop where
 same:Same H0 H
 labs:∃kvs,H d=some (.dK kvs)∧Q6 kvs rs
 nf:H0 fl=none
 nw:H0 wd=none
 nl:H0 wl=none
 fnd:∃fvs,H fl=some (.lst fvs)∧qF K H fvs f
 wks:∃kvs,H wd=some (.dK kvs)∧z1p H kvs f B∧kvs.length≤C
 wts:H wl=some (.lst (w.map fun p=>V.int (p:Nat)))
 wlen:w.length≤C
 flen:f.length=rs.length
 nd:d≠wd
 nfw:fl≠wl
theorem Srch.same' {K:kC} {H0 H H':Hp} {d fl wd wl:Addr} {rs:List Row} {f:Fnd} {w:List Nat} {B C:Nat} (h:Srch K H0 H d fl wd wl rs f w B C) (s:Same H H'):Srch K H0 H' d fl wd wl rs f w B C:=by
 obtain ⟨a1,⟨kv,b1,b2⟩,a3,a4,a5,⟨fvs,a6,a7⟩,⟨kvs,a8,a9,a10⟩,a11,a12,a13,a14,a15⟩:=h
 have kt:=qo.of s
 exact ⟨a1.trans s,⟨kv,s _ _ b1,b2⟩,a3,a4,a5,⟨fvs,s _ _ a6,a7.keep kt⟩,⟨kvs,s _ _ a8,a9.keep kt,a10⟩,s _ _ a11,a12,a13,a14,a15⟩
theorem Srch.more {K:kC} {H0 H:Hp} {d fl wd wl:Addr} {rs:List Row} {f:Fnd} {w:List Nat} {B B' C C':Nat} (h:Srch K H0 H d fl wd wl rs f w B C) (hb:B≤B') (hc:C≤C'):Srch K H0 H d fl wd wl rs f w B' C':=by
 obtain ⟨a1,a2,a3,a4,a5,a6,⟨kvs,a8,a9,a10⟩,a11,a12,a13,a14,a15⟩:=h
 exact ⟨a1,a2,a3,a4,a5,a6,⟨kvs,a8,a9.mono hb,by lia⟩,a11,by lia,a13,a14,a15⟩
theorem Srch.code {K:kC} {H0 H:Hp} {l d fl wd wl:Addr} {as:List Addr} {rs:List Row} {f:Fnd} {w:List Nat} {B C:Nat} (h:Srch K H0 H d fl wd wl rs f w B C) (hS:SqL K H0 l (as.map V.ref)) (hR:zV H0 as rs) (hc:Code rs):z0O K H l d rs:=
 ⟨⟨as,h.same.seq hS,hR.same h.same⟩,hc,h.labs⟩
theorem Srch.pop {K:kC} {H0 H:Hp} {d fl wd wl:Addr} {rs:List Row} {f:Fnd} {p:Nat} {w:List Nat} {B C:Nat} (h:Srch K H0 H d fl wd wl rs f (p :: w) B C):Srch K H0 (upd H wl (.lst (w.map fun p=>V.int (p:Nat)))) d fl wd wl rs f w B C:=by
 obtain ⟨a1,⟨kv,b1,b2⟩,a3,a4,a5,⟨fvs,a6,a7⟩,⟨kvs,a8,a9,a10⟩,a11,a12,a13,a14,a15⟩:=h
 have kt:=qo.upd (o:=.lst (w.map fun p=>V.int (p:Nat))) a11 rfl
 exact ⟨fun b o e=>by rw [zf (ze e a5)];exact a1 _ _ e,⟨kv,by rw [zf (zA b1 a11 nofun)];exact b1,b2⟩,a3,a4,a5,⟨fvs,by rw [zf a15];exact a6,a7.keep kt⟩,
  ⟨kvs,by rw [zf (zA a8 a11 nofun)];exact a8,a9.keep kt,a10⟩,zb,by simp at a12;lia,a13,a14,a15⟩
theorem Srch.put {K:kC} {H0 H:Hp} {d fl wd wl:Addr} {rs:List Row} {f:Fnd} {w:List Nat} {B C:Nat} (h:Srch K H0 H d fl wd wl rs f w B C) {j:Nat} {a t:Addr} {st:Sta} {ns fvs:List V} {kvs:List (Key × V)} (hf:H fl=some (.lst fvs)) (hw:H wd=some (.dK kvs))
  (hs:StA K H a st) (ht:H t=some (.tup ns)) (hn:ns≠[]) (hl:ns.length≤B) (hj:f[j]?=some none):
  Srch K H0 (upd (upd (upd H fl (.lst (fvs.set j (.ref a)))) wd (.dK (putK kvs (Sum.inl (j:Int)) (.ref t)))) wl (.lst ((w.map fun p=>V.int (p:Nat))++[V.int (j:Nat)]))) d fl wd wl rs (f.set j (some st)) (w++[j]) B (C+1):=by
 obtain ⟨a1,⟨kv,b1,b2⟩,a3,a4,a5,⟨fvs',a6,a7⟩,⟨kvs',a8,a9,a10⟩,a11,a12,a13,a14,a15⟩:=h
 rw [hf] at a6
 cases a6
 rw [hw] at a8
 cases a8
 have nwf:wd≠fl:=zA hw hf nofun
 have nwl:wd≠wl:=zA hw a11 nofun
 have k1:=qo.upd (o:=.lst (fvs.set j (.ref a))) hf rfl
 have e2:(upd H fl (.lst (fvs.set j (.ref a)))) wd=some (.dK kvs):=by rw [zf nwf];exact hw
 have k2:=k1.trans (qo.upd (o:=.dK (putK kvs (Sum.inl (j:Int)) (.ref t))) e2 rfl)
 have e3:(upd (upd H fl (.lst (fvs.set j (.ref a)))) wd (.dK (putK kvs (Sum.inl (j:Int)) (.ref t)))) wl=some (.lst (w.map fun p=>V.int (p:Nat))):=by rw [zf nwl.symm,zf a15.symm];exact a11
 have k3:=k2.trans (qo.upd (o:=.lst ((w.map fun p=>V.int (p:Nat))++[V.int (j:Nat)])) e3 rfl)
 refine ⟨fun b o e=>by rw [zf (ze e a5),zf (ze e a4),zf (ze e a3)];exact a1 _ _ e,⟨kv,by rw [zf (zA b1 a11 nofun),zf a14,zf (zA b1 hf nofun)];exact b1,b2⟩,a3,a4,a5,
  ⟨_,by rw [zf a15,zf nwf.symm];exact zb,(a7.set hs j).keep k3⟩,⟨_,by rw [zf nwl];exact zb,fun p st' e=>?_,?_⟩,?_,by simp;lia,by simp [a13],a14,a15⟩
 ·rw [Qs]
  by_cases z:p=j
  ·subst z
   rw [kE rfl]
   exact ⟨t,ns,rfl,k3 _ _ ht rfl,hn,hl⟩
  ·rw [kD (fun y=>z (by injection y with y;lia))]
   rw [List.getElem?_set,kD (fun y=>z y.symm)] at e
   obtain ⟨t',ns',h1,h2,h3⟩:=a9 p st' e
   exact ⟨t',ns',h1,k3 _ _ h2 rfl,h3⟩
 ·have:=qQ kvs (Sum.inl (j:Int):Key) (V.ref t)
  lia
 ·rw [zb,kN]
  rfl
section
def Ja (K:kC):Sp:=fun vs H Q _=>∃l as rs fin,vs=[.ref l]∧SqL K H l (as.map V.ref)∧zV H as rs∧Code rs∧ZV rs=some fin∧
 ∀t fl fvs H',Same H H'→H t=none→H fl=none→H' t=some (.tup [.ref fl,.non])→H' fl=some (.lst fvs)→qF K H' fvs fin→Q (.ref t) H'
theorem sc53:zi ["code","labels","found","walks","waiting","place","words","goal","state","walk"] ["code"] (zc (top 53)):=fsM
theorem pop0 {xs:List V} {y:V} {ys:List V} (h:xs=y :: ys):seqIndex? 0 xs.length=some 0∧xs[0]?=some y∧xs.eraseIdx 0=ys:=by
 subst h
 refine ⟨?_,rfl,rfl⟩
 unfold seqIndex?
 simp
noncomputable def st54:Stmt:=match (zK (top 53)).getD 5 (.Pass ⟨0,0,0,0⟩) with
 | .While _ b _ _=>b.getD 3 (.Pass ⟨0,0,0,0⟩)
 | s=>s
noncomputable abbrev N54:List Str:=["code","labels","found","walks","waiting","place","words","goal","state","walk"]
def z8a (K:kC) (H:Hp) (l:Addr) (rs:List Row):TS:=fun D σ H3=>∃(d fl wd wl:Addr) (p:Nat) (r:Row) (st:Sta) (n:Nat) (v6 v7 v8 v9:Option V) (fo:Fnd) (wa:List Nat) (foE:Fnd) (waE:List Nat),
 σ=[some (.ref l),some (.ref d),some (.ref fl),some (.ref wd),some (.ref wl),some (.int (p:Nat)),v6,v7,v8,v9]∧n≤299∧rs[p]?=some r∧fo[p]?=some (some st)∧st.2.length≤1000∧ZX (Zl rs p r st) fo wa=some (foE,waE)∧
 Srch K H H3 d fl wd wl rs fo wa (300 - n) (3 * (300 - n))∧∀σ' H',(∃v5 v6 v7 v8 v9,σ'=[some (.ref l),some (.ref d),some (.ref fl),some (.ref wd),some (.ref wl),v5,v6,v7,v8,v9])→Srch K H H' d fl wd wl rs foE waE (301 - n) (3 * (301 - n))→D.nx σ' H'
theorem z3T {α:Type} {l:List α} {i:Nat} {x:α} (h:l[i]?=some x):l.drop i=x :: l.drop (i+1):=by
 obtain ⟨hi,e⟩:=ki.mp h
 rw [←e]
 exact List.drop_eq_getElem_cons hi
def F54 (K:kC) (H:Hp) (l d fl wd wl:Addr) (p:Nat) (v6:Option V) (rs:List Row) (ns:List (V × Sta)) (foE:Fnd) (waE:List Nat) (st:Sta) (n:Nat) (tp:Addr) (np:List V) (nl:Addr) (ts:List Addr) (i:Nat) (σ:L2.St) (H':Hp):Prop:=∃v7 v8 v9 fo' wa',σ=[some (.ref l),some (.ref d),some (.ref fl),some (.ref wd),some (.ref wl),some (.int (p:Nat)),v6,v7,v8,v9]∧i≤3∧ZX (ns.drop i) fo' wa'=some (foE,waE)∧fo'[p]?=some (some st)∧Srch K H H' d fl wd wl rs fo' wa' (301 - n) (3 * (300 - n)+i)∧(∃kvs,H' wd=some (.dK kvs)∧valV kvs (Sum.inl (p:Int):Key)=some (.ref tp))∧H' tp=some (.tup np)∧H' nl=some (.lst (ts.map V.ref))∧NxIn K H' ts ns
theorem z9O {f:Addr} {cdv:Value} {A:Around} {outer:List Env} {s:Shared} {H:Hp} {E:XK} {l:Addr} {as:List Addr} {rs:List Row} (hr:Room 7 (A.deeper (envOfC "searched" (zc (top 53)) s.heap.objs.size f cdv)))
  (hS:SqL K H l (as.map V.ref)) (hR:zV H as rs) (hc:Code rs) (FN':FN P w K mg base 4 "next_states" ["code","labels","place","state"] (z1u K)):
  PS (cxOf CX0 P w K mg base N54 "searched" (zc (top 53)) f cdv A outer s H E).nox st54 (z8a K H l rs):=by
 have hu:=Qo hr
 have hu3:(A.deeper (envOfC "searched" (zc (top 53)) s.heap.objs.size f cdv)).units+3 < cLine:=by have:=hr.un;lia
 have hr4:=hr.mono (show 4≤7 by decide)
 refine PS.imp (Zb PassesOwn.never rfl (Jw (zo FN' hr4 rfl (z6 (pv 0) (z6 (pv 1) (z6 (pv 5) (z6 (qc zT (pv 2) (pv 5) (fun _ _=>rfl)) z7))))))
    (jc rfl (zr (zu (i:=7) sc53.nd rfl (Or.inl rfl)) (zr (zu (i:=8) sc53.nd rfl (Or.inl rfl)) qx)))
    (z8 (zG (i:=9) sc53.nd rfl (Or.inl rfl) (zO z3n (ZY hu (pv 3) (pv 5) (fun _ _=>rfl)) (zZ (z6 (pv 7) z7))))
    (zd (zJ (zm Qd (qc zT (pv 2) (pv 7) (fun _ _=>rfl)) qm (zq _))
     (z8 (jb (pv 8) (Jd (pv 2) (pv 7) Z2)) (z8 (z16 hu (pv 3) (pv 7) (pv 9) rfl) (zd (zj (jj (pv 4) (z6 (pv 7) z7))))))
     (zd (zJ (zm (z6H hu3) (qc zT (pv 2) (pv 7) (fun _ _=>rfl)) (pv 8) (zq _)) qL zw)))))) ?_
 rintro D σ H3 ⟨d,fl,wd,wl,p,r,st,n,v6,v7,v8,v9,fo,wa,foE,waE,rfl,hn,hrp,hfp,hz,hrel,S,k⟩
 obtain ⟨fvs,hfl2,hF⟩:=S.fnd
 obtain ⟨x,hx,hx2⟩:=hF.get hfp
 obtain ⟨sa,rfl,hsa⟩:=hx2
 refine ⟨_,rfl,_,rfl,_,rfl,_,rfl,_,rfl,fl,_,_,_,rfl,rfl,SqL.of hfl2,zt hx,l,d,p,sa,st,rs,r,rfl,S.code hS hR hc,hrp,hsa,hz,fun nl ts H4 s4 hn4 hnl4 hN4=>?_⟩
 have hnlen:(Zl rs p r st).length≤3:=by unfold Zl;rw [km];exact z0i ..
 generalize Zl rs p r st=ns at hrel hN4 hnlen
 have hts:ts.length=ns.length:=Paired.length hN4
 have S4:=S.same' s4
 obtain ⟨kvs,hwd,hW,hkl⟩:=S4.wks
 obtain ⟨tp,np,ht1,ht2,ht3,ht4⟩:=hW p st hfp
 refine ⟨nl,rfl,⟨_,SqL.of hnl4⟩,z1R (K:=K) (a:=nl) (xs:=ts.map V.ref) (F54 K H l d fl wd wl p v6 rs ns foE waE st n tp np nl ts)
  ⟨v7,v8,v9,fo,wa,rfl,by decide,hrel,hfp,S4.more (by lia) (by lia),⟨kvs,hwd,ht1⟩,ht2,hnl4,hN4⟩ (fun i σ H' _ zz=>by obtain ⟨_,_,_,_,_,_,_,_,_,_,_,_,h,_⟩:=zz;exact SqL.of h) ?_ ?_⟩
 ·rintro i x σ H' hi ⟨v7,v8,v9,fo',wa',rfl,hi3,hrel',hfp',S',⟨kvs',hwd',hv'⟩,htp',hnl',hN'⟩
  obtain ⟨t,nx,a,rfl,hnx,ht,hst⟩:=hN'.get hi
  have hil:i < ts.length:=by have:=(ki.mp hi).1;simpa using this
  rw [z3T hnx] at hrel'
  obtain ⟨goal,st'⟩:=nx
  refine ⟨t,_,rfl,SqT.of ht,rfl,_,_,rfl,_,_,rfl,rfl,?_⟩
  have hgd:DGet H' wd (.int (p:Nat)) (some (.ref tp)):=by rw [←hv'];exact DGet.k (k:=Sum.inl (p:Int)) hwd'
  refine ⟨_,rfl,_,rfl,wd,_,rfl,hgd,_,rfl,by show 1≤sizeLine;decide,fun p2 hp2=>?_⟩
  have t2:=zh hp2 (.tup [goal])
  refine ⟨tp,p2,np,[goal],rfl,rfl,SqT.of (t2 _ _ htp'),SqT.of zb,ht3,by rw [sizeLine_eq];show np.length+1≤_;lia,nofun,fun _ p3 hp3=>?_⟩
  have t3:=zh hp3 (.tup (np++[goal]))
  have t23:=t2.trans t3
  have S2:=S'.same' t23
  have hwd2:=t23 _ _ hwd'
  have hnl2:=t23 _ _ hnl'
  have hN2:=hN'.keep (qo.of t23)
  have hst2:=hst.same t23
  have htp2:=t23 _ _ htp'
  have hp33:(upd (upd H' p2 (.tup [goal])) p3 (.tup (np++[goal]))) p3=some (.tup (np++[goal])):=zb
  generalize upd (upd H' p2 (.tup [goal])) p3 (.tup (np++[goal]))=H5 at *
  obtain ⟨fv,hfl5,hF5⟩:=S2.fnd
  unfold ZX at hrel'
  cases goal with
  | int j=>
   dsimp only at hrel'
   by_cases hj0:0≤j
   case neg=>rw [kD hj0] at hrel';cases hrel'
   rw [kE hj0] at hrel'
   obtain ⟨jn,rfl⟩:=yc hj0
   rw [yd] at hrel'
   cases hfj:fo'[jn]? with
   | none=>rw [hfj] at hrel';cases hrel'
   | some o=>
    obtain ⟨y,hy,hy2⟩:=hF5.get hfj
    rw [hfj] at hrel'
    refine ⟨_,rfl,_,rfl,fl,_,_,_,rfl,rfl,SqL.of hfl5,zt hy,rfl,_,rfl,?_⟩
    cases o with
    | none=>
     dsimp only at hrel' hy2
     subst hy2
     have npj:p≠jn:=fun z=>by rw [z,hfj] at hfp';cases hfp'
     have jlt:jn < fv.length:=(ki.mp hy).1
     have Sp:=S2.put (t:=p3) hfl5 hwd2 hst2 hp33 (by simp) (by rw [ko];show np.length+1≤_;lia) hfj
     have nwf:wd≠fl:=zA hwd2 hfl5 nofun
     have nlf:nl≠fl:=fun z=>by rw [z] at hn4;rw [S.fnd.choose_spec.1] at hn4;cases hn4
     have nlw:nl≠wl:=fun z=>by rw [z] at hn4;rw [S.wts] at hn4;cases hn4
     refine iteT ⟨_,rfl,_,rfl,_,rfl,fl,fv,_,jn,rfl,rfl,hfl5,?_,?_⟩
     ·unfold ixN
      rw [kE hj0,kE (by lia),yd]
     refine ⟨_,rfl,_,rfl,_,rfl,wd,_,rfl,DPut.k (k:=Sum.inl (jn:Int)) (by rw [zf nwf];exact hwd2) ?_,?_⟩
     ·obtain ⟨kk,e1,_,e3⟩:=S2.wks
      rw [hwd2] at e1
      cases e1
      rw [sizeLine_eq];lia
     have hwl5:(upd (upd H5 fl (.lst (fv.set jn (.ref a)))) wd (.dK (putK kvs' (Sum.inl (jn:Int)) (.ref p3)))) wl=some (.lst (wa'.map fun p=>V.int (p:Nat))):=by
      rw [zf (zA S2.wts hwd2 nofun),zf S2.nfw.symm];exact S2.wts
     refine ⟨_,rfl,.inl ⟨rfl,_,SqL.of hwl5⟩,_,rfl,wl,_,_,rfl,rfl,hwl5,?_,?_⟩
     ·rw [km]
      have:=S2.wlen
      rw [sizeLine_eq];lia
     have kt:qo H5 (upd (upd (upd H5 fl (.lst (fv.set jn (.ref a)))) wd (.dK (putK kvs' (Sum.inl (jn:Int)) (.ref p3)))) wl (.lst ((wa'.map fun p=>V.int (p:Nat))++[V.int (jn:Nat)]))):=
      ((qo.upd hfl5 rfl).trans (qo.upd (u:=.dK kvs') (by rw [zf nwf];exact hwd2) rfl)).trans (qo.upd hwl5 rfl)
     refine ⟨_,_,_,_,_,rfl,by lia,hrel',by rw [List.getElem?_set,kD npj.symm];exact hfp',Sp.more (kh _) (by lia),⟨_,by rw [zf (zA hwd2 S2.wts nofun)];exact zb,?_⟩,kt _ _ htp2 rfl,?_,hN2.keep kt⟩
     ·rw [Qs,kD (fun z=>npj (by injection z with z;lia))];exact hv'
     ·rw [zf nlw,zf (zA hnl2 hwd2 nofun),zf nlf];exact hnl2
    | some s'=>
     dsimp only at hrel' hy2
     obtain ⟨a',rfl,hst'⟩:=hy2
     by_cases hs:s'=st'
     case neg=>rw [kD hs] at hrel';cases hrel'
     rw [kE hs] at hrel'
     subst hs
     refine iteF ⟨_,rfl,_,rfl,fl,_,_,_,rfl,rfl,SqL.of hfl5,zt hy,_,rfl,a',a,s',rfl,rfl,hst',hst2,false,rfl,iteF ?_⟩
     exact ⟨_,_,_,_,_,rfl,by lia,hrel',hfp',S2.more (kh _) (by lia),⟨kvs',hwd2,hv'⟩,htp2,hnl2,hN2⟩
  | _=>cases hrel'
 ·rintro σ H' ⟨v7,v8,v9,fo',wa',rfl,hi3,hrel',hfp',S',_⟩
  have hdr:ns.drop (ts.map V.ref).length=[]:=by rw [km,hts];simp
  rw [hdr] at hrel'
  unfold ZX at hrel'
  cases hrel'
  exact k _ H' ⟨_,_,_,_,_,rfl⟩ (S'.more (kh _) (by rw [km] at *;lia))
end
section
noncomputable def z9s:Stmt:=(zK (top 53)).getD 5 (.Pass ⟨0,0,0,0⟩)
def z9z (K:kC) (H:Hp) (l:Addr) (rs:List Row) (fin:Fnd):TS:=fun D σ H3=>∃(d fl wd wl:Addr) (f0:Fnd),σ=[some (.ref l),some (.ref d),some (.ref fl),some (.ref wd),some (.ref wl),none,none,none,none,none]∧bfs rs 300 f0 [0]=some fin∧
 Srch K H H3 d fl wd wl rs f0 [0] (301 - 300) (3 * (301 - 300))∧∀v1 v3 v4 v5 v6 v7 v8 v9 fvs H',Same H H'→H fl=none→H' fl=some (.lst fvs)→qF K H' fvs fin→D.nx [some (.ref l),v1,some (.ref fl),v3,v4,v5,v6,v7,v8,v9] H'
def WhW (K:kC) (H:Hp) (l d fl wd wl:Addr) (rs:List Row) (foE:Fnd) (waE:List Nat) (n:Nat) (σ':L2.St) (H':Hp):Prop:=∃v5 v6 v7 v8 v9,σ'=[some (.ref l),some (.ref d),some (.ref fl),some (.ref wd),some (.ref wl),v5,v6,v7,v8,v9]∧Srch K H H' d fl wd wl rs foE waE (301 - n) (3 * (301 - n))
theorem z6b {f:Addr} {cdv:Value} {A:Around} {outer:List Env} {s:Shared} {H:Hp} {E:XK} {l:Addr} {as:List Addr} {rs:List Row} {fin:Fnd} (hr:Room 7 (A.deeper (envOfC "searched" (zc (top 53)) s.heap.objs.size f cdv)))
  (hS:SqL K H l (as.map V.ref)) (hR:zV H as rs) (hc:Code rs) (FS:FN P w K mg base 5 "state_words" ["code","labels","place","state"] (spSw K)) (FN':FN P w K mg base 4 "next_states" ["code","labels","place","state"] (z1u K)):
  PS (cxOf CX0 P w K mg base N54 "searched" (zc (top 53)) f cdv A outer s H E).nox z9s (z9z K H l rs fin):=by
 have hr5:=hr.mono (show 5≤7 by decide)
 refine PS.imp (z1B PassesOwn.never (Qw (pv 4) (fun _=>rfl))
   (z8 (zG (i:=5) sc53.nd rfl (Or.inl rfl) (z8o PySem.F.plainAttrs_list PySem.F.slot_list_pop PySem.F.type_list_pop z4Q (pv 4) (z6 zg z7)))
   (z8 (zG (i:=6) sc53.nd rfl (Or.inl rfl) (zo FS hr5 rfl (z6 (pv 0) (z6 (pv 1) (z6 (pv 5) (z6 (qc zT (pv 2) (pv 5) (fun _ _=>rfl)) z7))))))
   (z8 (zJ (Qw (pv 6) (fun _=>rfl)) qL zw)
   (zd (z9O hr hS hR hc FN')))))) ?_
 rintro D σ H3 ⟨d,fl,wd,wl,f0,rfl,hfin,jq,q⟩
 refine ⟨fun m σ H2=>∃fo wa v5 v6 v7 v8 v9,σ=[some (.ref l),some (.ref d),some (.ref fl),some (.ref wd),some (.ref wl),v5,v6,v7,v8,v9]∧m≤300∧bfs rs m fo wa=some fin∧Srch K H H2 d fl wd wl rs fo wa (301 - m) (3 * (301 - m)),⟨300,f0,[0],none,none,none,none,none,rfl,kh _,hfin,jq⟩,?_⟩
 clear jq
 rintro m σ H2 ⟨fo,wa,v5,v6,v7,v8,v9,rfl,hm,hb,S⟩
 refine ⟨_,rfl,!wa.isEmpty,.inl ⟨_,SqL.of S.wts,by rw [List.isEmpty_map]⟩,?_⟩
 cases wa with
 | nil=>
  have hb:some fo=some fin:=by unfold bfs at hb;exact hb
  cases hb
  obtain ⟨fvs,hfl2,hF⟩:=S.fnd
  exact iteF (q _ _ _ _ _ _ _ _ fvs H2 S.same S.nf hfl2 hF)
 | cons p wa=>
  cases m with
  | zero=>unfold bfs at hb;cases hb
  | succ n=>
   unfold bfs at hb
   cases hrp:rs[p]? with
   | none=>rw [hrp] at hb;cases hb
   | some r=>
    cases hfp:fo[p]? with
    | none=>rw [hrp,hfp] at hb;cases hb
    | some o=>
     cases o with
     | none=>rw [hrp,hfp] at hb;cases hb
     | some st=>
      rw [hrp,hfp] at hb
      dsimp only at hb
      by_cases hw:(jI rs p r st.1 st.2.getLast?).isEmpty=true∧st.2.length≤1000
      case neg=>rw [kD hw] at hb;cases hb
      rw [kE hw] at hb
      obtain ⟨hw,hz⟩:=hw
      cases hrel:ZX (Zl rs p r st) fo wa with
      | none=>rw [hrel] at hb;cases hb
      | some fw=>
       obtain ⟨foE,waE⟩:=fw
       rw [hrel] at hb
       dsimp only at hb
       refine iteT ⟨WhW K H l d fl wd wl rs foE waE n,fun σ' H' zz=>by obtain ⟨v5,v6,v7,v8,v9,e,S'⟩:=zz;exact ⟨n,ye _,foE,waE,v5,v6,v7,v8,v9,e,by lia,hb,S'⟩,?_⟩
       obtain ⟨k1,k2,k3⟩:=pop0 (xs:=(p :: wa).map fun p=>V.int (p:Nat)) rfl
       refine ⟨_,rfl,.inl ⟨rfl,_,SqL.of S.wts⟩,wl,_,0,0,_,rfl,rfl,S.wts,by decide,by decide,k1,k2,?_⟩
       rw [k3]
       have S1:=S.pop
       generalize upd H2 wl (.lst (wa.map fun p=>V.int (p:Nat)))=H3 at S1
       obtain ⟨fvs,hfl2,hF⟩:=S1.fnd
       obtain ⟨x,hx,hx2⟩:=hF.get hfp
       obtain ⟨sa,rfl,hsa⟩:=hx2
       refine ⟨_,rfl,_,rfl,_,rfl,_,rfl,_,rfl,fl,_,_,_,rfl,rfl,SqL.of hfl2,zt hx,l,d,p,sa,st,rs,r,rfl,S1.code hS hR hc,hrp,hsa,fun wf H4 s4 hn4 hwf=>?_⟩
       refine ⟨_,rfl,false,.inl ⟨_,SqL.of hwf,by rw [List.isEmpty_map,hw];rfl⟩,iteF ?_⟩
       exact ⟨d,fl,wd,wl,p,r,st,n,_,_,_,_,fo,wa,foE,waE,rfl,by lia,hrp,hfp,hz,hrel,(S1.same' s4).more (by lia) (by lia),fun σ' H' ⟨v5,v6,v7,v8,v9,e⟩ S'=>⟨v5,v6,v7,v8,v9,e,S'⟩⟩
theorem z1j (D:zn K mg "searched" (top 53)) (G:Glo mg) (T:z5G w K mg) (FL:FN P w K mg base 7 "label_places" ["rows"] (z1w K)) (FS:FN P w K mg base 5 "state_words" ["code","labels","place","state"] (spSw K)) (FN':FN P w K mg base 4 "next_states" ["code","labels","place","state"] (z1u K)):
  FN P w K mg base 8 "searched" ["code"] (Ja K):=by
 refine FN.o D sc53 fun f cdv A outer s H vs Q E hr h=>?_
 obtain ⟨l,as,rs,fin,rfl,hS,hR,hc,hfin,q⟩:=h
 have hu:=Qo hr
 have hu3:(A.deeper (envOfC "searched" (zc (top 53)) s.heap.objs.size f cdv)).units+3 < cLine:=by have:=hr.un;lia
 obtain ⟨fa,fg,mfa,tfa,tfg⟩:=T.first
 have hr5:=hr.mono (show 5≤7 by decide)
 have hr4:=hr.mono (show 4≤7 by decide)
 refine ⟨_,z8 (zG (i:=1) sc53.nd rfl (Or.inl rfl) (zo FL hr rfl (z6 (pv 0) z7)))
  (z8 (zG (i:=2) sc53.nd rfl (Or.inl rfl) (zO z8q (qq (z6 qm z7)) (zy zL rfl G.len qv (z6 (pv 0) z7))))
  (z8 (jb (qb rfl mfa (v:=.ref fa) rfl) (Jd (pv 2) zg Z2))
  (z8 (zG (i:=3) sc53.nd rfl (Or.inl rfl) (z19 (ju zg (zZ (z6 zg z7)) z17) rfl rfl nofun (by decide)))
  (z8 (zG (i:=4) sc53.nd rfl (Or.inl rfl) (qq (z6 zg z7)))
  (z8 (z6b (fin:=fin) hr hS hR hc FS FN')
  (zd (zl (zZ (z6 (pv 2) (z6 qm z7)))))))))),?_⟩
 try dsimp only [L2.cxOf,L2.Cx.nox]
 have hlen:=hc.hi
 have hlo:=hc.lo
 refine ⟨_,rfl,l,as,rs,rfl,hS,hR,hc.ok,by lia,fun d kvs0 H1 hd0 s1 hd1 hL=>?_⟩
 have hll:as.length=rs.length:=hR.len
 refine ⟨by show 1≤sizeLine;decide,fun p0 hp0=>?_⟩
 have t0:=zh hp0 (.lst [V.non])
 refine ⟨_,rfl,l,_,rfl,.inl (t0.seq (s1.seq hS)),p0,_,[V.non],rfl,rfl,zb,?_,?_,?_,fun fl hfl=>?_⟩
 ·rw [km];lia
 ·rw [km];lia
 ·rw [km]
  show 1 * ((as.length:Nat):Int).toNat≤sizeLine
  rw [sizeLine_eq,yd];lia
 have efl:(List.replicate (((as.map V.ref).length:Nat):Int).toNat [V.non]).flatten=List.replicate rs.length V.non:=by
  rw [yd,km,hll]
  generalize rs.length=n
  induction n with
  | zero=>rfl
  | succ n ih=>rw [List.replicate_succ,List.flatten_cons,ih];rfl
 rw [efl]
 have sA:Same H (upd H1 p0 (.lst [V.non])):=s1.trans t0
 have hfl0:H fl=none:=sA.free hfl
 have nfd:d≠fl:=ze (t0 _ _ hd1) hfl
 refine ⟨_,rfl,fl,_,0,0,rfl,rfl,zb,?_,?_⟩
 ·unfold ixN
  rw [kE (by decide),kE (by rw [List.length_replicate];lia)]
  rfl
 rw [z2I]
 have f0:qF K (upd (upd H1 p0 (.lst [V.non])) fl (.lst ((List.replicate rs.length V.non).set 0 (.ref fa)))) ((List.replicate rs.length V.non).set 0 (.ref fa)) ((List.replicate rs.length none).set 0 (some (0,[]))):=
  qF.set (st:=(0,[])) ⟨fg,tfa.sq _,[],tfg.sq _,.nil⟩ 0 (Jh _ _ _)
 generalize hfv:(List.replicate rs.length V.non).set 0 (V.ref fa)=fvs0 at f0
 intro wd hwd
 have sB:Same H (upd (upd H1 p0 (.lst [V.non])) fl (.lst fvs0)):=fun b o e=>by rw [zf (ze e hfl0)];exact sA _ _ e
 generalize hHB:upd (upd H1 p0 (.lst [V.non])) fl (.lst fvs0)=HB at *
 have hflB:HB fl=some (.lst fvs0):=by rw [←hHB];exact zb
 have hdB:HB d=some (.dK kvs0):=by rw [←hHB,zf nfd];exact t0 _ _ hd1
 have hwd0:H wd=none:=sB.free hwd
 have s3:=zh hwd (.dK [])
 refine ⟨by show 1≤sizeLine;decide,fun p1 hp1=>?_⟩
 have s4:=zh hp1 (.tup [V.int 0])
 refine ⟨s4 _ _ zb,[(Sum.inl 0,.ref p1)],rfl,(by show 1≤15;decide),?_⟩
 have em:ZF [] [((Sum.inl 0:Key),V.ref p1)]=[(Sum.inl 0,V.ref p1)]:=rfl
 rw [em]
 refine ⟨by show 1≤sizeLine;decide,fun wl hwl=>?_⟩
 have npw:p1≠wd:=(ze (H:=upd HB wd (.dK [])) zb hp1).symm
 have hwl':wl≠wd:=fun z=>by rw [z,zb] at hwl;cases hwl
 have hwl2:(upd (upd HB wd (.dK [])) p1 (.tup [V.int 0])) wl=none:=by rw [zf hwl'] at hwl;exact hwl
 have sC:Same HB (upd (upd HB wd (.dK [])) p1 (.tup [V.int 0])):=s3.trans s4
 have hwlB:HB wl=none:=sC.free hwl2
 have sD:Same HB (upd (upd (upd (upd HB wd (.dK [])) p1 (.tup [V.int 0])) wd (.dK [(Sum.inl 0,V.ref p1)])) wl (.lst [V.int 0])):=fun b o e=>by
  rw [zf (ze e hwlB),zf (ze e hwd)];exact sC _ _ e
 generalize hHD:upd (upd (upd (upd HB wd (.dK [])) p1 (.tup [V.int 0])) wd (.dK [(Sum.inl 0,V.ref p1)])) wl (.lst [V.int 0])=HD at *
 have hp1D:HD p1=some (.tup [V.int 0]):=by
  rw [←hHD,zf (fun z=>by rw [←z,zb] at hwl2;cases hwl2),zf npw];exact zb
 have hwdD:HD wd=some (.dK [(Sum.inl 0,V.ref p1)]):=by rw [←hHD,zf hwl'.symm];exact zb
 have hwlD:HD wl=some (.lst [V.int 0]):=by rw [←hHD];exact zb
 have jq:Srch K H HD d fl wd wl rs ((List.replicate rs.length none).set 0 (some (0,[]))) [0] (301 - 300) (3 * (301 - 300)):=by
  refine ⟨sB.trans sD,⟨kvs0,sD _ _ hdB,hL⟩,hfl0,hwd0,sB.free hwlB,⟨fvs0,sD _ _ hflB,f0.keep (qo.of sD)⟩,⟨_,hwdD,fun p st e=>?_,(by show 1≤3;decide)⟩,hwlD,(by show 1≤3;decide),by simp,ze hdB hwd,ze hflB hwlB⟩
  have hp:p=0:=by
   rw [List.getElem?_set] at e
   by_cases z:0=p
   ·exact z.symm
   ·rw [kD z,List.getElem?_replicate] at e
    split at e <;> cases e
  subst hp
  exact ⟨p1,_,rfl,hp1D,nofun,(by show 1≤1;decide)⟩
 refine ⟨d,fl,wd,wl,_,rfl,hfin,jq,fun v1 v3 v4 v5 v6 v7 v8 v9 fvs H' s' _ h1 h2=>?_⟩
 refine ⟨_,rfl,by show 2≤sizeLine;decide,fun t ht=>?_⟩
 have st:=zh ht (.tup [V.ref fl,.non])
 exact q t fl fvs _ (s'.trans st) (s'.free ht) hfl0 zb (st _ _ h1) (h2.keep (qo.of st))
end
section
def z1t (K:kC):Sp:=fun vs H Q _=>∃l as rs fin,vs=[.ref l]∧H l=some (.lst (as.map V.ref))∧zV H as rs∧Code rs∧ZV rs=some fin∧
 ∀fl fvs H',Same H H'→H fl=none→H' fl=some (.lst fvs)→qF K H' fvs fin→Q (.ref fl) H'
theorem sc54:zi ["code","found","reason"] ["code"] (zc (top 54)):=fsM
theorem z3H (D:zn K mg "states" (top 54)) (FC:FN P w K mg base 9 "check_code" ["thing"] z32) (FS:FN P w K mg base 8 "searched" ["code"] (Ja K)):FN P w K mg base 10 "states" ["code"] (z1t K):=by
 refine FN.o D sc54 fun f cdv A outer s H vs Q E hr h=>?_
 obtain ⟨l,as,rs,fin,rfl,hl,hR,hc,hfin,q⟩:=h
 refine ⟨_,z8 (zj (zo FC hr rfl (z6 (pv 0) z7)))
  (z8 (jb (zo FS (hr.mono (by decide)) rfl (z6 (pv 0) z7)) (jc rfl (zr (zu (i:=1) sc54.nd rfl (Or.inl rfl)) (zr (zu (i:=2) sc54.nd rfl (Or.inl rfl)) qx))))
  (z8 (zJ (zm JB (pv 2) qm (zq _)) qL zw) (zd (zl (pv 1))))),?_⟩
 try dsimp only [L2.cxOf,L2.Cx.nox]
 refine ⟨_,rfl,l,as,rs,rfl,hl,hR,hc,fun H1 s1=>?_⟩
 refine ⟨_,rfl,l,as,rs,fin,rfl,SqL.of (s1 _ _ hl),hR.same s1,hc,hfin,fun t fl fvs H2 s2 ht hfl h1 h2 h3=>?_⟩
 refine ⟨t,_,rfl,SqT.of h1,rfl,_,_,rfl,_,_,rfl,rfl,?_⟩
 exact ⟨_,rfl,rfl,_,rfl,iteF ⟨_,rfl,q fl fvs H2 (s1.trans s2) (s1.free hfl) h2 h3⟩⟩
noncomputable def Q9:V→Bool
 | .non=>false
 | .bl b=>b
 | .int i=>i != 0
 | .str z=>(z.length:Int) != 0
 | _=>true
def z1s:Sp:=fun vs H Q _=>∃x,vs=[x]∧Scal x∧Q (.bl (Q9 x)) H
theorem sc57:zi ["value"] ["value"] (zc (top 57)):=fsM
theorem z6Z (D:zn K mg "is_true" (top 57)) (G:Glo mg):FN P w K mg base 1 "is_true" ["value"] z1s:=by
 refine FN.o D sc57 fun f cdv A outer s H vs Q E hr h=>?_
 obtain ⟨x,rfl,hx,q⟩:=h
 refine ⟨_,zd (zl (qD JW rfl G.bool jX (z6 (pv 0) z7))),?_⟩
 try dsimp only [L2.cxOf,L2.Cx.nox]
 refine ⟨x,rfl,x,rfl,?_⟩
 cases hx with
 | non=>exact .inl ⟨rfl,q⟩
 | bl b=>exact .inr (.inl ⟨b,rfl,q⟩)
 | int i=>exact .inr (.inr (.inl ⟨i,rfl,q⟩))
 | str z hz=>exact .inr (.inr (.inr ⟨z,rfl,hz,q⟩))
theorem QY:bootBuiltins "dict"=some (.type "dict"):=by trivial
theorem z5B:bootBuiltins "all"=some (.builtin "all"):=by trivial
def JY (kvs:List (Key × V)):Prop:=kvs.length≤8∧∀p∈kvs,∃nm:Str,p.1=Sum.inr nm∧nm.length≤sizeLine∧JF (.str nm)=true∧Scal p.2∧J8 p.2 1000000000000000000=true
def z2X:Sp:=fun vs H Q _=>∃d kvs,vs=[.ref d]∧H d=some (.dK kvs)∧JY kvs∧∀H',Same H H'→Q (.bl true) H'
theorem sc74:zi ["thing"] ["thing"] (zc (top 74)):=fsM
theorem ndnv:(["name","value"]:List Str).Nodup:=by trivial
theorem z5e (D:zn K mg "is_names" (top 74)) (G:Glo mg) (F1:FN P w K mg base 2 "is_name" ["thing"] (sp1 JF)) (F2:FN P w K mg base 3 "is_value_within" ["thing","most"] z0V):FN P w K mg base 4 "is_names" ["thing"] z2X:=by
 refine FN.o D sc74 fun f cdv A outer s H vs Q E hr h=>?_
 obtain ⟨d,kvs,rfl,hd,⟨hn,hall⟩,q⟩:=h
 obtain ⟨u1,m1,r1⟩:=G.made
 refine ⟨_,z8 (zJ (PW.pt (Jv (Za (qZ (zy ql rfl G.isinstance zI (z6 (pv 0) (z6 (J3 "dict" rfl G.dict QY) z7)))))
   (ZC (zm JD (zy z4c rfl G.len qv (z6 (pv 0) z7)) (ji rfl G.names) (zq _))))) qL zw)
  (zd (zl (zy (JX rfl) rfl G.all z5B (z6 (z1E (N:=["name","value"]) (nt:=2) (ix:=[]) (cl:=[]) rfl (Ze.plain (by trivial) (by trivial) rfl (by trivial) rfl) (pv 0)
   (fun _ _ _ _=>Jx (K:=K) (n:=2) rfl rfl (zr (zu (i:=0) ndnv rfl (Or.inl rfl)) (zr (zu (i:=1) ndnv rfl (Or.inl rfl)) qx)))
   (fun _ _ _ _=>z14)
   (fun _ _ _ _=>jm (zo F1 (hr.mono (by decide)) rfl (z6 (pv 0) z7)) (jB (zo F2 hr rfl (z6 (pv 1) (z6 (qb rfl m1 r1) z7)))))) z7)))),?_⟩
 try dsimp only [L2.cxOf,L2.Cx.nox]
 refine ⟨_,rfl,_,"dict",_,true,rfl,.dK hd,rfl,_,rfl,iteF ?_⟩
 refine ⟨_,rfl,d,kvs,rfl,hd,_,_,rfl,rfl,_,rfl,?_⟩
 rw [kj (show ¬((8:Int) < (kvs.length:Int)) by lia)]
 refine iteF ⟨_,rfl,d,kvs,rfl,hd,fun o l hl=>?_⟩
 refine Jl (Q:=fun x H1=>∃(p:Addr) (bs:List Bool),[x]=[V.ref p]∧SqL K H1 p (bs.map V.bl)∧Q (V.bl (bs.all id)) H1) (fun i ys σ H2=>(∃a b,σ=[a,b])∧ys=List.replicate i (V.bl true)∧H2 l=some (.lst ys)∧H2 d=some (.frz o (.dK kvs))∧∀b o,H b=some o→b≠d→H2 b=some o) ⟨⟨none,none,rfl⟩,rfl,zb,?_,?_⟩ (fun i ys σ H2 h=>h.2.2.2.1) ?_ ?_
 ·rw [zf (ze hd hl)];exact zb
 ·intro b o e hb
  rw [zf (ze e hl),zf hb];exact e
 ·rintro i p k v ys σ H2 hi ⟨⟨a,b,rfl⟩,rfl,hl2,hd2,kp⟩ hp
  obtain ⟨nm,ek,hz,h1,h2,h3⟩:=hall (k,v) (kK hi)
  have ek:k=Sum.inr nm:=ek
  subst ek
  have hil:=(ki.mp hi).1
  have npl:l≠p:=ze hl2 hp
  have npd:d≠p:=ze hd2 hp
  refine ⟨p,_,rfl,SqT.of zb,rfl,_,_,rfl,_,_,rfl,rfl,?_⟩
  refine z0S ⟨_,rfl,_,rfl,.str nm hz,_,rfl,?_⟩
  rw [show JF (kV (Sum.inr nm))=true from h1]
  refine iteT ⟨_,rfl,_,_,rfl,h2,?_⟩
  rw [h3]
  refine ⟨by rw [zf npl];exact hl2,by rw [List.length_replicate];exact qG (by lia),_,by lia,rfl,by lia,⟨_,_,rfl⟩,by rw [List.replicate_succ'],zb,?_,fun b o e hb=>?_⟩
  ·rw [zf (ze hd hl),zf npd];exact hd2
  ·rw [zf (ze e hl),zf (ze (kp _ _ e hb) hp)];exact kp _ _ e hb
 ·rintro ys σ H2 ⟨_,rfl,hl2,hd2,kp⟩
  have nld:l≠d:=(ze hd hl).symm
  refine ⟨l,List.replicate kvs.length true,rfl,SqL.of ?_,?_⟩
  ·rw [zf nld,hl2,List.map_replicate]
  ·have e:(List.replicate kvs.length true).all id=true:=by
    rw [List.all_eq_true]
    intro b hb
    rw [List.eq_of_mem_replicate hb]
    rfl
   rw [e]
   refine q _ fun b o e=>?_
   by_cases z:b=d
   ·subst z
    rw [hd] at e
    cases e
    exact zb
   ·rw [zf z];exact kp _ _ e z
def z5T:Sp:=fun vs H Q _=>∃d kvs,vs=[.ref d]∧H d=some (.dK kvs)∧JY kvs∧∀H',Same H H'→Q .non H'
theorem sc75:zi ["thing"] ["thing"] (zc (top 75)):=fsM
theorem z7o (D:zn K mg "check_names" (top 75)) (F1:FN P w K mg base 4 "is_names" ["thing"] z2X):FN P w K mg base 5 "check_names" ["thing"] z5T:=by
 refine FN.o D sc75 fun f cdv A outer s H vs Q E hr h=>?_
 obtain ⟨d,kvs,rfl,hd,hn,q⟩:=h
 refine ⟨_,zd (zJ (Za (qZ (zo F1 hr rfl (z6 (pv 0) z7)))) qL zw),?_⟩
 try dsimp only [L2.cxOf,L2.Cx.nox]
 exact ⟨_,rfl,d,kvs,rfl,hd,hn,fun H' s'=>⟨_,rfl,iteF (q H' s')⟩⟩
end
structure jg (K:kC) (C:Addr):Prop where
 cl:Cls K C
 held:j5 K C "held"
 known:j5 K C "known"
 said:j5 K C "said"
structure Mst where
 st:List V
 kn:List (Key × V)
 sd:List V
 deriving DecidableEq
structure qM (H:Hp) (C ho hl kd sl dx:Addr) (m:Mst):Prop where
 ins:H ho=some (.ins C dx [("held",.ref hl),("known",.ref kd),("said",.ref sl)])
 held:H hl=some (.lst m.st)
 known:H kd=some (.dK m.kn)
 said:H sl=some (.lst m.sd)
 ne:hl≠sl
inductive Res where
 | next | go | fault (k:Str) | value (v:V)
 deriving DecidableEq
noncomputable def resV:Res→List V
 | .next=>[.str "next",.non]
 | .go=>[.str "go",.non]
 | .fault k=>[.str "fault",.str k]
 | .value v=>[.str "value",v]
structure Cons (K:kC) (mg:Str→Option Value):Prop where
 next:∃a,mg "NEXT"=some (.ref a)∧KTup K a [.str "next",.non]
 go:∃a,mg "GO"=some (.ref a)∧KTup K a [.str "go",.non]
 unset:∃a,mg "UNSET"=some (.ref a)∧KTup K a [.str "fault",.str "Unset"]
 on:∃a,mg "ON"=some (.ref a)∧KTup K a [.str "on"]
abbrev Deed:=Str→V→Mst→Option (Res × Mst)
def qh (H H':Hp) (a b c:Addr):Prop:=∀x o,H x=some o→x≠a→x≠b→x≠c→H' x=some o
def zW (K:kC) (C:Addr) (g:Deed):Sp:=fun vs H Q _=>∃ho hl kd sl dx op arg m res m',vs=[.ref ho,.str op,arg]∧qM H C ho hl kd sl dx m∧g op arg m=some (res,m')∧
 ∀t H',SqT K H' t (resV res)→qM H' C ho hl kd sl dx m'→qh H H' hl kd sl→Q (.ref t) H'
theorem z7F {K:kC} {C:Addr} {g:Deed} (vs:List V) (H:Hp) (Q:VK) (E:XK) (h:zW K C g vs H Q E):vs.length=3:=by
 obtain ⟨_,_,_,_,_,_,_,_,_,_,rfl,_⟩:=h
 rfl
theorem qM.setHeld {H:Hp} {C ho hl kd sl dx:Addr} {m:Mst} (h:qM H C ho hl kd sl dx m) (xs:List V):qM (upd H hl (.lst xs)) C ho hl kd sl dx { m with st:=xs }:=
 ⟨by rw [zf (zA h.ins h.held nofun)];exact h.ins,zb,by rw [zf (zA h.known h.held nofun)];exact h.known,by rw [zf h.ne.symm];exact h.said,h.ne⟩
theorem qM.setSaid {H:Hp} {C ho hl kd sl dx:Addr} {m:Mst} (h:qM H C ho hl kd sl dx m) (xs:List V):qM (upd H sl (.lst xs)) C ho hl kd sl dx { m with sd:=xs }:=
 ⟨by rw [zf (zA h.ins h.said nofun)];exact h.ins,by rw [zf h.ne];exact h.held,by rw [zf (zA h.known h.said nofun)];exact h.known,zb,h.ne⟩
theorem qM.setKnown {H:Hp} {C ho hl kd sl dx:Addr} {m:Mst} (h:qM H C ho hl kd sl dx m) (kn:List (Key × V)):qM (upd H kd (.dK kn)) C ho hl kd sl dx { m with kn:=kn }:=
 ⟨by rw [zf (zA h.ins h.known nofun)];exact h.ins,by rw [zf (zA h.held h.known nofun)];exact h.held,zb,by rw [zf (zA h.said h.known nofun)];exact h.said,h.ne⟩
theorem qM.same {H H':Hp} {C ho hl kd sl dx:Addr} {m:Mst} (h:qM H C ho hl kd sl dx m) (s:Same H H'):qM H' C ho hl kd sl dx m:=⟨s _ _ h.ins,s _ _ h.held,s _ _ h.known,s _ _ h.said,h.ne⟩
theorem qh.refl {H:Hp} {a b c:Addr}:qh H H a b c:=fun _ _ e _ _ _=>e
theorem qh.trans {H H1 H2:Hp} {a b c:Addr} (x:qh H H1 a b c) (y:qh H1 H2 a b c):qh H H2 a b c:=fun z o e h1 h2 h3=>y z o (x z o e h1 h2 h3) h1 h2 h3
theorem qh.of {H H':Hp} {a b c:Addr} (s:Same H H'):qh H H' a b c:=fun z o e _ _ _=>s z o e
theorem qh.a {H:Hp} {a b c:Addr} {o:HO}:qh H (upd H a o) a b c:=fun z o e h1 _ _=>by rw [zf h1];exact e
theorem qh.b {H:Hp} {a b c:Addr} {o:HO}:qh H (upd H b o) a b c:=fun z o e _ h1 _=>by rw [zf h1];exact e
theorem qh.c {H:Hp} {a b c:Addr} {o:HO}:qh H (upd H c o) a b c:=fun z o e _ _ h1=>by rw [zf h1];exact e
theorem z6R {xs:List V} {v:V} (h:xs.getLast?=some v):xs=xs.dropLast++[v]:=by
 have hne:xs≠[]:=fun z=>by rw [z] at h;cases h
 rw [List.getLast?_eq_getLast hne] at h
 cases h
 exact (List.dropLast_concat_getLast hne).symm
theorem qX {xs:List V} {v:V} (h:xs.getLast?=some v):xs[xs.length - 1]?=some v:=by
 rw [←List.getLast?_eq_getElem?];exact h
noncomputable def Zi:V→Bool
 | .str z=>decide (z.length≤1000)
 | .non=>true
 | .bl _=>true
 | .int _=>true
 | _=>false
theorem Zh {x:V} (h:Zi x=true):Scal x:=by
 cases x with
 | str z=>exact .str z (z1z (kG h))
 | non=>exact .non
 | bl b=>exact .bl b
 | int i=>exact .int i
 | _=>cases h
noncomputable def qO (n:Nat):Bool:=decide (n≤1000)
noncomputable def z0s:Deed:=fun _ arg m=>if qO m.st.length=true then some (.next,{ m with st:=m.st++[arg] }) else none
noncomputable def J6:Deed:=fun _ arg m=>match arg with
 | .str nm=>(match valV m.kn (Sum.inr nm:Key) with
  | none=>some (.fault "Unset",m)
  | some v=>if qO m.st.length=true then some (.next,{ m with st:=m.st++[v] }) else none)
 | _=>none
noncomputable def ZN:Deed:=fun _ arg m=>match arg with
 | .str nm=>if qO m.st.length=true then some (.next,{ m with st:=m.st++[(valV m.kn (Sum.inr nm:Key)).getD .non] }) else none
 | _=>none
noncomputable def ZL:Deed:=fun _ arg m=>match arg with
 | .str nm=>(match m.st.getLast? with
  | some v=>if qO m.kn.length=true then some (.next,{ m with st:=m.st.dropLast,kn:=putK m.kn (Sum.inr nm) v }) else none
  | none=>none)
 | _=>none
noncomputable def Zd:Deed:=fun _ arg m=>match arg with
 | .str nm=>(match valV m.kn (Sum.inr nm:Key) with
  | none=>some (.fault "Unset",m)
  | some _=>some (.next,{ m with kn:=jF m.kn (Sum.inr nm) }))
 | _=>none
noncomputable def JO:Deed:=fun _ _ m=>match m.st.getLast? with
 | some v=>if qO m.sd.length=true then some (.next,{ m with st:=m.st.dropLast,sd:=m.sd++[v] }) else none
 | none=>none
noncomputable def gIf:Deed:=fun op _ m=>match m.st.getLast? with
 | some v=>if Zi v=true then some (if Q9 v=decide (op="iftrue") then .go else .next,{ m with st:=m.st.dropLast }) else none
 | none=>none
noncomputable def gOr:Deed:=fun op _ m=>match m.st.getLast? with
 | some v=>if Zi v=true then some (if Q9 v=decide (op="ortrue") then (.go,m) else (.next,{ m with st:=m.st.dropLast })) else none
 | none=>none
noncomputable def jx:Deed:=fun _ _ m=>match m.st.getLast? with
 | some v=>some (.value v,{ m with st:=m.st.dropLast })
 | none=>none
section
variable {C:Addr}
theorem j9 {n:Nat} (h:qO n=true):n < sizeLine:=qG (kG h)
theorem sc77:zi ["hold","op","arg"] ["hold","op","arg"] (zc (top 77)):=fsM
theorem z77 (D:zn K mg "do_push" (top 77)) (c:jg K C) (cs:Cons K mg):FN P w K mg base 1 "do_push" ["hold","op","arg"] (zW K C z0s):=by
 refine FN.o D sc77 fun f cdv A outer s H vs Q E hr h=>?_
 obtain ⟨ho,hl,kd,sl,dx,op,arg,m,res,m',rfl,hA,hg,q⟩:=h
 obtain ⟨na,mn,tn⟩:=cs.next
 refine ⟨_,z8 (zj (jj (zx (pv 0) rfl) (z6 (pv 2) z7))) (zd (zl (qb rfl mn (v:=.ref na) rfl))),?_⟩
 try dsimp only [L2.cxOf,L2.Cx.nox]
 unfold z0s at hg
 by_cases hz:qO m.st.length=true
 case neg=>rw [kD hz] at hg;cases hg
 rw [kE hz] at hg
 cases hg
 refine ⟨_,rfl,ho,C,dx,_,.ref hl,rfl,hA.ins,c.cl,c.held,rfl,.inl ⟨rfl,_,SqL.of hA.held⟩,_,rfl,hl,_,_,rfl,rfl,hA.held,j9 hz,?_⟩
 exact q na _ (tn.sq _) (hA.setHeld _) qh.a
theorem sc78:zi ["hold","op","arg"] ["hold","op","arg"] (zc (top 78)):=fsM
theorem z7e (D:zn K mg "do_load" (top 78)) (c:jg K C) (cs:Cons K mg):FN P w K mg base 1 "do_load" ["hold","op","arg"] (zW K C J6):=by
 refine FN.o D sc78 fun f cdv A outer s H vs Q E hr h=>?_
 obtain ⟨ho,hl,kd,sl,dx,op,arg,m,res,m',rfl,hA,hg,q⟩:=h
 have hu:=Qo hr
 obtain ⟨na,mn,tn⟩:=cs.next
 obtain ⟨ua,mu,tu⟩:=cs.unset
 refine ⟨_,z8 (zJ (z5W (z0b hu (pv 2) (zx (pv 0) rfl))) (zd (zl (qb rfl mu (v:=.ref ua) rfl))) zw)
  (z8 (zj (jj (zx (pv 0) rfl) (z6 (ZY hu (zx (pv 0) rfl) (pv 2) (fun _ _=>rfl)) z7))) (zd (zl (qb rfl mn (v:=.ref na) rfl)))),?_⟩
 try dsimp only [L2.cxOf,L2.Cx.nox]
 cases arg with
 | str nm=>
  unfold J6 at hg
  dsimp only at hg
  have hgt:DGet H kd (.str nm) (valV m.kn (Sum.inr nm:Key)):=DGet.k (k:=Sum.inr nm) hA.known
  refine ⟨_,rfl,_,rfl,ho,C,dx,_,.ref kd,rfl,hA.ins,c.cl,c.known,rfl,kd,_,rfl,hgt,_,rfl,?_⟩
  cases hv:valV m.kn (Sum.inr nm:Key) with
  | none=>
   rw [hv] at hg
   cases hg
   exact iteT (q ua H (tu.sq _) hA qh.refl)
  | some v=>
   rw [hv] at hg hgt
   dsimp only at hg
   by_cases hz:qO m.st.length=true
   case neg=>rw [kD hz] at hg;cases hg
   rw [kE hz] at hg
   cases hg
   refine iteF ⟨_,rfl,ho,C,dx,_,.ref hl,rfl,hA.ins,c.cl,c.held,rfl,.inl ⟨rfl,_,SqL.of hA.held⟩,_,rfl,ho,C,dx,_,.ref kd,rfl,hA.ins,c.cl,c.known,rfl,_,rfl,kd,v,rfl,hgt,hl,_,_,rfl,rfl,hA.held,j9 hz,?_⟩
   exact q na _ (tn.sq _) (hA.setHeld _) qh.a
 | _=>cases hg
theorem sc79:zi ["hold","op","arg"] ["hold","op","arg"] (zc (top 79)):=fsM
theorem z5d (D:zn K mg "do_quick" (top 79)) (c:jg K C) (cs:Cons K mg):FN P w K mg base 1 "do_quick" ["hold","op","arg"] (zW K C ZN):=by
 refine FN.o D sc79 fun f cdv A outer s H vs Q E hr h=>?_
 obtain ⟨ho,hl,kd,sl,dx,op,arg,m,res,m',rfl,hA,hg,q⟩:=h
 have hu:=Qo hr
 obtain ⟨na,mn,tn⟩:=cs.next
 refine ⟨_,z8 (zj (jj (zx (pv 0) rfl) (z6 (Qy hu (zx (pv 0) rfl) (pv 2) ⟨rfl,rfl,rfl,rfl⟩) z7))) (zd (zl (qb rfl mn (v:=.ref na) rfl))),?_⟩
 try dsimp only [L2.cxOf,L2.Cx.nox]
 cases arg with
 | str nm=>
  unfold ZN at hg
  dsimp only at hg
  have hgt:DGet H kd (.str nm) (valV m.kn (Sum.inr nm:Key)):=DGet.k (k:=Sum.inr nm) hA.known
  by_cases hz:qO m.st.length=true
  case neg=>rw [kD hz] at hg;cases hg
  rw [kE hz] at hg
  cases hg
  refine ⟨_,rfl,ho,C,dx,_,.ref hl,rfl,hA.ins,c.cl,c.held,rfl,.inl ⟨rfl,_,SqL.of hA.held⟩,_,rfl,ho,C,dx,_,.ref kd,rfl,hA.ins,c.cl,c.known,rfl,kd,rfl,.inl ⟨_,.inl hA.known⟩,_,rfl,_,hgt,hl,_,_,rfl,rfl,hA.held,j9 hz,?_⟩
  exact q na _ (tn.sq _) (hA.setHeld _) qh.a
 | _=>cases hg
theorem sc80:zi ["hold","op","arg"] ["hold","op","arg"] (zc (top 80)):=fsM
theorem z5a (D:zn K mg "do_store" (top 80)) (c:jg K C) (cs:Cons K mg):FN P w K mg base 1 "do_store" ["hold","op","arg"] (zW K C ZL):=by
 refine FN.o D sc80 fun f cdv A outer s H vs Q E hr h=>?_
 obtain ⟨ho,hl,kd,sl,dx,op,arg,m,res,m',rfl,hA,hg,q⟩:=h
 have hu:=Qo hr
 obtain ⟨na,mn,tn⟩:=cs.next
 refine ⟨_,z8 (z16 hu (zx (pv 0) rfl) (pv 2) (jA (zx (pv 0) rfl)) rfl) (zd (zl (qb rfl mn (v:=.ref na) rfl))),?_⟩
 try dsimp only [L2.cxOf,L2.Cx.nox]
 cases arg with
 | str nm=>
  unfold ZL at hg
  dsimp only at hg
  cases hv:m.st.getLast? with
  | none=>rw [hv] at hg;cases hg
  | some v=>
   rw [hv] at hg
   dsimp only at hg
   by_cases hz:qO m.kn.length=true
   case neg=>rw [kD hz] at hg;cases hg
   rw [kE hz] at hg
   cases hg
   have h1:=hA.setHeld m.st.dropLast
   refine ⟨_,rfl,ho,C,dx,_,.ref hl,rfl,hA.ins,c.cl,c.held,rfl,.inl ⟨rfl,_,SqL.of hA.held⟩,hl,_,_,rfl,rfl,hA.held,qX hv,?_⟩
   refine ⟨_,rfl,ho,C,dx,_,.ref kd,rfl,h1.ins,c.cl,c.known,rfl,_,rfl,kd,_,rfl,DPut.k (k:=Sum.inr nm) h1.known (j9 hz),?_⟩
   exact q na _ (tn.sq _) (h1.setKnown _) (qh.a.trans qh.b)
 | _=>cases hg
theorem sc81:zi ["hold","op","arg"] ["hold","op","arg"] (zc (top 81)):=fsM
theorem z5o (D:zn K mg "do_clear" (top 81)) (c:jg K C) (cs:Cons K mg):FN P w K mg base 1 "do_clear" ["hold","op","arg"] (zW K C Zd):=by
 refine FN.o D sc81 fun f cdv A outer s H vs Q E hr h=>?_
 obtain ⟨ho,hl,kd,sl,dx,op,arg,m,res,m',rfl,hA,hg,q⟩:=h
 have hu:=Qo hr
 obtain ⟨na,mn,tn⟩:=cs.next
 obtain ⟨ua,mu,tu⟩:=cs.unset
 refine ⟨_,z8 (zJ (z5W (z0b hu (pv 2) (zx (pv 0) rfl))) (zd (zl (qb rfl mu (v:=.ref ua) rfl))) zw)
  (z8 (zj (z4I (zx (pv 0) rfl) (pv 2) ⟨rfl,rfl,rfl,rfl⟩)) (zd (zl (qb rfl mn (v:=.ref na) rfl)))),?_⟩
 try dsimp only [L2.cxOf,L2.Cx.nox]
 cases arg with
 | str nm=>
  unfold Zd at hg
  dsimp only at hg
  have hgt:DGet H kd (.str nm) (valV m.kn (Sum.inr nm:Key)):=DGet.k (k:=Sum.inr nm) hA.known
  refine ⟨_,rfl,_,rfl,ho,C,dx,_,.ref kd,rfl,hA.ins,c.cl,c.known,rfl,kd,_,rfl,hgt,_,rfl,?_⟩
  cases hv:valV m.kn (Sum.inr nm:Key) with
  | none=>
   rw [hv] at hg
   cases hg
   exact iteT (q ua H (tu.sq _) hA qh.refl)
  | some v=>
   rw [hv] at hg
   cases hg
   refine iteF ⟨_,rfl,ho,C,dx,_,.ref kd,rfl,hA.ins,c.cl,c.known,rfl,kd,rfl,.inl ⟨_,.inl hA.known⟩,_,rfl,_,Sum.inr nm,v,hA.known,rfl,hv,?_⟩
   exact q na _ (tn.sq _) (hA.setKnown _) qh.b
 | _=>cases hg
theorem sc88:zi ["hold","op","arg"] ["hold","op","arg"] (zc (top 88)):=fsM
theorem z71 (D:zn K mg "do_tell" (top 88)) (c:jg K C) (cs:Cons K mg):FN P w K mg base 1 "do_tell" ["hold","op","arg"] (zW K C JO):=by
 refine FN.o D sc88 fun f cdv A outer s H vs Q E hr h=>?_
 obtain ⟨ho,hl,kd,sl,dx,op,arg,m,res,m',rfl,hA,hg,q⟩:=h
 obtain ⟨na,mn,tn⟩:=cs.next
 refine ⟨_,z8 (zj (jj (zx (pv 0) rfl) (z6 (jA (zx (pv 0) rfl)) z7))) (zd (zl (qb rfl mn (v:=.ref na) rfl))),?_⟩
 try dsimp only [L2.cxOf,L2.Cx.nox]
 unfold JO at hg
 cases hv:m.st.getLast? with
 | none=>rw [hv] at hg;cases hg
 | some v=>
  rw [hv] at hg
  dsimp only at hg
  by_cases hz:qO m.sd.length=true
  case neg=>rw [kD hz] at hg;cases hg
  rw [kE hz] at hg
  cases hg
  have h1:=hA.setHeld m.st.dropLast
  refine ⟨_,rfl,ho,C,dx,_,.ref sl,rfl,hA.ins,c.cl,c.said,rfl,.inl ⟨rfl,_,SqL.of hA.said⟩,_,rfl,ho,C,dx,_,.ref hl,rfl,hA.ins,c.cl,c.held,rfl,.inl ⟨rfl,_,SqL.of hA.held⟩,hl,_,_,rfl,rfl,hA.held,qX hv,sl,_,_,rfl,rfl,h1.said,j9 hz,?_⟩
  exact q na _ (tn.sq _) (h1.setSaid _) (qh.a.trans qh.c)
theorem sc90:zi ["hold","op","arg"] ["hold","op","arg"] (zc (top 90)):=fsM
theorem Zq {a b:Str}:decide (V.str a=V.str b)=decide (a=b):=by
 by_cases h:a=b
 ·rw [h];simp
 ·rw [kj h,kj (fun z=>h (by injection z))]
theorem z9W (D:zn K mg "do_if" (top 90)) (c:jg K C) (cs:Cons K mg) (FT:FN P w K mg base 1 "is_true" ["value"] z1s):FN P w K mg base 2 "do_if" ["hold","op","arg"] (zW K C gIf):=by
 refine FN.o D sc90 fun f cdv A outer s H vs Q E hr h=>?_
 obtain ⟨ho,hl,kd,sl,dx,op,arg,m,res,m',rfl,hA,hg,q⟩:=h
 obtain ⟨na,mn,tn⟩:=cs.next
 obtain ⟨ga,mgo,tg⟩:=cs.go
 refine ⟨_,zd (zl (jh (zm qJ (zo FT hr rfl (z6 (jA (zx (pv 0) rfl)) z7)) (qI qJ (pv 1) zk (zq _)) (zq _)) (qb rfl mgo (v:=.ref ga) rfl) (qb rfl mn (v:=.ref na) rfl))),?_⟩
 try dsimp only [L2.cxOf,L2.Cx.nox]
 unfold gIf at hg
 cases hv:m.st.getLast? with
 | none=>rw [hv] at hg;cases hg
 | some v=>
  rw [hv] at hg
  dsimp only at hg
  by_cases hz:Zi v=true
  case neg=>rw [kD hz] at hg;cases hg
  rw [kE hz] at hg
  cases hg
  have h1:=hA.setHeld m.st.dropLast
  refine ⟨_,rfl,ho,C,dx,_,.ref hl,rfl,hA.ins,c.cl,c.held,rfl,.inl ⟨rfl,_,SqL.of hA.held⟩,hl,_,_,rfl,rfl,hA.held,qX hv,v,rfl,Zh hz,_,rfl,rfl,rfl,_,rfl,?_⟩
  rw [Zq,z0A]
  refine ite2 (fun e=>?_) (fun e=>?_)
  ·rw [kE (eq_of_beq e)] at q
   exact q ga _ (tg.sq _) h1 qh.a
  ·rw [kD (fun z=>e (beq_iff_eq.mpr z))] at q
   exact q na _ (tn.sq _) h1 qh.a
theorem sc91:zi ["hold","op","arg"] ["hold","op","arg"] (zc (top 91)):=fsM
theorem z9S (D:zn K mg "do_or" (top 91)) (c:jg K C) (cs:Cons K mg) (FT:FN P w K mg base 1 "is_true" ["value"] z1s):FN P w K mg base 2 "do_or" ["hold","op","arg"] (zW K C gOr):=by
 refine FN.o D sc91 fun f cdv A outer s H vs Q E hr h=>?_
 obtain ⟨ho,hl,kd,sl,dx,op,arg,m,res,m',rfl,hA,hg,q⟩:=h
 obtain ⟨na,mn,tn⟩:=cs.next
 obtain ⟨ga,mgo,tg⟩:=cs.go
 refine ⟨_,z8 (zJ (zm qJ (zo FT hr rfl (z6 (qc zT (zx (pv 0) rfl) (Z7 qY zg) (fun _ _=>rfl)) z7)) (qI qJ (pv 1) zk (zq _)) (zq _)) (zd (zl (qb rfl mgo (v:=.ref ga) rfl))) zw)
  (z8 (zj (jA (zx (pv 0) rfl))) (zd (zl (qb rfl mn (v:=.ref na) rfl)))),?_⟩
 try dsimp only [L2.cxOf,L2.Cx.nox]
 unfold gOr at hg
 cases hv:m.st.getLast? with
 | none=>rw [hv] at hg;cases hg
 | some v=>
  rw [hv] at hg
  dsimp only at hg
  by_cases hz:Zi v=true
  case neg=>rw [kD hz] at hg;cases hg
  rw [kE hz] at hg
  have hat:atI m.st (-1)=some v:=by rw [z6R hv];exact QC _ _
  refine ⟨_,rfl,ho,C,dx,_,.ref hl,rfl,hA.ins,c.cl,c.held,rfl,1,rfl,hl,_,_,v,rfl,rfl,SqL.of hA.held,hat,v,rfl,Zh hz,_,rfl,rfl,rfl,_,rfl,?_⟩
  rw [Zq,z0A]
  refine ite2 (fun e=>?_) (fun e=>?_)
  ·rw [kE (eq_of_beq e)] at hg
   cases hg
   exact q ga _ (tg.sq _) hA qh.refl
  ·rw [kD (fun z=>e (beq_iff_eq.mpr z))] at hg
   cases hg
   refine ⟨_,rfl,ho,C,dx,_,.ref hl,rfl,hA.ins,c.cl,c.held,rfl,.inl ⟨rfl,_,SqL.of hA.held⟩,hl,_,_,rfl,rfl,hA.held,qX hv,?_⟩
   exact q na _ (tn.sq _) (hA.setHeld _) qh.a
theorem sc92:zi ["hold","op","arg"] ["hold","op","arg"] (zc (top 92)):=fsM
theorem z3J (D:zn K mg "do_return" (top 92)) (c:jg K C):FN P w K mg base 1 "do_return" ["hold","op","arg"] (zW K C jx):=by
 refine FN.o D sc92 fun f cdv A outer s H vs Q E hr h=>?_
 obtain ⟨ho,hl,kd,sl,dx,op,arg,m,res,m',rfl,hA,hg,q⟩:=h
 refine ⟨_,zd (zl (zZ (z6 zk (z6 (jA (zx (pv 0) rfl)) z7)))),?_⟩
 try dsimp only [L2.cxOf,L2.Cx.nox]
 unfold jx at hg
 cases hv:m.st.getLast? with
 | none=>rw [hv] at hg;cases hg
 | some v=>
  rw [hv] at hg
  cases hg
  have h1:=hA.setHeld m.st.dropLast
  refine ⟨_,rfl,ho,C,dx,_,.ref hl,rfl,hA.ins,c.cl,c.held,rfl,.inl ⟨rfl,_,SqL.of hA.held⟩,hl,_,_,rfl,rfl,hA.held,qX hv,by show 2≤sizeLine;decide,fun p hp=>?_⟩
  have sp:=zh hp (.tup [.str "value",v])
  exact q p _ (SqT.of zb) (h1.same sp) (qh.a.trans (qh.of sp))
noncomputable def z2v:Deed:=fun _ _ m=>some (.go,m)
theorem sc89:zi ["hold","op","arg"] ["hold","op","arg"] (zc (top 89)):=fsM
theorem z7h (D:zn K mg "do_jump" (top 89)) (cs:Cons K mg):FN P w K mg base 1 "do_jump" ["hold","op","arg"] (zW K C z2v):=by
 refine FN.o D sc89 fun f cdv A outer s H vs Q E hr h=>?_
 obtain ⟨ho,hl,kd,sl,dx,op,arg,m,res,m',rfl,hA,hg,q⟩:=h
 obtain ⟨ga,mgo,tg⟩:=cs.go
 cases hg
 exact ⟨_,zd (zl (qb rfl mgo (v:=.ref ga) rfl)),q ga _ (tg.sq _) hA qh.refl⟩
end
end My
namespace L2
open PySem PySem.Spec PyProof.Rows
section
variable {X:Cx}
theorem PSs.imp {st:List Stmt} {t t':TS} (h:PSs X st t) (hi:∀D σ H,t' D σ H→t D σ H):PSs X st t':=fun pins s σ H D I q=>h pins s σ H D I (hi D σ H q)
noncomputable def jy:V→PyData
 | .int i=>.int i
 | .str x=>.str x
 | .bl b=>.bool b
 | _=>.none
theorem z2A {h:Heap} {x:V} {u:Value} (f:jW x=true) (r:RelV x u):Reads h u (jy x) []:=by
 cases x with
 | non=>cases r;exact .none
 | bl b=>cases r;exact .bool b
 | int i=>obtain ⟨t,rfl⟩:=r;exact .int i t
 | str z=>obtain ⟨t,rfl⟩:=r;exact .str z t
 | _=>cases f
theorem z1k (x:V):(jy x).hasDict=false∧(jy x).depth=0:=by
 cases x <;> exact ⟨by simp only [jy,PyData.hasDict],by simp only [jy,PyData.depth]⟩
theorem Qg:∀xs:List V,PyData.hasDictAll (xs.map jy)=false∧PyData.depthAll (xs.map jy)=0
 | []=>⟨by simp only [List.map_nil,PyData.hasDictAll],by simp only [List.map_nil,PyData.depthAll]⟩
 | x :: xs=>by
  obtain ⟨a,b⟩:=z1k x
  obtain ⟨c,d⟩:=Qg xs
  exact ⟨by simp only [kY,PyData.hasDictAll,a,c,Bool.or_self],by simp only [kY,PyData.depthAll,b,d];rfl⟩
end
end L2
namespace My
open PySem PySem.Spec PyProof.Rows L2
variable {P:Program} {w:World} {K:kC} {mg:Str→Option Value} {base:Heap}
theorem z5C:bootBuiltins "abs"=some (.builtin "abs"):=by trivial
theorem z4M {X:Cx}:OpR X (binaryOp .FloorDiv) (rI (fun _ j=>j≠0∧j.natAbs.log2 < 9000) fun i j=>.int (i.fdiv j)):=opI fun _ _ _ _ _ _ _ hc q=>floordiv_int hc.1 q (.inl (PyProof.noPylong_of_log2 hc.2))
noncomputable def big (i:Int):Bool:=decide (1000000000000000000 < i.natAbs)
theorem z3u {j:Int} (h:big j=false):j.natAbs.log2 < 9000:=by
 have h1:¬1000000000000000000 < j.natAbs:=of_decide_eq_false h
 by_cases z:j.natAbs=0
 ·rw [z];decide
 ·have h2:=(Nat.log2_lt z (k:=64)).mpr (by lia)
  lia
noncomputable def reck (op:Str) (i j:Int):Option Int:=
 if op="add" then some (i+j) else if op="sub" then some (i - j) else if op="mul" then some (i * j) else if op="div" then (if j=0 then none else some (i.fdiv j)) else if op="rest" then (if j=0 then none else some (i.fmod j)) else none
noncomputable def z4y (x y:V):Bool:=isB x == isB y&&decide (x=y)
noncomputable def Zm (op:Str) (x y:V):Option (V × V):=
 if op="same" then some (.non,.bl (z4y x y)) else match x,y with
 | .int i,.int j=>if big i=true then none else if big j=true then none else if (op="div"∨op="rest")∧j=0 then some (.str "Zero",.non) else if op="less" then some (.non,.bl (decide (i < j)))
  else (match reck op i j with
   | some k=>if big k=true then some (.str "Big",.non) else some (.non,.int k)
   | none=>none)
 | _,_=>some (.str "Type",.non)
theorem Je {op:Str} {x y:V} (h0:op≠"same") (h:Qn x=false∨Qn y=false):Zm op x y=some (.str "Type",.non):=by
 unfold Zm
 rw [kD h0]
 cases x with
 | int i=>
  cases y with
  | int j=>rcases h with h | h <;> cases h
  | _=>rfl
 | _=>rfl
noncomputable def z0j (op:Str) (x:V):Option (V × V):=
 if op="not" then some (.non,.bl (!Q9 x)) else match x with
 | .int i=>some (.non,.int (-i))
 | _=>some (.str "Type",.non)
structure TabR (w:World) (K:kC) (mg:Str→Option Value):Prop where
 tab:∃d f1 f2 f3 f4 f5,mg "RECKONINGS"=some (.ref d)∧KTab w.params K d [("add",.ref f1),("sub",.ref f2),("mul",.ref f3),("div",.ref f4),("rest",.ref f5)]∧
  mg "sum_of"=some (.ref f1)∧mg "difference_of"=some (.ref f2)∧mg "product_of"=some (.ref f3)∧mg "quotient_of"=some (.ref f4)∧mg "rest_of"=some (.ref f5)
def spI2 (c:Int→Int→Prop) (g:Int→Int→Int):Sp:=fun vs H Q _=>∃i j,vs=[.int i,.int j]∧c i j∧Q (.int (g i j)) H
theorem ZB {c:Int→Int→Prop} {g:Int→Int→Int} (vs:List V) (H:Hp) (Q:VK) (E:XK) (h:spI2 c g vs H Q E):vs.length=2:=by
 obtain ⟨i,j,rfl,_⟩:=h
 rfl
abbrev Sm (i j:Int):Prop:=big i=false∧big j=false
section
theorem sc59:zi ["first","second"] ["first","second"] (zc (top 59)):=fsM
theorem z8M (D:zn K mg "sum_of" (top 59)):FN P w K mg base 1 "sum_of" ["first","second"] (spI2 Sm (· +·)):=by
 refine FN.of D sc59 (fun _ _ _ _ _ _=>zU2 fun _ _=>rfl) ZB (fun f cdv A outer s H vs Q E hr h=>?_)
 obtain ⟨i,j,rfl,hc,q⟩:=h
 exact ⟨_,zd (zl (zO je (pv 0) (pv 1))),_,rfl,_,rfl,i,j,rfl,rfl,q⟩
theorem sc60:zi ["first","second"] ["first","second"] (zc (top 60)):=fsM
theorem z7l (D:zn K mg "difference_of" (top 60)):FN P w K mg base 1 "difference_of" ["first","second"] (spI2 Sm (· - ·)):=by
 refine FN.of D sc60 (fun _ _ _ _ _ _=>zU2 fun _ _=>rfl) ZB (fun f cdv A outer s H vs Q E hr h=>?_)
 obtain ⟨i,j,rfl,hc,q⟩:=h
 exact ⟨_,zd (zl (zO j4 (pv 0) (pv 1))),_,rfl,_,rfl,i,j,rfl,rfl,q⟩
theorem sc61:zi ["first","second"] ["first","second"] (zc (top 61)):=fsM
theorem z34 {i j:Int} (h:big i=false):CMul i j:=by
 have h1:¬1000000000000000000 < i.natAbs:=of_decide_eq_false h
 exact .inl ⟨by lia,by lia⟩
theorem z78 (D:zn K mg "product_of" (top 61)):FN P w K mg base 1 "product_of" ["first","second"] (spI2 Sm (· * ·)):=by
 refine FN.of D sc61 (fun _ _ _ _ _ _=>zU2 fun _ _=>rfl) ZB (fun f cdv A outer s H vs Q E hr h=>?_)
 obtain ⟨i,j,rfl,hc,q⟩:=h
 exact ⟨_,zd (zl (zO z0e (pv 0) (pv 1))),_,rfl,_,rfl,i,j,rfl,rfl,z34 hc.1,q⟩
theorem sc62:zi ["first","second"] ["first","second"] (zc (top 62)):=fsM
theorem z76 (D:zn K mg "quotient_of" (top 62)):FN P w K mg base 1 "quotient_of" ["first","second"] (spI2 (fun i j=>Sm i j∧j≠0) Int.fdiv):=by
 refine FN.of D sc62 (fun _ _ _ _ _ _=>zU2 fun _ _=>rfl) ZB (fun f cdv A outer s H vs Q E hr h=>?_)
 obtain ⟨i,j,rfl,hc,q⟩:=h
 exact ⟨_,zd (zl (zO z4M (pv 0) (pv 1))),_,rfl,_,rfl,i,j,rfl,rfl,⟨hc.2,z3u hc.1.2⟩,q⟩
theorem sc63:zi ["first","second"] ["first","second"] (zc (top 63)):=fsM
theorem z75 (D:zn K mg "rest_of" (top 63)):FN P w K mg base 1 "rest_of" ["first","second"] (spI2 (fun i j=>Sm i j∧j≠0) Int.fmod):=by
 refine FN.of D sc63 (fun _ _ _ _ _ _=>zU2 fun _ _=>rfl) ZB (fun f cdv A outer s H vs Q E hr h=>?_)
 obtain ⟨i,j,rfl,hc,q⟩:=h
 exact ⟨_,zd (zl (zO z6I (pv 0) (pv 1))),_,rfl,_,rfl,i,j,rfl,rfl,hc.2,q⟩
def z5O:Sp:=fun vs H Q _=>∃x y,vs=[x,y]∧Scal x∧Scal y∧Q (.bl (z4y x y)) H
theorem sc58:zi ["first","second"] ["first","second"] (zc (top 58)):=fsM
theorem z38 {x y:V} (hx:Scal x) (hy:Scal y) (h:isB x=isB y):scal x y=true:=by
 cases hx <;> cases hy <;> first | rfl | (cases h)
theorem z74 (D:zn K mg "are_same" (top 58)) (G:Glo mg):FN P w K mg base 1 "are_same" ["first","second"] z5O:=by
 refine FN.o D sc58 fun f cdv A outer s H vs Q E hr h=>?_
 obtain ⟨x,y,rfl,hx,hy,q⟩:=h
 refine ⟨_,zd (zl (jm (qI qJ (zy ql rfl G.isinstance zI (z6 (pv 0) (z6 (J3 "bool" rfl G.bool jX) z7))) (zy ql rfl G.isinstance zI (z6 (pv 1) (z6 (J3 "bool" rfl G.bool jX) z7))) (zq _))
  (jB (qI qJ (pv 0) (pv 1) (zq _))))),?_⟩
 try dsimp only [L2.cxOf,L2.Cx.nox]
 obtain ⟨t1,ty1,k1⟩:=ZK (K:=K) (H:=H) hx
 obtain ⟨t2,ty2,k2⟩:=ZK (K:=K) (H:=H) hy
 refine ⟨_,rfl,_,"bool",t1,_,rfl,ty1,k1,_,rfl,_,"bool",t2,_,rfl,ty2,k2,rfl,isB x == isB y,congrArg V.bl z0A,?_⟩
 unfold z4y at q
 cases e:isB x == isB y with
 | true=>
  rw [e,Bool.true_and] at q
  exact iteT ⟨_,rfl,_,rfl,z38 hx hy (eq_of_beq e),q⟩
 | false=>
  rw [e,Bool.false_and] at q
  exact iteF q
def z2Y:Sp:=fun vs H Q _=>∃op x y r1 r2,vs=[.str op,x,y]∧Scal x∧Scal y∧Zm op x y=some (r1,r2)∧∀t H',Same H H'→H' t=some (.tup [r1,r2])→Q (.ref t) H'
theorem sc65:zi ["op","first","second","reckon","value"] ["op","first","second"] (zc (top 65)):=fsM
theorem z7B {k:Int}:decide ((1000000000000000000:Int) < (if k < 0 then -k else k))=big k:=by
 unfold big
 by_cases h:k < 0
 ·rw [kE h]
  by_cases z:(1000000000000000000:Int) < -k
  ·rw [kl z,kl (by lia)]
  ·rw [kj z,kj (by lia)]
 ·rw [kD h]
  by_cases z:(1000000000000000000:Int) < k
  ·rw [kl z,kl (by lia)]
  ·rw [kj z,kj (by lia)]
noncomputable def st66 (k:Nat):Stmt:=(zK (top 65)).getD k (.Pass ⟨0,0,0,0⟩)
noncomputable abbrev N66:List Str:=["op","first","second","reckon","value"]
noncomputable def z61 (op:Str) (i j:Int):Option (V × V):=if op="less" then some (.non,.bl (decide (i < j))) else (match reck op i j with
 | some k=>if big k=true then some (.str "Big",.non) else some (.non,.int k)
 | none=>none)
def T66:TS:=fun D σ H=>∃(op:Str) (i j:Int) (r1 r2:V),σ=[some (.str op),some (.int i),some (.int j),none,none]∧Sm i j∧z61 op i j=some (r1,r2)∧∀t H',Same H H'→H' t=some (.tup [r1,r2])→D.rt (.ref t) H'
theorem z6z {K:kC} {mg:Str→Option Value} {f1 f2 f3 f4 f5:Addr} {op:Str} {i j k:Int} (hs:Sm i j) (h:reck op i j=some k) (m1:mg "sum_of"=some (.ref f1)) (m2:mg "difference_of"=some (.ref f2)) (m3:mg "product_of"=some (.ref f3)) (m4:mg "quotient_of"=some (.ref f4)) (m5:mg "rest_of"=some (.ref f5))
  (F1:FN P w K mg base 1 "sum_of" ["first","second"] (spI2 Sm (· +·))) (F2:FN P w K mg base 1 "difference_of" ["first","second"] (spI2 Sm (· - ·))) (F3:FN P w K mg base 1 "product_of" ["first","second"] (spI2 Sm (· * ·)))
  (F4:FN P w K mg base 1 "quotient_of" ["first","second"] (spI2 (fun i j=>Sm i j∧j≠0) Int.fdiv)) (F5:FN P w K mg base 1 "rest_of" ["first","second"] (spI2 (fun i j=>Sm i j∧j≠0) Int.fmod)):
  ∃(c:Int→Int→Prop) (g:Int→Int→Int) (name:Str) (fa:Addr),FN P w K mg base 1 name ["first","second"] (spI2 c g)∧mg name=some (.ref fa)∧([("add",.ref f1),("sub",.ref f2),("mul",.ref f3),("div",.ref f4),("rest",.ref f5)]:List (Str × V)).lookup op=some (.ref fa)∧c i j∧g i j=k:=by
 unfold reck at h
 by_cases h1:op="add"
 ·rw [kE h1] at h;exact ⟨_,_,_,_,F1,m1,by rw [h1];rfl,hs,kF h⟩
 rw [kD h1] at h
 by_cases h1:op="sub"
 ·rw [kE h1] at h;exact ⟨_,_,_,_,F2,m2,by rw [h1];rfl,hs,kF h⟩
 rw [kD h1] at h
 by_cases h1:op="mul"
 ·rw [kE h1] at h;exact ⟨_,_,_,_,F3,m3,by rw [h1];rfl,hs,kF h⟩
 rw [kD h1] at h
 by_cases h1:op="div"
 ·rw [kE h1] at h
  by_cases hj:j=0
  ·rw [kE hj] at h;cases h
  ·rw [kD hj] at h;exact ⟨_,_,_,_,F4,m4,by rw [h1];rfl,⟨hs,hj⟩,kF h⟩
 rw [kD h1] at h
 by_cases h1:op="rest"
 ·rw [kE h1] at h
  by_cases hj:j=0
  ·rw [kE hj] at h;cases h
  ·rw [kD hj] at h;exact ⟨_,_,_,_,F5,m5,by rw [h1];rfl,⟨hs,hj⟩,kF h⟩
 rw [kD h1] at h
 cases h
theorem z8e {f:Addr} {cdv:Value} {A:Around} {outer:List Env} {s:Shared} {H0:Hp} {E:XK} (hr:Room 1 (A.deeper (envOfC "made_of_two" (zc (top 65)) s.heap.objs.size f cdv))) (G:Glo mg) (T:TabR w K mg)
  (F1:FN P w K mg base 1 "sum_of" ["first","second"] (spI2 Sm (· +·))) (F2:FN P w K mg base 1 "difference_of" ["first","second"] (spI2 Sm (· - ·))) (F3:FN P w K mg base 1 "product_of" ["first","second"] (spI2 Sm (· * ·)))
  (F4:FN P w K mg base 1 "quotient_of" ["first","second"] (spI2 (fun i j=>Sm i j∧j≠0) Int.fdiv)) (F5:FN P w K mg base 1 "rest_of" ["first","second"] (spI2 (fun i j=>Sm i j∧j≠0) Int.fmod)):
  PSs (cxOf CX0 P w K mg base N66 "made_of_two" (zc (top 65)) f cdv A outer s H0 E).nox [st66 3,st66 4,st66 5,st66 6,st66 7] T66:=by
 obtain ⟨d,f1,f2,f3,f4,f5,md,td,m1,m2,m3,m4,m5⟩:=T.tab
 refine PSs.imp (z8 (zJ (zm qJ (pv 0) zk (zq _)) (zd (zl (zZ (z6 qm (z6 (qI J4 (pv 1) (pv 2) (zq _)) z7))))) zw)
  (z8 (zG (i:=3) sc65.nd rfl (Or.inl rfl) (Jy td rfl md (pv 0) (fun _ _=>rfl)))
  (z8 (zG (i:=4) sc65.nd rfl (Or.inl rfl) (JA (pv 3) (z6 (pv 1) (z6 (pv 2) z7))))
  (z8 (zJ (zm JD (zy z5y rfl G.abs z5C (z6 (pv 4) z7)) (ji rfl G.made) (zq _)) (zd (zl (zZ (z6 zk (z6 qm z7))))) zw)
  (zd (zl (zZ (z6 qm (z6 (pv 4) z7))))))))) ?_
 rintro D σ H ⟨op,i,j,r1,r2,rfl,hs,hm,q⟩
 unfold z61 at hm
 refine ⟨_,rfl,rfl,decide (op="less"),congrArg V.bl Zq,?_⟩
 by_cases h0:op="less"
 ·rw [kE h0] at hm
  cases hm
  rw [kl h0]
  exact iteT ⟨_,rfl,_,rfl,_,_,rfl,rfl,by show 2≤sizeLine;decide,fun t ht=>q t _ (zh ht _) zb⟩
 rw [kD h0] at hm
 rw [kj h0]
 refine iteF ?_
 cases hk:reck op i j with
 | none=>rw [hk] at hm;cases hm
 | some k=>
  rw [hk] at hm
  dsimp only at hm
  obtain ⟨c,g,name,fa,⟨f',fd,a',b',c',d'⟩,e1,e2,e3,e4⟩:=z6z (P:=P) (w:=w) (base:=base) hs hk m1 m2 m3 m4 m5 F1 F2 F3 F4 F5
  rw [a'] at e1
  cases e1
  subst e4
  refine ⟨_,rfl,op,_,rfl,e2,fa,fd,_,_,1,rfl,b',d',hr,c',_,rfl,_,rfl,i,j,rfl,e3,?_⟩
  refine ⟨_,rfl,_,rfl,_,_,rfl,rfl,big (g i j),congrArg V.bl z7B,?_⟩
  cases b:big (g i j) with
  | true=>
   rw [b,kE rfl] at hm
   cases hm
   exact iteT ⟨by show 2≤sizeLine;decide,fun t ht=>q t _ (zh ht _) zb⟩
  | false=>
   rw [b,kD ke] at hm
   cases hm
   exact iteF ⟨_,rfl,by show 2≤sizeLine;decide,fun t ht=>q t _ (zh ht _) zb⟩
theorem z5g (D:zn K mg "made_of_two" (top 65)) (FN1:FN P w K mg base 1 "is_number" ["thing"] (sp1 Qn)) (FSm:FN P w K mg base 1 "are_same" ["first","second"] z5O) (G:Glo mg) (T:TabR w K mg)
  (F1:FN P w K mg base 1 "sum_of" ["first","second"] (spI2 Sm (· +·))) (F2:FN P w K mg base 1 "difference_of" ["first","second"] (spI2 Sm (· - ·))) (F3:FN P w K mg base 1 "product_of" ["first","second"] (spI2 Sm (· * ·)))
  (F4:FN P w K mg base 1 "quotient_of" ["first","second"] (spI2 (fun i j=>Sm i j∧j≠0) Int.fdiv)) (F5:FN P w K mg base 1 "rest_of" ["first","second"] (spI2 (fun i j=>Sm i j∧j≠0) Int.fmod)):FN P w K mg base 2 "made_of_two" ["op","first","second"] z2Y:=by
 refine FN.o D sc65 fun f cdv A outer s H vs Q E hr h=>?_
 obtain ⟨op,x,y,r1,r2,rfl,hx,hy,hm,q⟩:=h
 refine ⟨_,z8 (zJ (zm qJ (pv 0) zk (zq _)) (zd (zl (zZ (z6 qm (z6 (zo FSm hr rfl (z6 (pv 1) (z6 (pv 2) z7))) z7))))) zw)
  (z8 (zJ (PW.pt (Jv (Za (qZ (zo FN1 hr rfl (z6 (pv 1) z7)))) (ZC (Za (qZ (zo FN1 hr rfl (z6 (pv 2) z7))))))) (zd (zl (zZ (z6 zk (z6 qm z7))))) zw)
  (z8 (zJ (PW.pt (Qa (zm jd (pv 0) (zZ (z6 zk (z6 zk z7))) rfl) (jM (zm qJ (pv 2) zg (zq _))))) (zd (zl (zZ (z6 zk (z6 qm z7))))) zw)
  (z8e hr G T F1 F2 F3 F4 F5))),?_⟩
 try dsimp only [L2.cxOf,L2.Cx.nox]
 refine ⟨_,rfl,rfl,decide (op="same"),congrArg V.bl Zq,?_⟩
 by_cases h0:op="same"
 ·unfold Zm at hm
  rw [kE h0] at hm
  cases hm
  rw [kl h0]
  exact iteT ⟨_,rfl,_,rfl,x,y,rfl,hx,hy,by show 2≤sizeLine;decide,fun t ht=>q t _ (zh ht _) zb⟩
 rw [kj h0]
 refine iteF ⟨_,rfl,x,rfl,hx,Qn x,rfl,?_⟩
 have typ:Zm op x y=some (.str "Type",.non)→∀σ,tTup (jE (tC (.str "Type")) (jE (tC .non) tNil)) σ H Q:=fun e σ=>by
  rw [hm] at e
  cases e
  exact ⟨by show 2≤sizeLine;decide,fun t ht=>q t _ (zh ht _) zb⟩
 cases hnx:Qn x with
 | false=>exact iteT (iteT (typ (Je h0 (.inl hnx)) _))
 | true=>
  refine iteF ⟨_,rfl,y,rfl,hy,Qn y,rfl,?_⟩
  cases hny:Qn y with
  | false=>exact iteT (typ (Je h0 (.inr hny)) _)
  | true=>
   refine iteF ?_
   clear typ
   cases hx with
   | int i=>
    cases hy with
    | int j=>
     unfold Zm at hm
     rw [kD h0] at hm
     dsimp only at hm
     cases b1:big i with
     | true=>rw [b1,kE rfl] at hm;cases hm
     | false=>
      rw [b1,kD ke] at hm
      cases b2:big j with
      | true=>rw [b2,kE rfl] at hm;cases hm
      | false=>
       rw [b2,kD ke] at hm
       refine ⟨_,rfl,by show 2≤sizeLine;decide,fun p hp=>⟨p,_,rfl,.inr (SqT.of zb),rfl,rfl,inT op ["div","rest"],rfl,?_⟩⟩
       have s1:=zh hp (.tup [.str "div",.str "rest"])
       generalize upd H p (.tup [.str "div",.str "rest"])=H1 at *
       have go:¬((op="div"∨op="rest")∧j=0)→T66 { nx:=fun _ H'=>Q .non H',rt:=Q } [some (.str op),some (.int i),some (.int j),none,none] H1:=fun z=>by
        rw [kD z] at hm
        exact ⟨op,i,j,r1,r2,rfl,⟨b1,b2⟩,hm,fun t H' s' ht=>q t H' (s1.trans s') ht⟩
       cases hin:inT op ["div","rest"] with
       | false=>
        refine iteF (iteF (go fun z=>?_))
        have:inT op ["div","rest"]=true:=Zo.mpr (by rcases z.1 with z | z <;> rw [z] <;> decide+kernel)
        rw [hin] at this
        cases this
       | true=>
        have hop:op="div"∨op="rest":=by
         have:=Zo.mp hin
         rcases kH.mp this with z | z
         ·exact .inl z
         ·exact .inr (ku.mp z)
        obtain ⟨z,hz⟩:∃z,decide (V.int j=V.int 0)=z:=⟨_,rfl⟩
        refine iteT ⟨_,rfl,rfl,z,congrArg V.bl hz,?_⟩
        cases z with
        | true=>
         have hj:j=0:=by have:=kG hz;injection this
         rw [kE ⟨hop,hj⟩] at hm
         cases hm
         exact iteT ⟨by show 2≤sizeLine;decide,fun t ht=>q t _ (s1.trans (zh ht _)) zb⟩
        | false=>
         have hj:¬j=0:=fun z=>by rw [z] at hz;cases hz
         exact iteF (go fun z=>hj z.2)
    | _=>cases hny
   | _=>cases hnx
def z2Z:Sp:=fun vs H Q _=>∃op x r1 r2,vs=[.str op,x]∧Scal x∧z0j op x=some (r1,r2)∧∀t H',Same H H'→H' t=some (.tup [r1,r2])→Q (.ref t) H'
theorem sc66:zi ["op","value"] ["op","value"] (zc (top 66)):=fsM
theorem z5h (D:zn K mg "made_of_one" (top 66)) (FN1:FN P w K mg base 1 "is_number" ["thing"] (sp1 Qn)) (FT:FN P w K mg base 1 "is_true" ["value"] z1s):FN P w K mg base 2 "made_of_one" ["op","value"] z2Z:=by
 refine FN.o D sc66 fun f cdv A outer s H vs Q E hr h=>?_
 obtain ⟨op,x,r1,r2,rfl,hx,hm,q⟩:=h
 refine ⟨_,z8 (zJ (zm qJ (pv 0) zk (zq _)) (zd (zl (zZ (z6 qm (z6 (z5Z (zo FT hr rfl (z6 (pv 1) z7))) z7))))) zw)
  (z8 (zJ (Za (qZ (zo FN1 hr rfl (z6 (pv 1) z7)))) (zd (zl (zZ (z6 zk (z6 qm z7))))) zw)
  (zd (zl (zZ (z6 qm (z6 (Z7 qY (pv 1)) z7)))))),?_⟩
 try dsimp only [L2.cxOf,L2.Cx.nox]
 unfold z0j at hm
 refine ⟨_,rfl,rfl,decide (op="not"),congrArg V.bl Zq,?_⟩
 by_cases h0:op="not"
 ·rw [kE h0] at hm
  cases hm
  rw [kl h0]
  exact iteT ⟨_,rfl,x,rfl,hx,_,rfl,by show 2≤sizeLine;decide,fun t ht=>q t _ (zh ht _) zb⟩
 rw [kD h0] at hm
 rw [kj h0]
 refine iteF ⟨_,rfl,x,rfl,hx,Qn x,rfl,?_⟩
 cases hx with
 | int i=>cases hm;exact iteF ⟨_,rfl,i,rfl,by show 2≤sizeLine;decide,fun t ht=>q t _ (zh ht _) zb⟩
 | non=>cases hm;exact iteT ⟨by show 2≤sizeLine;decide,fun t ht=>q t _ (zh ht _) zb⟩
 | bl b=>cases hm;exact iteT ⟨by show 2≤sizeLine;decide,fun t ht=>q t _ (zh ht _) zb⟩
 | str z hz=>cases hm;exact iteT ⟨by show 2≤sizeLine;decide,fun t ht=>q t _ (zh ht _) zb⟩
end
noncomputable def JQ:Deed:=fun _ _ m=>match m.st.getLast? with
 | some _=>some (.next,{ m with st:=m.st.dropLast })
 | none=>none
noncomputable def JT (st:List V) (arg:V):Option (Nat × V):=match arg with
 | .int n=>if 1≤n∧n.toNat≤st.length then (st[st.length - n.toNat]?).map fun v=>(st.length - n.toNat,v) else none
 | _=>none
noncomputable def JR:Deed:=fun _ arg m=>match JT m.st arg with
 | some (_,v)=>if qO m.st.length=true then some (.next,{ m with st:=m.st++[v] }) else none
 | none=>none
noncomputable def JP:Deed:=fun _ arg m=>match JT m.st arg,m.st.getLast? with
 | some (j,v),some t=>some (.next,{ m with st:=(m.st.set (m.st.length - 1) v).set j t })
 | _,_=>none
noncomputable def z3v (v:V):Option Str:=match v with
 | .str z=>some (if JJ (.str z)=true then z else "Type")
 | _=>some "Type"
noncomputable def ZM:Deed:=fun _ _ m=>match m.st.getLast? with
 | some v=>if Zi v=true then (z3v v).map fun k=>(.fault k,{ m with st:=m.st.dropLast }) else none
 | none=>none
theorem z3Y {st:List V} {n:Int} {j:Nat} {v:V} (h:JT st (.int n)=some (j,v)):ixN st.length (-n)=some j∧st[j]?=some v:=by
 unfold JT at h
 dsimp only at h
 by_cases hz:1≤n∧n.toNat≤st.length
 case neg=>rw [kD hz] at h;cases h
 rw [kE hz] at h
 cases e:st[st.length - n.toNat]? with
 | none=>rw [e] at h;cases h
 | some w=>
  rw [e] at h
  cases h
  refine ⟨?_,e⟩
  unfold ixN
  rw [kD (by lia),kE (by lia)]
  congr 1
  lia
section
variable {C:Addr}
theorem sc82:zi ["hold","op","arg"] ["hold","op","arg"] (zc (top 82)):=fsM
theorem z7j (D:zn K mg "do_drop" (top 82)) (c:jg K C) (cs:Cons K mg):FN P w K mg base 1 "do_drop" ["hold","op","arg"] (zW K C JQ):=by
 refine FN.o D sc82 fun f cdv A outer s H vs Q E hr h=>?_
 obtain ⟨ho,hl,kd,sl,dx,op,arg,m,res,m',rfl,hA,hg,q⟩:=h
 obtain ⟨na,mn,tn⟩:=cs.next
 refine ⟨_,z8 (zj (jA (zx (pv 0) rfl))) (zd (zl (qb rfl mn (v:=.ref na) rfl))),?_⟩
 try dsimp only [L2.cxOf,L2.Cx.nox]
 unfold JQ at hg
 cases hv:m.st.getLast? with
 | none=>rw [hv] at hg;cases hg
 | some v=>
  rw [hv] at hg
  cases hg
  refine ⟨_,rfl,ho,C,dx,_,.ref hl,rfl,hA.ins,c.cl,c.held,rfl,.inl ⟨rfl,_,SqL.of hA.held⟩,hl,_,_,rfl,rfl,hA.held,qX hv,?_⟩
  exact q na _ (tn.sq _) (hA.setHeld _) qh.a
theorem sc83:zi ["hold","op","arg"] ["hold","op","arg"] (zc (top 83)):=fsM
theorem z7n (D:zn K mg "do_copy" (top 83)) (c:jg K C) (cs:Cons K mg):FN P w K mg base 1 "do_copy" ["hold","op","arg"] (zW K C JR):=by
 refine FN.o D sc83 fun f cdv A outer s H vs Q E hr h=>?_
 obtain ⟨ho,hl,kd,sl,dx,op,arg,m,res,m',rfl,hA,hg,q⟩:=h
 obtain ⟨na,mn,tn⟩:=cs.next
 refine ⟨_,z8 (zj (jj (zx (pv 0) rfl) (z6 (qc zT (zx (pv 0) rfl) (Z7 qY (pv 2)) (fun _ _=>rfl)) z7))) (zd (zl (qb rfl mn (v:=.ref na) rfl))),?_⟩
 try dsimp only [L2.cxOf,L2.Cx.nox]
 unfold JR at hg
 cases hd:JT m.st arg with
 | none=>rw [hd] at hg;cases hg
 | some jv=>
  obtain ⟨j,v⟩:=jv
  rw [hd] at hg
  dsimp only at hg
  by_cases hz:qO m.st.length=true
  case neg=>rw [kD hz] at hg;cases hg
  rw [kE hz] at hg
  cases hg
  obtain ⟨n,rfl⟩:∃n,arg=.int n:=by
   cases arg with
   | int n=>exact ⟨n,rfl⟩
   | _=>cases hd
  obtain ⟨h1,h2⟩:=z3Y hd
  have hat:atI m.st (-n)=some v:=by
   unfold atI
   rw [h1]
   exact h2
  refine ⟨_,rfl,ho,C,dx,_,.ref hl,rfl,hA.ins,c.cl,c.held,rfl,.inl ⟨rfl,_,SqL.of hA.held⟩,_,rfl,ho,C,dx,_,.ref hl,rfl,hA.ins,c.cl,c.held,rfl,_,rfl,n,rfl,hl,_,_,v,rfl,rfl,SqL.of hA.held,hat,hl,_,_,rfl,rfl,hA.held,j9 hz,?_⟩
  exact q na _ (tn.sq _) (hA.setHeld _) qh.a
theorem sc84:zi ["hold","op","arg","held"] ["hold","op","arg"] (zc (top 84)):=fsM
theorem z72 (D:zn K mg "do_swap" (top 84)) (c:jg K C) (cs:Cons K mg):FN P w K mg base 1 "do_swap" ["hold","op","arg"] (zW K C JP):=by
 refine FN.o D sc84 fun f cdv A outer s H vs Q E hr h=>?_
 obtain ⟨ho,hl,kd,sl,dx,op,arg,m,res,m',rfl,hA,hg,q⟩:=h
 obtain ⟨na,mn,tn⟩:=cs.next
 refine ⟨_,z8 (zG (i:=3) sc84.nd rfl (Or.inl rfl) (zx (pv 0) rfl))
  (z8 (jb (zZ (z6 (qc zT (pv 3) (Z7 qY (pv 2)) (fun _ _=>rfl)) (z6 (qc zT (pv 3) (Z7 qY zg) (fun _ _=>rfl)) z7))) (jc (n:=2) rfl (zr (Jd (pv 3) (Z7 qY zg) Z2) (zr (Jd (pv 3) (Z7 qY (pv 2)) Z2) qx))))
  (zd (zl (qb rfl mn (v:=.ref na) rfl)))),?_⟩
 try dsimp only [L2.cxOf,L2.Cx.nox]
 unfold JP at hg
 cases hd:JT m.st arg with
 | none=>rw [hd] at hg;cases hg
 | some jv=>
  obtain ⟨j,v⟩:=jv
  cases hv:m.st.getLast? with
  | none=>rw [hd,hv] at hg;cases hg
  | some t=>
   rw [hd,hv] at hg
   cases hg
   obtain ⟨n,rfl⟩:∃n,arg=.int n:=by
    cases arg with
    | int n=>exact ⟨n,rfl⟩
    | _=>cases hd
   obtain ⟨h1,h2⟩:=z3Y hd
   have hat:atI m.st (-n)=some v:=by
    unfold atI
    rw [h1]
    exact h2
   have hne:0 < m.st.length:=by
    have:=(ki.mp (qX hv)).1
    lia
   have hlx:ixN m.st.length (-1)=some (m.st.length - 1):=by
    unfold ixN
    rw [kD (by decide),kE (by lia)]
    congr 1
    lia
   have hlt:atI m.st (-1)=some t:=by
    unfold atI
    rw [hlx]
    exact qX hv
   refine ⟨_,rfl,ho,C,dx,_,.ref hl,rfl,hA.ins,c.cl,c.held,rfl,?_⟩
   refine ⟨_,rfl,_,rfl,n,rfl,hl,_,_,v,rfl,rfl,SqL.of hA.held,hat,_,rfl,1,rfl,hl,_,_,t,rfl,rfl,SqL.of hA.held,hlt,by show 2≤sizeLine;decide,fun tp htp=>?_⟩
   have st:=zh htp (.tup [v,t])
   have hA1:=hA.same st
   refine ⟨tp,_,rfl,SqT.of zb,rfl,_,_,rfl,_,rfl,1,rfl,hl,_,_,m.st.length - 1,rfl,rfl,hA1.held,hlx,?_⟩
   have hA2:=hA1.setHeld (m.st.set (m.st.length - 1) v)
   refine ⟨_,_,rfl,_,rfl,_,rfl,n,rfl,hl,_,_,j,rfl,rfl,hA2.held,by rw [List.length_set];exact h1,?_⟩
   exact ⟨rfl,q na _ (tn.sq _) (hA2.setHeld _) ((qh.of st).trans (qh.a.trans qh.a))⟩
def z30:Sp:=fun vs H Q _=>∃x k,vs=[x]∧Scal x∧z3v x=some k∧Q (.str k) H
theorem sc67:zi ["value"] ["value"] (zc (top 67)):=fsM
theorem z5k (D:zn K mg "kind_raised" (top 67)) (FK:FN P w K mg base 2 "is_kind" ["thing"] (sp1 JJ)):FN P w K mg base 3 "kind_raised" ["value"] z30:=by
 refine FN.o D sc67 fun f cdv A outer s H vs Q E hr h=>?_
 obtain ⟨x,k,rfl,hx,hk,q⟩:=h
 refine ⟨_,zd (zl (jh (qZ (zo FK hr rfl (z6 (pv 0) z7))) (pv 0) zk)),?_⟩
 try dsimp only [L2.cxOf,L2.Cx.nox]
 refine ⟨_,rfl,x,rfl,hx,JJ x,rfl,?_⟩
 cases hx with
 | non=>cases hk;exact iteF q
 | bl b=>cases hk;exact iteF q
 | int i=>cases hk;exact iteF q
 | str z hz=>
  cases hk
  cases e:JJ (.str z) with
  | true=>rw [e,kE rfl] at q;exact iteT ⟨_,rfl,q⟩
  | false=>rw [e,kD ke] at q;exact iteF q
theorem sc93:zi ["hold","op","arg"] ["hold","op","arg"] (zc (top 93)):=fsM
theorem z5c (D:zn K mg "do_raise" (top 93)) (c:jg K C) (FK:FN P w K mg base 3 "kind_raised" ["value"] z30):FN P w K mg base 4 "do_raise" ["hold","op","arg"] (zW K C ZM):=by
 refine FN.o D sc93 fun f cdv A outer s H vs Q E hr h=>?_
 obtain ⟨ho,hl,kd,sl,dx,op,arg,m,res,m',rfl,hA,hg,q⟩:=h
 refine ⟨_,zd (zl (zZ (z6 zk (z6 (zo FK hr rfl (z6 (jA (zx (pv 0) rfl)) z7)) z7)))),?_⟩
 try dsimp only [L2.cxOf,L2.Cx.nox]
 unfold ZM at hg
 cases hv:m.st.getLast? with
 | none=>rw [hv] at hg;cases hg
 | some v=>
  rw [hv] at hg
  dsimp only at hg
  by_cases hz:Zi v=true
  case neg=>rw [kD hz] at hg;cases hg
  rw [kE hz] at hg
  cases hk:z3v v with
  | none=>rw [hk] at hg;cases hg
  | some k=>
   rw [hk] at hg
   cases hg
   have h1:=hA.setHeld m.st.dropLast
   refine ⟨_,rfl,ho,C,dx,_,.ref hl,rfl,hA.ins,c.cl,c.held,rfl,.inl ⟨rfl,_,SqL.of hA.held⟩,hl,_,_,rfl,rfl,hA.held,qX hv,v,k,rfl,Zh hz,hk,by show 2≤sizeLine;decide,fun p hp=>?_⟩
   have sp:=zh hp (.tup [.str "fault",.str k])
   exact q p _ (SqT.of zb) (h1.same sp) (qh.a.trans (qh.of sp))
end
def jk (H H':Hp) (t:Addr):Prop:=∀b o,H b=some o→b≠t→H' b=some o
noncomputable def pofM (r1 r2:V) (m:Mst):Option (Res × Mst):=match r1 with
 | .non=>if qO m.st.length=true then some (.next,{ m with st:=m.st++[r2] }) else none
 | .str k=>some (.fault k,m)
 | _=>none
noncomputable def gTwo:Deed:=fun op _ m=>match m.st.getLast? with
 | some y=>(match m.st.dropLast.getLast? with
  | some x=>if Zi x=true∧Zi y=true then (match Zm op x y with
   | some (r1,r2)=>pofM r1 r2 { m with st:=m.st.dropLast.dropLast }
   | none=>none) else none
  | none=>none)
 | none=>none
noncomputable def gOne:Deed:=fun op _ m=>match m.st.getLast? with
 | some x=>if Zi x=true then (match z0j op x with
   | some (r1,r2)=>pofM r1 r2 { m with st:=m.st.dropLast }
   | none=>none) else none
 | none=>none
section
variable {C:Addr}
def z6r (K:kC) (C:Addr):Sp:=fun vs H Q _=>∃ho hl kd sl dx m ma r1 r2 res m',vs=[.ref ho,.ref ma]∧qM H C ho hl kd sl dx m∧H ma=some (.tup [r1,r2])∧pofM r1 r2 m=some (res,m')∧
 ∀t H',SqT K H' t (resV res)→qM H' C ho hl kd sl dx m'→qh H H' hl kd sl→Q (.ref t) H'
theorem sc85:zi ["hold","made","kind","value"] ["hold","made"] (zc (top 85)):=fsM
theorem z8P (D:zn K mg "pushed_or_fault" (top 85)) (c:jg K C) (cs:Cons K mg):FN P w K mg base 1 "pushed_or_fault" ["hold","made"] (z6r K C):=by
 refine FN.o D sc85 fun f cdv A outer s H vs Q E hr h=>?_
 obtain ⟨ho,hl,kd,sl,dx,m,ma,r1,r2,res,m',rfl,hA,hma,hp,q⟩:=h
 obtain ⟨na,mn,tn⟩:=cs.next
 refine ⟨_,z8 (jb (pv 1) (jc rfl (zr (zu (i:=2) sc85.nd rfl (Or.inl rfl)) (zr (zu (i:=3) sc85.nd rfl (Or.inl rfl)) qx))))
  (z8 (zJ (zm JB (pv 2) qm (zq _)) (zd (zl (zZ (z6 zk (z6 (pv 2) z7))))) zw)
  (z8 (zj (jj (zx (pv 0) rfl) (z6 (pv 3) z7))) (zd (zl (qb rfl mn (v:=.ref na) rfl))))),?_⟩
 try dsimp only [L2.cxOf,L2.Cx.nox]
 refine ⟨_,rfl,ma,_,rfl,SqT.of hma,rfl,_,_,rfl,_,_,rfl,rfl,?_⟩
 unfold pofM at hp
 cases r1 with
 | non=>
  dsimp only at hp
  by_cases hz:qO m.st.length=true
  case neg=>rw [kD hz] at hp;cases hp
  rw [kE hz] at hp
  cases hp
  refine ⟨_,rfl,rfl,false,rfl,iteF ?_⟩
  refine ⟨_,rfl,ho,C,dx,_,.ref hl,rfl,hA.ins,c.cl,c.held,rfl,.inl ⟨rfl,_,SqL.of hA.held⟩,_,rfl,hl,_,_,rfl,rfl,hA.held,j9 hz,?_⟩
  exact q na _ (tn.sq _) (hA.setHeld _) qh.a
 | str k=>
  cases hp
  refine ⟨_,rfl,rfl,true,rfl,iteT ⟨_,rfl,by show 2≤sizeLine;decide,fun p hp=>?_⟩⟩
  have sp:=zh hp (.tup [.str "fault",.str k])
  exact q p _ (SqT.of zb) (hA.same sp) (qh.of sp)
 | _=>cases hp
theorem sc86:zi ["hold","op","arg","second","first"] ["hold","op","arg"] (zc (top 86)):=fsM
theorem z8L (D:zn K mg "do_two" (top 86)) (c:jg K C) (FM:FN P w K mg base 2 "made_of_two" ["op","first","second"] z2Y) (FP:FN P w K mg base 1 "pushed_or_fault" ["hold","made"] (z6r K C)):FN P w K mg base 3 "do_two" ["hold","op","arg"] (zW K C gTwo):=by
 refine FN.o D sc86 fun f cdv A outer s H vs Q E hr h=>?_
 obtain ⟨ho,hl,kd,sl,dx,op,arg,m,res,m',rfl,hA,hg,q⟩:=h
 refine ⟨_,z8 (zG (i:=3) sc86.nd rfl (Or.inl rfl) (jA (zx (pv 0) rfl)))
  (z8 (zG (i:=4) sc86.nd rfl (Or.inl rfl) (jA (zx (pv 0) rfl)))
  (zd (zl (zo FP (hr.mono (by decide)) rfl (z6 (pv 0) (z6 (zo FM hr rfl (z6 (pv 1) (z6 (pv 4) (z6 (pv 3) z7)))) z7)))))),?_⟩
 try dsimp only [L2.cxOf,L2.Cx.nox]
 unfold gTwo at hg
 cases hv:m.st.getLast? with
 | none=>rw [hv] at hg;cases hg
 | some y=>
  rw [hv] at hg
  dsimp only at hg
  cases hv2:m.st.dropLast.getLast? with
  | none=>rw [hv2] at hg;cases hg
  | some x=>
   rw [hv2] at hg
   dsimp only at hg
   by_cases hz:Zi x=true∧Zi y=true
   case neg=>rw [kD hz] at hg;cases hg
   rw [kE hz] at hg
   cases hm:Zm op x y with
   | none=>rw [hm] at hg;cases hg
   | some r=>
    obtain ⟨r1,r2⟩:=r
    rw [hm] at hg
    dsimp only at hg
    have h1:=hA.setHeld m.st.dropLast
    have h2:=h1.setHeld m.st.dropLast.dropLast
    refine ⟨_,rfl,ho,C,dx,_,.ref hl,rfl,hA.ins,c.cl,c.held,rfl,.inl ⟨rfl,_,SqL.of hA.held⟩,hl,_,_,rfl,rfl,hA.held,qX hv,?_⟩
    refine ⟨_,rfl,ho,C,dx,_,.ref hl,rfl,h1.ins,c.cl,c.held,rfl,.inl ⟨rfl,_,SqL.of h1.held⟩,hl,_,_,rfl,rfl,h1.held,qX hv2,?_⟩
    refine ⟨_,rfl,_,rfl,_,rfl,_,rfl,op,x,y,r1,r2,rfl,Zh hz.1,Zh hz.2,hm,fun t H' s' ht=>?_⟩
    exact ⟨ho,hl,kd,sl,dx,_,t,r1,r2,res,m',rfl,h2.same s',ht,hg,fun t2 H2 a b r=>q t2 H2 a b ((qh.a.trans qh.a).trans ((qh.of s').trans r))⟩
theorem sc87:zi ["hold","op","arg"] ["hold","op","arg"] (zc (top 87)):=fsM
theorem z8Q (D:zn K mg "do_one" (top 87)) (c:jg K C) (FM:FN P w K mg base 2 "made_of_one" ["op","value"] z2Z) (FP:FN P w K mg base 1 "pushed_or_fault" ["hold","made"] (z6r K C)):FN P w K mg base 3 "do_one" ["hold","op","arg"] (zW K C gOne):=by
 refine FN.o D sc87 fun f cdv A outer s H vs Q E hr h=>?_
 obtain ⟨ho,hl,kd,sl,dx,op,arg,m,res,m',rfl,hA,hg,q⟩:=h
 refine ⟨_,zd (zl (zo FP (hr.mono (by decide)) rfl (z6 (pv 0) (z6 (zo FM hr rfl (z6 (pv 1) (z6 (jA (zx (pv 0) rfl)) z7))) z7)))),?_⟩
 try dsimp only [L2.cxOf,L2.Cx.nox]
 unfold gOne at hg
 cases hv:m.st.getLast? with
 | none=>rw [hv] at hg;cases hg
 | some x=>
  rw [hv] at hg
  dsimp only at hg
  by_cases hz:Zi x=true
  case neg=>rw [kD hz] at hg;cases hg
  rw [kE hz] at hg
  cases hm:z0j op x with
  | none=>rw [hm] at hg;cases hg
  | some r=>
   obtain ⟨r1,r2⟩:=r
   rw [hm] at hg
   dsimp only at hg
   have h1:=hA.setHeld m.st.dropLast
   refine ⟨_,rfl,_,rfl,_,rfl,ho,C,dx,_,.ref hl,rfl,hA.ins,c.cl,c.held,rfl,.inl ⟨rfl,_,SqL.of hA.held⟩,hl,_,_,rfl,rfl,hA.held,qX hv,op,x,r1,r2,rfl,Zh hz,hm,fun t H' s' ht=>?_⟩
   exact ⟨ho,hl,kd,sl,dx,_,t,r1,r2,res,m',rfl,h1.same s',ht,hg,fun t2 H2 a b r=>q t2 H2 a b (qh.a.trans ((qh.of s').trans r))⟩
end
structure DAd where
 (push load quick store clear drop copy swap two one tell jump if_ or_ ret rais:Addr)
noncomputable def ZQ (a:DAd):List (Str × V):=[("push",.ref a.push),("load",.ref a.load),("quick",.ref a.quick),("store",.ref a.store),("clear",.ref a.clear),("drop",.ref a.drop),("copy",.ref a.copy),("swap",.ref a.swap),("add",.ref a.two),("sub",.ref a.two),("mul",.ref a.two),("div",.ref a.two),("rest",.ref a.two),("less",.ref a.two),("same",.ref a.two),("neg",.ref a.one),("not",.ref a.one),("tell",.ref a.tell),("jump",.ref a.jump),("iftrue",.ref a.if_),("iffalse",.ref a.if_),("ortrue",.ref a.or_),("orfalse",.ref a.or_),("return",.ref a.ret),("raise",.ref a.rais)]
structure z9c (w:World) (K:kC) (mg:Str→Option Value) (a:DAd):Prop where
 deeds:∃d,mg "DEEDS"=some (.ref d)∧KTab w.params K d (ZQ a)
 push:mg "do_push"=some (.ref a.push)
 load:mg "do_load"=some (.ref a.load)
 quick:mg "do_quick"=some (.ref a.quick)
 store:mg "do_store"=some (.ref a.store)
 clear:mg "do_clear"=some (.ref a.clear)
 tell:mg "do_tell"=some (.ref a.tell)
 if_:mg "do_if"=some (.ref a.if_)
 or_:mg "do_or"=some (.ref a.or_)
 ret:mg "do_return"=some (.ref a.ret)
 two:mg "do_two"=some (.ref a.two)
 one:mg "do_one"=some (.ref a.one)
 jump:mg "do_jump"=some (.ref a.jump)
 drop:mg "do_drop"=some (.ref a.drop)
 copy:mg "do_copy"=some (.ref a.copy)
 swap:mg "do_swap"=some (.ref a.swap)
 rais:mg "do_raise"=some (.ref a.rais)
noncomputable def jl:List Str:=["add","sub","mul","div","rest","less","same"]
noncomputable def jR:List Str:=["neg","not"]
noncomputable def rowM:Deed:=fun op arg m=>
 if op∈jl then gTwo op arg m else if op∈jR then gOne op arg m else if op="push" then z0s op arg m else if op="load" then J6 op arg m else if op="quick" then ZN op arg m else if op="store" then ZL op arg m else if op="clear" then Zd op arg m
 else if op="tell" then JO op arg m else if op="iftrue" then gIf op arg m else if op="iffalse" then gIf op arg m else if op="ortrue" then gOr op arg m else if op="orfalse" then gOr op arg m else if op="return" then jx op arg m else if op="jump" then z2v op arg m else if op="drop" then JQ op arg m else if op="copy" then JR op arg m else if op="swap" then JP op arg m else if op="raise" then ZM op arg m else none
section
variable {C:Addr}
theorem sc95:zi ["hold","op","arg","deed"] ["hold","op","arg"] (zc (top 95)):=fsM
theorem z5m {ad:DAd} (D:zn K mg "do_row" (top 95)) (T:z9c w K mg ad) (F1:FN P w K mg base 1 "do_push" ["hold","op","arg"] (zW K C z0s)) (F2:FN P w K mg base 1 "do_load" ["hold","op","arg"] (zW K C J6)) (F3:FN P w K mg base 1 "do_quick" ["hold","op","arg"] (zW K C ZN))
  (F4:FN P w K mg base 1 "do_store" ["hold","op","arg"] (zW K C ZL)) (F5:FN P w K mg base 1 "do_clear" ["hold","op","arg"] (zW K C Zd)) (F6:FN P w K mg base 1 "do_tell" ["hold","op","arg"] (zW K C JO)) (F7:FN P w K mg base 2 "do_if" ["hold","op","arg"] (zW K C gIf))
  (F8:FN P w K mg base 2 "do_or" ["hold","op","arg"] (zW K C gOr)) (F9:FN P w K mg base 1 "do_return" ["hold","op","arg"] (zW K C jx))
  (F10:FN P w K mg base 3 "do_two" ["hold","op","arg"] (zW K C gTwo)) (F11:FN P w K mg base 3 "do_one" ["hold","op","arg"] (zW K C gOne)) (F12:FN P w K mg base 1 "do_jump" ["hold","op","arg"] (zW K C z2v))
  (F13:FN P w K mg base 1 "do_drop" ["hold","op","arg"] (zW K C JQ)) (F14:FN P w K mg base 1 "do_copy" ["hold","op","arg"] (zW K C JR)) (F15:FN P w K mg base 1 "do_swap" ["hold","op","arg"] (zW K C JP)) (F16:FN P w K mg base 4 "do_raise" ["hold","op","arg"] (zW K C ZM)):FN P w K mg base 5 "do_row" ["hold","op","arg"] (zW K C rowM):=by
 refine FN.o D sc95 fun f cdv A outer s H vs Q E hr h=>?_
 obtain ⟨ho,hl,kd,sl,dx,op,arg,m,res,m',rfl,hA,hg,q⟩:=h
 obtain ⟨d,md,td⟩:=T.deeds
 refine ⟨_,z8 (zG (i:=3) sc95.nd rfl (Or.inl rfl) (Jy td rfl md (pv 1) (fun _ _=>rfl))) (zd (zl (JA (pv 3) (z6 (pv 0) (z6 (pv 1) (z6 (pv 2) z7)))))),?_⟩
 try dsimp only [L2.cxOf,L2.Cx.nox]
 suffices h:∃(g:Deed) (name:Str) (fa:Addr),FN P w K mg base 4 name ["hold","op","arg"] (zW K C g)∧mg name=some (.ref fa)∧(ZQ ad).lookup op=some (.ref fa)∧g op arg m=some (res,m') by
  obtain ⟨g,name,fa,⟨f',fd,a,b,c,d'⟩,e1,e2,e3⟩:=h
  rw [a] at e1
  cases e1
  exact ⟨_,rfl,op,_,rfl,e2,fa,fd,_,_,4,rfl,b,d',hr,c,_,rfl,_,rfl,_,rfl,ho,hl,kd,sl,dx,op,arg,m,res,m',rfl,hA,e3,q⟩
 unfold rowM at hg
 by_cases h1:op∈jl
 ·rw [kE h1] at hg
  refine ⟨gTwo,_,_,F10.mono (by decide),T.two,?_,hg⟩
  have all:∀o∈jl,(ZQ ad).lookup o=some (.ref ad.two):=by
   intro o ho
   unfold jl at ho
   simp only [kH,ky,or_false] at ho
   rcases ho with h | h | h | h | h | h | h <;> (rw [h];rfl)
  exact all op h1
 rw [kD h1] at hg
 by_cases h1:op∈jR
 ·rw [kE h1] at hg
  refine ⟨gOne,_,_,F11.mono (by decide),T.one,?_,hg⟩
  have all:∀o∈jR,(ZQ ad).lookup o=some (.ref ad.one):=by
   intro o ho
   unfold jR at ho
   simp only [kH,ky,or_false] at ho
   rcases ho with h | h <;> (rw [h];rfl)
  exact all op h1
 rw [kD h1] at hg
 by_cases h1:op="push"
 ·rw [kE h1] at hg;exact ⟨z0s,_,_,F1.mono (by decide),T.push,by rw [h1];rfl,hg⟩
 rw [kD h1] at hg
 by_cases h1:op="load"
 ·rw [kE h1] at hg;exact ⟨J6,_,_,F2.mono (by decide),T.load,by rw [h1];rfl,hg⟩
 rw [kD h1] at hg
 by_cases h1:op="quick"
 ·rw [kE h1] at hg;exact ⟨ZN,_,_,F3.mono (by decide),T.quick,by rw [h1];rfl,hg⟩
 rw [kD h1] at hg
 by_cases h1:op="store"
 ·rw [kE h1] at hg;exact ⟨ZL,_,_,F4.mono (by decide),T.store,by rw [h1];rfl,hg⟩
 rw [kD h1] at hg
 by_cases h1:op="clear"
 ·rw [kE h1] at hg;exact ⟨Zd,_,_,F5.mono (by decide),T.clear,by rw [h1];rfl,hg⟩
 rw [kD h1] at hg
 by_cases h1:op="tell"
 ·rw [kE h1] at hg;exact ⟨JO,_,_,F6.mono (by decide),T.tell,by rw [h1];rfl,hg⟩
 rw [kD h1] at hg
 by_cases h1:op="iftrue"
 ·rw [kE h1] at hg;exact ⟨gIf,_,_,F7.mono (by decide),T.if_,by rw [h1];rfl,hg⟩
 rw [kD h1] at hg
 by_cases h1:op="iffalse"
 ·rw [kE h1] at hg;exact ⟨gIf,_,_,F7.mono (by decide),T.if_,by rw [h1];rfl,hg⟩
 rw [kD h1] at hg
 by_cases h1:op="ortrue"
 ·rw [kE h1] at hg;exact ⟨gOr,_,_,F8.mono (by decide),T.or_,by rw [h1];rfl,hg⟩
 rw [kD h1] at hg
 by_cases h1:op="orfalse"
 ·rw [kE h1] at hg;exact ⟨gOr,_,_,F8.mono (by decide),T.or_,by rw [h1];rfl,hg⟩
 rw [kD h1] at hg
 by_cases h1:op="return"
 ·rw [kE h1] at hg;exact ⟨jx,_,_,F9.mono (by decide),T.ret,by rw [h1];rfl,hg⟩
 rw [kD h1] at hg
 by_cases h1:op="jump"
 ·rw [kE h1] at hg;exact ⟨z2v,_,_,F12.mono (by decide),T.jump,by rw [h1];rfl,hg⟩
 rw [kD h1] at hg
 by_cases h1:op="drop"
 ·rw [kE h1] at hg;exact ⟨JQ,_,_,F13.mono (by decide),T.drop,by rw [h1];rfl,hg⟩
 rw [kD h1] at hg
 by_cases h1:op="copy"
 ·rw [kE h1] at hg;exact ⟨JR,_,_,F14.mono (by decide),T.copy,by rw [h1];rfl,hg⟩
 rw [kD h1] at hg
 by_cases h1:op="swap"
 ·rw [kE h1] at hg;exact ⟨JP,_,_,F15.mono (by decide),T.swap,by rw [h1];rfl,hg⟩
 rw [kD h1] at hg
 by_cases h1:op="raise"
 ·rw [kE h1] at hg;exact ⟨ZM,_,_,F16,T.rais,by rw [h1];rfl,hg⟩
 rw [kD h1] at hg
 cases hg
end
noncomputable def z47 (s:Stmt):List Stmt:=match s with
 | .ClassDef _ _ _ b _ _ _ _ _ _ _=>b
 | _=>[]
noncomputable def mW (i:Nat):Stmt:=(z47 (top 96)).getD i (.Pass ⟨0,0,0,0⟩)
noncomputable def mH (i:Nat):Stmt:=(z47 (top 76)).getD i (.Pass ⟨0,0,0,0⟩)
def MN (P:Program) (w:World) (K:kC) (mg:Str→Option Value) (base:Heap) (k:Nat) (C:Addr) (m:Str) (ps:List Str) (sp:Sp):Prop:=∃f fd,Meth K C m f∧Z9 K fd ps []∧FnOk P w K mg base CX0 k f fd ps sp
def HasM (K:kC) (C:Addr) (m qual:Str) (st:Stmt):Prop:=∃f fd,Fun K m qual st f fd∧Meth K C m f
def IN (P:Program) (w:World) (K:kC) (mg:Str→Option Value) (base:Heap) (k:Nat) (C:Addr) (ps:List Str) (sp:Sp):Prop:=∃f fd,Mk K C f∧Z9 K fd ps []∧FnOk P w K mg base CX0 k f fd ps sp
def HasI (K:kC) (C:Addr) (qual:Str) (st:Stmt):Prop:=∃f fd,Fun K "__init__" qual st f fd∧Mk K C f
section
variable {C:Addr}
theorem MN.of {m qual:Str} {st:Stmt} {N ps:List Str} {sp:Sp} {k:Nat} (D:HasM K C m qual st) (S:zi N ps (zc st))
  (hb:∀(kV doc pm:Value) (an:Option Addr) (cdv ct:Value) (us:List Value),us.length=ps.length→bindArgs (PySem.W.fnOf m qual (qr st) (zK st) (zc st) .none kV doc pm an cdv ct) ⟨us,[]⟩=pure (ps.zip us))
  (len:∀vs H Q E,sp vs H Q E→vs.length=ps.length)
  (hbody:∀(f:Addr) (cdv:Value) (A:Around) (outer:List Env) (s:Shared) (H:Hp) (vs:List V) (Q:VK) (E:XK),Room k (A.deeper (envOfC qual (zc st) s.heap.objs.size f cdv))→sp vs H Q E→
   ∃t,PSs (cxOf CX0 P w K mg base N qual (zc st) f cdv A outer s H E).nox (zK st) t∧t { nx:=fun _ H'=>Q .non H',rt:=Q } (L2.jq N vs) H):MN P w K mg base (k+1) C m ps sp:=by
 obtain ⟨f,fd,F,m⟩:=D
 exact ⟨f,fd,m,F.binds hb,F.ok S len (hbody f)⟩
theorem MN.o {m qual:Str} {st:Stmt} {N ps:List Str} {sp:Sp} {k:Nat} (D:HasM K C m qual st) (S:zi N ps (zc st))
  (hbody:∀(f:Addr) (cdv:Value) (A:Around) (outer:List Env) (s:Shared) (H:Hp) (vs:List V) (Q:VK) (E:XK),Room k (A.deeper (envOfC qual (zc st) s.heap.objs.size f cdv))→sp vs H Q E→
   ∃t,PSs (cxOf CX0 P w K mg base N qual (zc st) f cdv A outer s H E).nox (zK st) t∧t { nx:=fun _ H'=>Q .non H',rt:=Q } (L2.jq N vs) H)
  (hb:∀(kV doc pm:Value) (an:Option Addr) (cdv ct:Value) (us:List Value),us.length=ps.length→bindArgs (PySem.W.fnOf m qual (qr st) (zK st) (zc st) .none kV doc pm an cdv ct) ⟨us,[]⟩=pure (ps.zip us):=by (first | exact fun _ _ _ _ _ _=>zU1 fun _=>rfl | exact fun _ _ _ _ _ _=>zU2 fun _ _=>rfl | exact fun _ _ _ _ _ _=>zU3 fun _ _ _=>rfl | exact fun _ _ _ _ _ _=>zU4 fun _ _ _ _=>rfl | exact fun _ _ _ _ _ _=>zU5 fun _ _ _ _ _=>rfl))
  (len:∀vs H Q E,sp vs H Q E→vs.length=ps.length:=by (intro vs H Q E h;repeat (first | (obtain ⟨e,_⟩:=h;subst e;rfl) | (obtain ⟨_,h⟩:=h)))):MN P w K mg base (k+1) C m ps sp:=MN.of D S hb len hbody
theorem IN.of {qual:Str} {st:Stmt} {N ps:List Str} {sp:Sp} {k:Nat} (D:HasI K C qual st) (S:zi N ps (zc st))
  (hb:∀(kV doc pm:Value) (an:Option Addr) (cdv ct:Value) (us:List Value),us.length=ps.length→bindArgs (PySem.W.fnOf "__init__" qual (qr st) (zK st) (zc st) .none kV doc pm an cdv ct) ⟨us,[]⟩=pure (ps.zip us))
  (len:∀vs H Q E,sp vs H Q E→vs.length=ps.length)
  (hbody:∀(f:Addr) (cdv:Value) (A:Around) (outer:List Env) (s:Shared) (H:Hp) (vs:List V) (Q:VK) (E:XK),Room k (A.deeper (envOfC qual (zc st) s.heap.objs.size f cdv))→sp vs H Q E→
   ∃t,PSs (cxOf CX0 P w K mg base N qual (zc st) f cdv A outer s H E).nox (zK st) t∧t { nx:=fun _ H'=>Q .non H',rt:=Q } (L2.jq N vs) H):IN P w K mg base (k+1) C ps sp:=by
 obtain ⟨f,fd,F,m⟩:=D
 exact ⟨f,fd,m,F.binds hb,F.ok S len (hbody f)⟩
theorem IN.o {qual:Str} {st:Stmt} {N ps:List Str} {sp:Sp} {k:Nat} (D:HasI K C qual st) (S:zi N ps (zc st))
  (hbody:∀(f:Addr) (cdv:Value) (A:Around) (outer:List Env) (s:Shared) (H:Hp) (vs:List V) (Q:VK) (E:XK),Room k (A.deeper (envOfC qual (zc st) s.heap.objs.size f cdv))→sp vs H Q E→
   ∃t,PSs (cxOf CX0 P w K mg base N qual (zc st) f cdv A outer s H E).nox (zK st) t∧t { nx:=fun _ H'=>Q .non H',rt:=Q } (L2.jq N vs) H)
  (hb:∀(kV doc pm:Value) (an:Option Addr) (cdv ct:Value) (us:List Value),us.length=ps.length→bindArgs (PySem.W.fnOf "__init__" qual (qr st) (zK st) (zc st) .none kV doc pm an cdv ct) ⟨us,[]⟩=pure (ps.zip us):=by (first | exact fun _ _ _ _ _ _=>zU1 fun _=>rfl | exact fun _ _ _ _ _ _=>zU2 fun _ _=>rfl | exact fun _ _ _ _ _ _=>zU3 fun _ _ _=>rfl | exact fun _ _ _ _ _ _=>zU4 fun _ _ _ _=>rfl | exact fun _ _ _ _ _ _=>zU5 fun _ _ _ _ _=>rfl))
  (len:∀vs H Q E,sp vs H Q E→vs.length=ps.length:=by (intro vs H Q E h;repeat (first | (obtain ⟨e,_⟩:=h;subst e;rfl) | (obtain ⟨_,h⟩:=h)))):IN P w K mg base (k+1) C ps sp:=IN.of D S hb len hbody
end
section
variable {X:Cx} {k:Nat} {C:Addr} {x m:Str} {ps:List Str} {sp:Sp} {p pos apos:Pos} {o e:Expr} {es:List Expr} {ta:TE} {t:TA}
theorem z18 {pl:Sem Bool} (he:PE X o ta) (c:Cls X.K C) (F:MN X.prog X.w X.K X.mg X.base k C m ps sp) (hr:Room k X.A) (ha:PA X (e :: es) t)
  (hst:autoParam (starEach (e :: es) X.env=(false,eval e X.env) :: starEach es X.env) aR._auto_1) (hpl:autoParam ((backTo pos (starEach es X.env)).any (·.1)=false) aR._auto_1)
  (ht:autoParam (eval (.Call (.Attribute o m apos) (e :: es) [] pos) X.env=(do
   let ov ←eval o X.env
   standAt apos.atName
   let (f,first) ←holding [ov] (getMethod ov m pl)
   callWith pos f first (backTo pos (starEach (e :: es) X.env)) (backToKw pos (keywordEach [] X.env)))) aR._auto_1):
  PE X (.Call (.Attribute o m apos) (e :: es) [] pos) (z4t C m sp [] E0 ta t):=by
 obtain ⟨f,fd,hm,hb,F⟩:=F
 exact z6E he c hm F hr hb .nil z2e ha hst hpl ht
theorem jC {pl:Sem Bool} (he:PE X o ta) (c:Cls X.K C) (F:MN X.prog X.w X.K X.mg X.base k C m ps sp) (hr:Room k X.A)
  (ht:autoParam (eval (.Call (.Attribute o m apos) [] [] pos) X.env=(do
   let ov ←eval o X.env
   standAt apos.atName
   let (f,first) ←holding [ov] (getMethod ov m pl)
   callWith pos f first (backTo pos (starEach [] X.env)) (backToKw pos (keywordEach [] X.env)))) aR._auto_1):
  PE X (.Call (.Attribute o m apos) [] [] pos) (z4t C m sp [] E0 ta tNil):=by
 obtain ⟨f,fd,hm,hb,F⟩:=F
 exact z4G he c hm F hr hb .nil z2e ht
theorem z8n (F:IN X.prog X.w X.K X.mg X.base k C ps sp) (hr:Room (k+1) X.A) (hg:Gl X x) (hm:X.mg x=some (.ref C)) (ha:PA X (e :: es) t) (hdb:autoParam ((x == ("__debug__":Str))=false) aR._auto_2)
  (he:autoParam (starEach (e :: es) X.env=(false,eval e X.env) :: starEach es X.env) aR._auto_1) (hpl:autoParam ((backTo pos (starEach es X.env)).any (·.1)=false) aR._auto_1):
  PE X (.Call (.Name x p) (e :: es) [] pos) (z7N C sp [] E0 t):=by
 obtain ⟨f,fd,M,hb,F⟩:=F
 exact z6F M F hr hg hm hb .nil z2e ha hdb he hpl
end
section
variable {C:Addr}
theorem Qi {X:Cx}:Z8 X (.type "dict") (fun xs H Q=>∃a kvs,xs=[V.ref a]∧Rd H a (.dK kvs)∧∀p,H p=none→Q (.ref p) (upd H p (.dK kvs))):=by
 intro pins s σ H xs us Q I r h
 obtain ⟨a,kvs,rfl,e,q⟩:=h
 obtain ⟨u,rfl,ru⟩:=QD r
 cases ru
 exact z5v I e fun p s' hp I'=>⟨.ref p,_,I',rfl,q p hp⟩
def z5R (C:Addr):Sp:=fun vs H Q _=>∃x d dx kvs,vs=[.ref x,.ref d]∧H x=some (.ins C dx [])∧H d=some (.dK kvs)∧
 ∀hl kd sl H',H hl=none→H kd=none→H sl=none→qM H' C x hl kd sl dx ⟨[],kvs,[]⟩→(∀b o,H b=some o→b≠x→H' b=some o)→Q .non H'
theorem scH:zi ["self","names"] ["self","names"] (zc (mH 0)):=fsM
theorem z6V (D:HasI K C "Hold.__init__" (mH 0)) (c:jg K C) (G:Glo mg):IN P w K mg base 1 C ["self","names"] (z5R C):=by
 refine IN.o D scH fun f cdv A outer s H vs Q E hr h=>?_
 obtain ⟨x,d,dx,kvs,rfl,hx,hd,q⟩:=h
 refine ⟨_,z8 (j3 (pv 0) (qq z7) rfl) (z8 (j3 (pv 0) (qD Qi rfl G.dict QY (z6 (pv 1) z7)) rfl) (zd (j3 (pv 0) (qq z7) rfl))),?_⟩
 try dsimp only [L2.cxOf,L2.Cx.nox]
 refine ⟨by show 0≤sizeLine;decide,fun hl hhl=>?_⟩
 have nxl:x≠hl:=ze hx hhl
 have ndl:d≠hl:=ze hd hhl
 have ndx:d≠x:=zA hd hx nofun
 refine ⟨_,rfl,x,C,dx,[],rfl,by rw [zf nxl];exact hx,c.cl,c.held,by decide,?_⟩
 refine ⟨_,rfl,d,kvs,rfl,.inl (by rw [zf ndx,zf ndl];exact hd),fun kd hkd=>?_⟩
 have nkx:kd≠x:=fun z=>by rw [z,zb] at hkd;cases hkd
 have hkd1:(upd H hl (.lst [])) kd=none:=by rw [zf nkx] at hkd;exact hkd
 have nkl:kd≠hl:=fun z=>by rw [z,zb] at hkd1;cases hkd1
 have hkd0:H kd=none:=by rw [zf nkl] at hkd1;exact hkd1
 refine ⟨_,rfl,x,C,dx,_,rfl,by rw [zf nkx.symm];exact zb,c.cl,c.known,(by show 1 < 1000;decide),?_⟩
 refine ⟨by show 0≤sizeLine;decide,fun sl hsl=>?_⟩
 have nsx:sl≠x:=fun z=>by rw [z,zb] at hsl;cases hsl
 have hsl1:=hsl
 rw [zf nsx] at hsl1
 have nsk:sl≠kd:=fun z=>by rw [z,zb] at hsl1;cases hsl1
 rw [zf nsk,zf nsx] at hsl1
 have nsl:sl≠hl:=fun z=>by rw [z,zb] at hsl1;cases hsl1
 rw [zf nsl] at hsl1
 refine ⟨_,rfl,x,C,dx,_,rfl,by rw [zf nsx.symm];exact zb,c.cl,c.said,(by show 2 < 1000;decide),?_⟩
 refine q hl kd sl _ hhl hkd0 hsl1 ⟨zb,?_,?_,?_,nsl.symm⟩ fun b o e hb=>?_
 ·rw [zf nxl.symm,zf nsl.symm,zf nxl.symm,zf nkl.symm,zf nxl.symm];exact zb
 ·rw [zf nkx,zf nsk.symm,zf nkx];exact zb
 ·rw [zf nsx];exact zb
 ·rw [zf hb,zf (ze e hsl1),zf hb,zf (ze e hkd0),zf hb,zf (ze e hhl)];exact e
end
structure Qr (K:kC) (C:Addr):Prop where
 cl:Cls K C
 rows:j5 K C "rows"
 goals:j5 K C "goals"
 hold:j5 K C "hold"
 wards:j5 K C "wards"
 passed:j5 K C "passed"
 ending:j5 K C "ending"
 here:j5 K C "here"
structure WAd where
 (wk dw rl gd ho wl pl hl kd sl dx:Addr)
noncomputable def z1h:Option Nat→V
 | none=>.non
 | some p=>.int (p:Nat)
noncomputable def wfs (a:WAd) (ea:V) (here:V):List (Str × V):=[("rows",.ref a.rl),("goals",.ref a.gd),("hold",.ref a.ho),("wards",.ref a.wl),("passed",.ref a.pl),("ending",ea),("here",here)]
structure zC (K:kC) (H0 H:Hp) (CW CH:Addr) (a:WAd) (rs:List Row) (m:Mst) (gs:List Gd) (pas:List Nat) (e:List V) (here:Option Nat):Prop where
 same:Same H0 H
 f1:H0 a.wk=none
 f2:H0 a.pl=none
 f3:H0 a.hl=none
 f4:H0 a.kd=none
 f5:H0 a.sl=none
 f6:H0 a.wl=none
 f7:H0 a.ho=none
 ins:∃ea,H a.wk=some (.ins CW a.dw (wfs a (.ref ea) (z1h here)))∧SqT K H ea e
 rows:∃as,H a.rl=some (.lst (as.map V.ref))∧zV H as rs
 goals:∃kvs,H a.gd=some (.dK kvs)∧Q6 kvs rs
 hold:qM H CH a.ho a.hl a.kd a.sl a.dx m
 wards:∃gas,H a.wl=some (.lst (gas.map V.ref))∧GsIn H gas gs
 passed:H a.pl=some (.lst (pas.map fun p=>V.int (p:Nat)))
 n1:a.rl≠a.hl
 n2:a.rl≠a.sl
 n3:a.rl≠a.pl
 n4:a.wl≠a.hl
 n5:a.wl≠a.sl
 n6:a.wl≠a.pl
 n7:a.pl≠a.hl
 n8:a.pl≠a.sl
 n9:a.gd≠a.kd
 n10:a.wk≠a.ho
 n11:a.rl≠a.wl
section
variable {K:kC} {H0 H H':Hp} {CW CH:Addr} {a:WAd} {rs:List Row} {m m':Mst} {gs gs':List Gd} {pas:List Nat} {e e':List V} {here here':Option Nat}
theorem zC.same' (W:zC K H0 H CW CH a rs m gs pas e here) (s:Same H H'):zC K H0 H' CW CH a rs m gs pas e here:=by
 obtain ⟨ea,i1,i2⟩:=W.ins
 obtain ⟨as,r1,r2⟩:=W.rows
 obtain ⟨kv,g1,g2⟩:=W.goals
 obtain ⟨gas,w1,w2⟩:=W.wards
 exact ⟨W.same.trans s,W.f1,W.f2,W.f3,W.f4,W.f5,W.f6,W.f7,⟨ea,s _ _ i1,jL s i2⟩,⟨as,s _ _ r1,r2.same s⟩,⟨kv,s _ _ g1,g2⟩,W.hold.same s,⟨gas,s _ _ w1,w2.keep (qo.of s)⟩,s _ _ W.passed,W.n1,W.n2,W.n3,W.n4,W.n5,W.n6,W.n7,W.n8,W.n9,W.n10,W.n11⟩
theorem zC.fields (W:zC K H0 H CW CH a rs m gs pas e here) {ea:Addr} (he:SqT K H ea e'):zC K H0 (upd H a.wk (.ins CW a.dw (wfs a (.ref ea) (z1h here')))) CW CH a rs m gs pas e' here':=by
 obtain ⟨ea0,i1,i2⟩:=W.ins
 obtain ⟨as,r1,r2⟩:=W.rows
 obtain ⟨kv,g1,g2⟩:=W.goals
 obtain ⟨gas,w1,w2⟩:=W.wards
 have kt:=qo.upd (o:=.ins CW a.dw (wfs a (.ref ea) (z1h here'))) i1 rfl
 refine ⟨fun b o h=>by rw [zf (ze h W.f1)];exact W.same _ _ h,W.f1,W.f2,W.f3,W.f4,W.f5,W.f6,W.f7,⟨ea,zb,qS kt he⟩,⟨as,by rw [zf (zA r1 i1 nofun)];exact r1,r2.keep fun b xs h=>kt _ _ h rfl⟩,
  ⟨kv,by rw [zf (zA g1 i1 nofun)];exact g1,g2⟩,⟨by rw [zf W.n10.symm];exact W.hold.ins,by rw [zf (zA W.hold.held i1 nofun)];exact W.hold.held,by rw [zf (zA W.hold.known i1 nofun)];exact W.hold.known,by rw [zf (zA W.hold.said i1 nofun)];exact W.hold.said,W.hold.ne⟩,
  ⟨gas,by rw [zf (zA w1 i1 nofun)];exact w1,w2.keep kt⟩,by rw [zf (zA W.passed i1 nofun)];exact W.passed,W.n1,W.n2,W.n3,W.n4,W.n5,W.n6,W.n7,W.n8,W.n9,W.n10,W.n11⟩
theorem zC.pass (W:zC K H0 H CW CH a rs m gs pas e here) (p:Nat):zC K H0 (upd H a.pl (.lst ((pas.map fun p=>V.int (p:Nat))++[.int (p:Nat)]))) CW CH a rs m gs (pas++[p]) e here:=by
 obtain ⟨ea,i1,i2⟩:=W.ins
 obtain ⟨as,r1,r2⟩:=W.rows
 obtain ⟨kv,g1,g2⟩:=W.goals
 obtain ⟨gas,w1,w2⟩:=W.wards
 have kt:=qo.upd (o:=.lst ((pas.map fun p=>V.int (p:Nat))++[.int (p:Nat)])) W.passed rfl
 refine ⟨fun b o h=>by rw [zf (ze h W.f2)];exact W.same _ _ h,W.f1,W.f2,W.f3,W.f4,W.f5,W.f6,W.f7,⟨ea,by rw [zf (zA i1 W.passed nofun)];exact i1,qS kt i2⟩,⟨as,by rw [zf W.n3];exact r1,r2.keep fun b xs h=>kt _ _ h rfl⟩,
  ⟨kv,by rw [zf (zA g1 W.passed nofun)];exact g1,g2⟩,⟨by rw [zf (zA W.hold.ins W.passed nofun)];exact W.hold.ins,by rw [zf W.n7.symm];exact W.hold.held,by rw [zf (zA W.hold.known W.passed nofun)];exact W.hold.known,by rw [zf W.n8.symm];exact W.hold.said,W.hold.ne⟩,
  ⟨gas,by rw [zf W.n6];exact w1,w2.keep kt⟩,by rw [zb,kN];rfl,W.n1,W.n2,W.n3,W.n4,W.n5,W.n6,W.n7,W.n8,W.n9,W.n10,W.n11⟩
theorem zC.deed (W:zC K H0 H CW CH a rs m gs pas e here) (hA:qM H' CH a.ho a.hl a.kd a.sl a.dx m') (r:qh H H' a.hl a.kd a.sl):zC K H0 H' CW CH a rs m' gs pas e here:=by
 obtain ⟨ea,i1,i2⟩:=W.ins
 obtain ⟨as,r1,r2⟩:=W.rows
 obtain ⟨kv,g1,g2⟩:=W.goals
 obtain ⟨gas,w1,w2⟩:=W.wards
 have kt:qo H H':=fun b o h t=>r b o h (fun z=>by rw [z,W.hold.held] at h;cases h;cases t) (fun z=>by rw [z,W.hold.known] at h;cases h;cases t) (fun z=>by rw [z,W.hold.said] at h;cases h;cases t)
 refine ⟨fun b o h=>r b o (W.same _ _ h) (ze h W.f3) (ze h W.f4) (ze h W.f5),W.f1,W.f2,W.f3,W.f4,W.f5,W.f6,W.f7,
  ⟨ea,r _ _ i1 (zA i1 W.hold.held nofun) (zA i1 W.hold.known nofun) (zA i1 W.hold.said nofun),qS kt i2⟩,⟨as,r _ _ r1 W.n1 (zA r1 W.hold.known nofun) W.n2,r2.keep fun b xs h=>kt _ _ h rfl⟩,
  ⟨kv,r _ _ g1 (zA g1 W.hold.held nofun) W.n9 (zA g1 W.hold.said nofun),g2⟩,hA,⟨gas,r _ _ w1 W.n4 (zA w1 W.hold.known nofun) W.n5,w2.keep kt⟩,r _ _ W.passed W.n7 (zA W.passed W.hold.known nofun) W.n8,
  W.n1,W.n2,W.n3,W.n4,W.n5,W.n6,W.n7,W.n8,W.n9,W.n10,W.n11⟩
theorem zC.ward (W:zC K H0 H CW CH a rs m gs pas e here) (k:jk H H' a.wl) {gas':List Addr} (h1:H' a.wl=some (.lst (gas'.map V.ref))) (h2:GsIn H' gas' gs'):zC K H0 H' CW CH a rs m gs' pas e here:=by
 obtain ⟨ea,i1,i2⟩:=W.ins
 obtain ⟨as,r1,r2⟩:=W.rows
 obtain ⟨kv,g1,g2⟩:=W.goals
 obtain ⟨gas,w1,w2⟩:=W.wards
 have kt:qo H H':=fun b o h t=>k b o h (fun z=>by rw [z,w1] at h;cases h;cases t)
 exact ⟨fun b o h=>k b o (W.same _ _ h) (ze h W.f6),W.f1,W.f2,W.f3,W.f4,W.f5,W.f6,W.f7,⟨ea,k _ _ i1 (zA i1 w1 nofun),qS kt i2⟩,⟨as,k _ _ r1 W.n11,r2.keep fun b xs h=>kt _ _ h rfl⟩,
  ⟨kv,k _ _ g1 (zA g1 w1 nofun),g2⟩,⟨k _ _ W.hold.ins (zA W.hold.ins w1 nofun),k _ _ W.hold.held W.n4.symm,k _ _ W.hold.known (zA W.hold.known w1 nofun),k _ _ W.hold.said W.n5.symm,W.hold.ne⟩,⟨gas',h1,h2⟩,k _ _ W.passed W.n6.symm,
  W.n1,W.n2,W.n3,W.n4,W.n5,W.n6,W.n7,W.n8,W.n9,W.n10,W.n11⟩
theorem zC.stack (W:zC K H0 H CW CH a rs m gs pas e here) {p:Addr} {xs:List V} (hp:H p=some (.lst xs)) (fp:H0 p=none) (q1:a.rl≠p) (q2:a.wl≠p) (q3:a.pl≠p) (q4:p≠a.sl):
  zC K H0 (upd H a.ho (.ins CH a.dx [("held",.ref p),("known",.ref a.kd),("said",.ref a.sl)])) CW CH { a with hl:=p } rs { m with st:=xs } gs pas e here:=by
 obtain ⟨ea,i1,i2⟩:=W.ins
 obtain ⟨as,r1,r2⟩:=W.rows
 obtain ⟨kv,g1,g2⟩:=W.goals
 obtain ⟨gas,w1,w2⟩:=W.wards
 have kt:=qo.upd (o:=.ins CH a.dx [("held",.ref p),("known",.ref a.kd),("said",.ref a.sl)]) W.hold.ins rfl
 exact ⟨fun b o h=>by rw [zf (ze h W.f7)];exact W.same _ _ h,W.f1,W.f2,fp,W.f4,W.f5,W.f6,W.f7,⟨ea,by rw [zf W.n10];exact i1,qS kt i2⟩,⟨as,by rw [zf (zA r1 W.hold.ins nofun)];exact r1,r2.keep fun b xs h=>kt _ _ h rfl⟩,
  ⟨kv,by rw [zf (zA g1 W.hold.ins nofun)];exact g1,g2⟩,⟨zb,by rw [zf (zA hp W.hold.ins nofun)];exact hp,by rw [zf (zA W.hold.known W.hold.ins nofun)];exact W.hold.known,by rw [zf (zA W.hold.said W.hold.ins nofun)];exact W.hold.said,q4⟩,
  ⟨gas,by rw [zf (zA w1 W.hold.ins nofun)];exact w1,w2.keep kt⟩,by rw [zf (zA W.passed W.hold.ins nofun)];exact W.passed,q1,W.n2,W.n3,q2,W.n5,W.n6,q3,W.n8,W.n9,W.n10,W.n11⟩
end
noncomputable def jp (rs:List Row) (d:Nat):Nat→Nat→List Gd→Option (Nat × List Gd)
 | 0,_,_=>none
 | n+1,p,gs=>match rs[p]? with
  | some r=>if r.op="label" then jp rs d n (p+1) gs
   else if r.op="try" then (match r.arg with | .int k=>if qO gs.length=true then jp rs d n (p+1) (gs++[(k,(d:Int))]) else none | _=>none)
   else if r.op="endtry" then (if gs=[] then none else jp rs d n (p+1) gs.dropLast)
   else some (p,gs)
  | none=>none
noncomputable def Jc:List Str:=["label","try","endtry"]
section
variable {CW CH:Addr}
def z04 (K:kC) (CW CH:Addr):Sp:=fun vs H Q _=>∃(wk dw rl wl ho dx hl:Addr) (fs hfs:List (Str × V)) (as gas:List Addr) (rs:List Row) (st:List V) (gs:List Gd) (p n p':Nat) (gs':List Gd),vs=[.ref wk,.int (p:Nat)]∧H wk=some (.ins CW dw fs)∧fs.lookup ("rows":Str)=some (V.ref rl)∧fs.lookup ("wards":Str)=some (V.ref wl)∧fs.lookup ("hold":Str)=some (V.ref ho)∧
 H ho=some (.ins CH dx hfs)∧hfs.lookup ("held":Str)=some (V.ref hl)∧H hl=some (.lst st)∧H rl=some (.lst (as.map V.ref))∧zV H as rs∧H wl=some (.lst (gas.map V.ref))∧GsIn H gas gs∧rl≠wl∧hl≠wl∧jp rs st.length n p gs=some (p',gs')∧
 ∀gas' H',jk H H' wl→H' wl=some (.lst (gas'.map V.ref))→GsIn H' gas' gs'→Q (.int (p':Nat)) H'
theorem scW1:zi ["self","place","op","arg"] ["self","place"] (zc (mW 1)):=fsM
theorem z64 {H:Hp} {gas:List Addr} {gs:List Gd} (h:GsIn H gas gs) (hne:gs≠[]):∃bs a g,gas=bs++[a]∧gs.getLast?=some g∧GsIn H bs gs.dropLast∧H a=some (.tup [.int g.1,.int g.2]):=by
 rcases h.last with ⟨_,e2⟩ | ⟨bs,a,g,e1,e2,e3⟩
 ·exact absurd e2 hne
 ·have hd:=h.dropLast
  rw [e1,kL] at hd
  exact ⟨bs,a,g,e1,e2,hd,e3⟩
def z9d (H:Hp) (rs:List Row) (d:Nat) (wk wl:Addr) (p':Nat) (gs':List Gd) (k:Nat) (σ:L2.St) (H2:Hp):Prop:=∃p r gs gas,σ=[some (.ref wk),some (.int (p:Nat)),some (.str r.op),some r.arg]∧jp rs d k p gs=some (p',gs')∧rs[p]?=some r∧jk H H2 wl∧H2 wl=some (.lst (gas.map V.ref))∧GsIn H2 gas gs
theorem z9H (W:Nat→L2.St→Hp→Prop) (k:Nat):∃N:L2.St→Hp→Prop,(∀σ' H',N σ' H'→∃m',m' < k+1∧W m' σ' H')∧∀σ' H',W k σ' H'→N σ' H':=⟨W k,fun _ _ h=>⟨k,ye _,h⟩,fun _ _ h=>h⟩
theorem z8B (D:HasM K CW "come_to" "Walk.come_to" (mW 1)) (c:Qr K CW) (ch:jg K CH) (G:Glo mg):MN P w K mg base 1 CW "come_to" ["self","place"] (z04 K CW CH):=by
 refine MN.o D scW1 fun f cdv A outer s H vs Q E hr h=>?_
 obtain ⟨wk,dw,rl,wl,ho,dx,hl,fs,hfs,as,gas,rs,st,gs,p,n,p',gs',rfl,i1,fr,fw,fh,j1,fl,hst,r1,r2,w1,w2,nrw,nlw,hcm,q⟩:=h
 refine ⟨_,z8 (Qb (i:=2) (j:=3) rfl scW1.nd rfl rfl (by decide) rfl rfl (z6 (qc qE (qc zT (zx (pv 0) rfl) (pv 1) (fun _ _=>rfl)) zg (fun _ _=>rfl)) (z6 (qc qE (qc zT (zx (pv 0) rfl) (pv 1) (fun _ _=>rfl)) zg (fun _ _=>rfl)) z7)) rfl)
  (z8 (z1B PassesOwn.never (zm jd (pv 2) (zZ (z6 zk (z6 zk (z6 zk z7)))) rfl)
   (z8 (zJ (zm qJ (pv 2) zk (zq _)) (zd (zj (jj (zx (pv 0) rfl) (z6 (zZ (z6 (pv 3) (z6 (zy zL rfl G.len qv (z6 (zx (zx (pv 0) rfl) rfl) z7)) z7))) z7))))
    (zd (zJ (zm qJ (pv 2) zk (zq _)) (zd (zj (jA (zx (pv 0) rfl)))) zw)))
   (z8 (z8h (i:=1) scW1.nd rfl (Or.inl rfl) zg z8H)
   (zd (Qb (i:=2) (j:=3) rfl scW1.nd rfl rfl (by decide) rfl rfl (z6 (qc qE (qc zT (zx (pv 0) rfl) (pv 1) (fun _ _=>rfl)) zg (fun _ _=>rfl)) (z6 (qc qE (qc zT (zx (pv 0) rfl) (pv 1) (fun _ _=>rfl)) zg (fun _ _=>rfl)) z7)) rfl)))))
  (zd (zl (pv 1)))),?_⟩
 try dsimp only [L2.cxOf,L2.Cx.nox]
 have row:∀{p n gs p' gs'} {H2:Hp},jp rs st.length n p gs=some (p',gs')→jk H H2 wl→∃r ra,rs[p]?=some r∧(as.map V.ref)[p]?=some (V.ref ra)∧H2 ra=some (.tup (tupV r)):=fun {p n gs p' gs' H2} h k2=>by
  cases n with
  | zero=>cases h
  | succ n=>
   unfold jp at h
   cases hr:rs[p]? with
   | none=>rw [hr] at h;cases h
   | some r=>
    obtain ⟨ra,e1,e2⟩:=r2.get' hr
    exact ⟨r,ra,rfl,e1,k2 _ _ e2 (zA e2 w1 nofun)⟩
 obtain ⟨r,ra,hrp,hra,har⟩:=row hcm (fun _ _ e _=>e)
 refine ⟨_,rfl,wk,CW,dw,_,.ref rl,rfl,i1,c.cl,c.rows,fr,_,rfl,rl,_,_,_,rfl,rfl,SqL.of r1,zt hra,ra,_,_,_,rfl,rfl,SqT.of har,zt (j:=0) rfl,
  _,rfl,wk,CW,dw,_,.ref rl,rfl,i1,c.cl,c.rows,fr,_,rfl,rl,_,_,_,rfl,rfl,SqL.of r1,zt hra,ra,_,_,_,rfl,rfl,SqT.of har,zt (j:=1) rfl,_,_,rfl,?_⟩
 refine ⟨z9d H rs st.length wk wl p' gs',⟨n,p,r,gs,gas,rfl,hcm,hrp,fun _ _ e _=>e,w1,w2⟩,?_⟩
 clear hrp hra har hcm w2
 rintro k σ H2 ⟨p,r,gs,gas2,rfl,hcm,hrp,k2,v1,v2⟩
 refine ⟨_,rfl,by show 3≤sizeLine;decide,fun t ht=>?_⟩
 have s3:=zh ht (.tup [.str "label",.str "try",.str "endtry"])
 have k3:jk H (upd H2 t (.tup [.str "label",.str "try",.str "endtry"])) wl:=fun b o e h=>s3 _ _ (k2 b o e h)
 have v1':=s3 _ _ v1
 have v2':=v2.same s3
 refine ⟨t,_,rfl,.inr (SqT.of zb),rfl,rfl,inT r.op Jc,rfl,?_⟩
 generalize upd H2 t (.tup [.str "label",.str "try",.str "endtry"])=H3 at *
 clear s3 k2 v1 v2 ht
 cases k with
 | zero=>cases hcm
 | succ k=>
  unfold jp at hcm
  rw [hrp] at hcm
  dsimp only at hcm
  refine ite2 (fun cc=>?_) (fun cc=>?_)
  ·have cc:inT r.op Jc=true:=cc
   rw [Zo] at cc
   obtain ⟨N,hN1,hN2⟩:=z9H (z9d H rs st.length wk wl p' gs') k
   refine ⟨N,hN1,?_⟩
   have i1':=k3 _ _ i1 (zA i1 w1 nofun)
   have j1':=k3 _ _ j1 (zA j1 w1 nofun)
   have hst':=k3 _ _ hst nlw
   have read:∀{gs2:List Gd} {gas3:List Addr} {H4:Hp},jp rs st.length k (p+1) gs2=some (p',gs')→jk H H4 wl→H4 wl=some (.lst (gas3.map V.ref))→GsIn H4 gas3 gs2→
     ∃r' ra',rs[p+1]?=some r'∧(as.map V.ref)[p+1]?=some (V.ref ra')∧H4 ra'=some (.tup (tupV r'))∧H4 wk=some (.ins CW dw fs)∧H4 rl=some (.lst (as.map V.ref)):=fun h k4 _ _=>by
    obtain ⟨r',ra',a1,a2,a3⟩:=row h k4
    exact ⟨r',ra',a1,a2,a3,k4 _ _ i1 (zA i1 w1 nofun),k4 _ _ r1 nrw⟩
   refine ⟨_,rfl,rfl,decide (r.op="try"),congrArg V.bl Zq,?_⟩
   by_cases h2:r.op="try"
   ·have n1:¬r.op="label":=by rw [h2];decide+kernel
    rw [kD n1,kE h2] at hcm
    rw [kl h2]
    cases ha:r.arg with
    | int mk=>
     rw [ha] at hcm
     dsimp only at hcm
     by_cases hz:qO gs.length=true
     case neg=>rw [kD hz] at hcm;cases hcm
     rw [kE hz] at hcm
     refine iteT ⟨_,rfl,wk,CW,dw,_,.ref wl,rfl,i1',c.cl,c.wards,fw,.inl ⟨rfl,_,SqL.of v1'⟩,_,rfl,_,rfl,wk,CW,dw,_,.ref ho,rfl,i1',c.cl,c.hold,fh,ho,CH,dx,_,.ref hl,rfl,j1',ch.cl,ch.held,fl,hl,_,rfl,.inl (SqL.of hst'),by show 2≤sizeLine;decide,fun ga hga=>?_⟩
     have sg:=zh hga (.tup [.int mk,.int (st.length:Nat)])
     have hgl:gas2.length=gs.length:=v2'.length
     refine ⟨wl,_,_,rfl,rfl,sg _ _ v1',by rw [km,hgl];exact j9 hz,?_⟩
     have k4:jk H (upd (upd H3 ga (.tup [.int mk,.int (st.length:Nat)])) wl (.lst (gas2.map V.ref++[.ref ga]))) wl:=fun b o e h=>by rw [zf h];exact sg _ _ (k3 b o e h)
     have v3:(upd (upd H3 ga (.tup [.int mk,.int (st.length:Nat)])) wl (.lst (gas2.map V.ref++[.ref ga]))) wl=some (.lst ((gas2++[ga]).map V.ref)):=by rw [zb,kN];rfl
     have v4:GsIn (upd (upd H3 ga (.tup [.int mk,.int (st.length:Nat)])) wl (.lst (gas2.map V.ref++[.ref ga]))) (gas2++[ga]) (gs++[(mk,(st.length:Int))]):=by
      have kt:qo (upd H3 ga (.tup [.int mk,.int (st.length:Nat)])) (upd (upd H3 ga (.tup [.int mk,.int (st.length:Nat)])) wl (.lst (gas2.map V.ref++[.ref ga]))):=qo.upd (sg _ _ v1') rfl
      exact ((v2'.same sg).append (.cons zb .nil)).keep kt
     generalize upd (upd H3 ga (.tup [.int mk,.int (st.length:Nat)])) wl (.lst (gas2.map V.ref++[.ref ga]))=H4 at *
     obtain ⟨r',ra',hrp',hra',har',i4,l4⟩:=read hcm k4 v3 v4
     refine ⟨_,rfl,_,_,rfl,rfl,?_⟩
     refine ⟨_,rfl,wk,CW,dw,_,.ref rl,rfl,i4,c.cl,c.rows,fr,_,rfl,rl,_,_,_,rfl,rfl,SqL.of l4,zt hra',ra',_,_,_,rfl,rfl,SqT.of har',zt (j:=0) rfl,
      _,rfl,wk,CW,dw,_,.ref rl,rfl,i4,c.cl,c.rows,fr,_,rfl,rl,_,_,_,rfl,rfl,SqL.of l4,zt hra',ra',_,_,_,rfl,rfl,SqT.of har',zt (j:=1) rfl,_,_,rfl,?_⟩
     exact hN2 _ _ ⟨p+1,r',_,_,rfl,hcm,hrp',k4,v3,v4⟩
    | _=>rw [ha] at hcm;cases hcm
   ·rw [kj h2]
    refine iteF ⟨_,rfl,rfl,decide (r.op="endtry"),congrArg V.bl Zq,?_⟩
    by_cases h3:r.op="endtry"
    ·have n1:¬r.op="label":=by rw [h3];decide+kernel
     rw [kD n1,kD h2,kE h3] at hcm
     rw [kl h3]
     by_cases hg:gs=[]
     ·rw [kE hg] at hcm;cases hcm
     rw [kD hg] at hcm
     obtain ⟨bs,ga,g,e1,e2,e3,e4⟩:=z64 v2' hg
     subst e1
     have hlast:((bs++[ga]).map V.ref)[((bs++[ga]).map V.ref).length - 1]?=some (V.ref ga):=by rw [←List.getLast?_eq_getElem?,kN];simp
     refine iteT ⟨_,rfl,wk,CW,dw,_,.ref wl,rfl,i1',c.cl,c.wards,fw,.inl ⟨rfl,_,SqL.of v1'⟩,wl,_,_,rfl,rfl,v1',hlast,?_⟩
     have ed:((bs++[ga]).map V.ref).dropLast=bs.map V.ref:=by rw [kN];simp
     rw [ed]
     have k4:jk H (upd H3 wl (.lst (bs.map V.ref))) wl:=fun b o e h=>by rw [zf h];exact k3 b o e h
     have v3:(upd H3 wl (.lst (bs.map V.ref))) wl=some (.lst (bs.map V.ref)):=zb
     have v4:GsIn (upd H3 wl (.lst (bs.map V.ref))) bs gs.dropLast:=e3.keep (qo.upd v1' rfl)
     generalize upd H3 wl (.lst (bs.map V.ref))=H4 at *
     obtain ⟨r',ra',hrp',hra',har',i4,l4⟩:=read hcm k4 v3 v4
     refine ⟨_,rfl,_,_,rfl,rfl,?_⟩
     refine ⟨_,rfl,wk,CW,dw,_,.ref rl,rfl,i4,c.cl,c.rows,fr,_,rfl,rl,_,_,_,rfl,rfl,SqL.of l4,zt hra',ra',_,_,_,rfl,rfl,SqT.of har',zt (j:=0) rfl,
      _,rfl,wk,CW,dw,_,.ref rl,rfl,i4,c.cl,c.rows,fr,_,rfl,rl,_,_,_,rfl,rfl,SqL.of l4,zt hra',ra',_,_,_,rfl,rfl,SqT.of har',zt (j:=1) rfl,_,_,rfl,?_⟩
     exact hN2 _ _ ⟨p+1,r',_,_,rfl,hcm,hrp',k4,v3,v4⟩
    ·have h1:r.op="label":=by
      rcases kH.mp cc with z | z
      ·exact z
      ·rcases kH.mp z with z | z
       ·exact absurd z h2
       ·exact absurd (ku.mp z) h3
     rw [kE h1] at hcm
     rw [kj h3]
     obtain ⟨r',ra',hrp',hra',har',i4,l4⟩:=read hcm k3 v1' v2'
     refine iteF ⟨_,rfl,_,_,rfl,rfl,?_⟩
     refine ⟨_,rfl,wk,CW,dw,_,.ref rl,rfl,i4,c.cl,c.rows,fr,_,rfl,rl,_,_,_,rfl,rfl,SqL.of l4,zt hra',ra',_,_,_,rfl,rfl,SqT.of har',zt (j:=0) rfl,
      _,rfl,wk,CW,dw,_,.ref rl,rfl,i4,c.cl,c.rows,fr,_,rfl,rl,_,_,_,rfl,rfl,SqL.of l4,zt hra',ra',_,_,_,rfl,rfl,SqT.of har',zt (j:=1) rfl,_,_,rfl,?_⟩
     exact hN2 _ _ ⟨p+1,r',_,_,rfl,hcm,hrp',k3,v1',v2'⟩
  ·have cc:¬inT r.op Jc=true:=cc
   rw [Zo] at cc
   have h1:¬r.op="label":=fun z=>cc (by rw [z];decide+kernel)
   have h2:¬r.op="try":=fun z=>cc (by rw [z];decide+kernel)
   have h3:¬r.op="endtry":=fun z=>cc (by rw [z];decide+kernel)
   rw [kD h1,kD h2,kD h3] at hcm
   cases hcm
   exact ⟨_,rfl,q _ _ k3 v1' v2'⟩
end
section
variable {CW CH:Addr}
theorem zC.come {H0 H:Hp} {a:WAd} {rs:List Row} {m:Mst} {gs gs':List Gd} {pas:List Nat} {e:List V} {here:Option Nat} {n p p':Nat} {Q:VK} {E:XK} (W:zC K H0 H CW CH a rs m gs pas e here) (hcm:jp rs m.st.length n p gs=some (p',gs'))
  (q:∀H',zC K H0 H' CW CH a rs m gs' pas e here→Q (.int (p':Nat)) H'):z04 K CW CH [.ref a.wk,.int (p:Nat)] H Q E:=by
 obtain ⟨ea,i1,i2⟩:=W.ins
 obtain ⟨as,r1,r2⟩:=W.rows
 obtain ⟨gas,w1,w2⟩:=W.wards
 exact ⟨a.wk,a.dw,a.rl,a.wl,a.ho,a.dx,a.hl,_,_,as,gas,rs,m.st,gs,p,n,p',gs',rfl,i1,rfl,rfl,rfl,W.hold.ins,rfl,W.hold.held,r1,r2,w1,w2,W.n11,W.n4.symm,hcm,fun gas' H' k h1 h2=>q H' (W.ward k h1 h2)⟩
def z6s (K:kC) (CW CH:Addr):Sp:=fun vs H Q _=>∃(a:WAd) (H0:Hp) (rs:List Row) (m:Mst) (gs:List Gd) (pas:List Nat) (e:List V) (here:Option Nat) (ea:Addr) (e':List V),vs=[.ref a.wk,.ref ea]∧zC K H0 H CW CH a rs m gs pas e here∧SqT K H ea e'∧∀H',zC K H0 H' CW CH a rs m gs pas e' none→Q .non H'
theorem scW2:zi ["self","ending"] ["self","ending"] (zc (mW 2)):=fsM
theorem z9I (D:HasM K CW "finish" "Walk.finish" (mW 2)) (c:Qr K CW):MN P w K mg base 1 CW "finish" ["self","ending"] (z6s K CW CH):=by
 refine MN.o D scW2 fun f cdv A outer s H vs Q E hr h=>?_
 obtain ⟨a,H0,rs,m,gs,pas,e,here,ea,e',rfl,W,he,q⟩:=h
 obtain ⟨ea0,i1,i2⟩:=W.ins
 refine ⟨_,z8 (j3 (pv 0) qm rfl) (zd (j3 (pv 0) (pv 1) rfl)),?_⟩
 try dsimp only [L2.cxOf,L2.Cx.nox]
 refine ⟨_,rfl,a.wk,CW,a.dw,_,rfl,i1,c.cl,c.here,(by show 7 < 1000;decide),?_⟩
 have W1:=W.fields (here':=none) i2
 have kt:=qo.upd (o:=.ins CW a.dw (wfs a (.ref ea0) (z1h none))) i1 rfl
 refine ⟨_,rfl,_,rfl,a.wk,CW,a.dw,wfs a (.ref ea0) (z1h none),rfl,zb,c.cl,c.ending,(by show 7 < 1000;decide),?_⟩
 exact q _ (W1.fields (here':=none) (qS kt he))
noncomputable def Qk (rs:List Row) (m:Mst) (gs:List Gd) (e:List V) (kind:Str) (line:Int):Option (Mst × List Gd × List V × Option Nat):=match gs.getLast? with
 | none=>some (m,gs,[.str "fault",.str kind,.int line],none)
 | some g=>if qO m.st.length=true then (match zE rs g.1 with
  | some j=>(match jp rs (cutV m.st none (some g.2)++[V.str kind]).length 200 j gs.dropLast with
   | some (p',gs')=>some ({ m with st:=cutV m.st none (some g.2)++[V.str kind] },gs',e,some p')
   | none=>none)
  | none=>none) else none
def z5N (K:kC) (CW CH:Addr):Sp:=fun vs H Q _=>∃(a:WAd) (H0:Hp) (rs:List Row) (m:Mst) (gs:List Gd) (pas:List Nat) (e:List V) (here:Option Nat) (kind:Str) (line:Int) (m':Mst) (gs':List Gd) (e':List V) (here':Option Nat),vs=[.ref a.wk,.str kind,.int line]∧zC K H0 H CW CH a rs m gs pas e here∧Qk rs m gs e kind line=some (m',gs',e',here')∧∀a' H',a'.wk=a.wk→zC K H0 H' CW CH a' rs m' gs' pas e' here'→Q .non H'
theorem scW3:zi ["self","kind","line","mark","depth","hold"] ["self","kind","line"] (zc (mW 3)):=fsM
theorem z8A (D:HasM K CW "take_fault" "Walk.take_fault" (mW 3)) (c:Qr K CW) (ch:jg K CH) (F1:MN P w K mg base 1 CW "finish" ["self","ending"] (z6s K CW CH)) (F3:MN P w K mg base 1 CW "come_to" ["self","place"] (z04 K CW CH)):MN P w K mg base 2 CW "take_fault" ["self","kind","line"] (z5N K CW CH):=by
 refine MN.o D scW3 fun f cdv A outer s H vs Q E hr h=>?_
 obtain ⟨a,H0,rs,m,gs,pas,e,here,kind,line,m',gs',e',here',rfl,W,htk,q⟩:=h
 have hu:=Qo hr
 refine ⟨_,z8 (zJ (Za (Qw (zx (pv 0) rfl) (fun _=>rfl))) (z8 (zj (z18 (pv 0) c.cl F1 hr (z6 (zZ (z6 zk (z6 (pv 1) (z6 (pv 2) z7)))) z7))) (zd z6B)) zw)
  (z8 (jb (jA (zx (pv 0) rfl)) (jc rfl (zr (zu (i:=3) scW3.nd rfl (Or.inl rfl)) (zr (zu (i:=4) scW3.nd rfl (Or.inl rfl)) qx))))
  (z8 (zG (i:=5) scW3.nd rfl (Or.inl rfl) (zx (pv 0) rfl))
  (z8 (j3 (pv 5) (zO z1J (ZD Js (zx (pv 5) rfl) QJ (QI (pv 4))) (qq (z6 (pv 1) z7))) rfl)
  (zd (j3 (pv 0) (z18 (pv 0) c.cl F3 hr (z6 (ZY hu (zx (pv 0) rfl) (pv 3) (fun _ _=>rfl)) z7)) rfl))))),?_⟩
 try dsimp only [L2.cxOf,L2.Cx.nox]
 obtain ⟨ea0,i1,i2⟩:=W.ins
 obtain ⟨gas,w1,w2⟩:=W.wards
 unfold Qk at htk
 cases hgl:gs.getLast? with
 | none=>
  rw [hgl] at htk
  cases htk
  have hg0:gs=[]:=List.getLast?_eq_none_iff.mp hgl
  subst hg0
  cases w2
  refine ⟨_,rfl,a.wk,CW,a.dw,_,.ref a.wl,rfl,i1,c.cl,c.wards,rfl,false,.inl ⟨_,SqL.of w1,rfl⟩,iteT ?_⟩
  refine ⟨_,rfl,a.wk,a.dw,_,rfl,i1,rfl,_,rfl,_,rfl,by show 3≤sizeLine;decide,fun p hp=>?_⟩
  have sp:=zh hp (.tup [.str "fault",.str kind,.int line])
  exact ⟨a,H0,rs,m,[],pas,e,here,p,_,rfl,W.same' sp,SqT.of zb,fun H' W'=>q a H' rfl W'⟩
 | some g=>
  rw [hgl] at htk
  dsimp only at htk
  by_cases hz:qO m.st.length=true
  case neg=>rw [kD hz] at htk;cases htk
  rw [kE hz] at htk
  cases hfl:zE rs g.1 with
  | none=>rw [hfl] at htk;cases htk
  | some j=>
   rw [hfl] at htk
   dsimp only at htk
   cases hcm:jp rs (cutV m.st none (some g.2)++[V.str kind]).length 200 j gs.dropLast with
   | none=>rw [hcm] at htk;cases htk
   | some pg=>
    obtain ⟨p',gs2⟩:=pg
    rw [hcm] at htk
    cases htk
    have hne:gs≠[]:=fun z=>by rw [z] at hgl;cases hgl
    obtain ⟨bs,ga,g',e1,e2,e3,e4⟩:=z64 w2 hne
    rw [hgl] at e2
    cases e2
    subst e1
    have hlast:((bs++[ga]).map V.ref)[((bs++[ga]).map V.ref).length - 1]?=some (V.ref ga):=by rw [←List.getLast?_eq_getElem?,kN];simp
    have ed:((bs++[ga]).map V.ref).dropLast=bs.map V.ref:=by rw [kN];simp
    refine ⟨_,rfl,a.wk,CW,a.dw,_,.ref a.wl,rfl,i1,c.cl,c.wards,rfl,true,.inl ⟨_,SqL.of w1,by simp⟩,iteF ?_⟩
    refine ⟨_,rfl,a.wk,CW,a.dw,_,.ref a.wl,rfl,i1,c.cl,c.wards,rfl,.inl ⟨rfl,_,SqL.of w1⟩,a.wl,_,_,rfl,rfl,w1,hlast,?_⟩
    rw [ed]
    have k1:jk H (upd H a.wl (.lst (bs.map V.ref))) a.wl:=fun b o e h=>by rw [zf h];exact e
    have kt:=qo.upd (o:=.lst (bs.map V.ref)) w1 rfl
    have W1:=W.ward (gs':=gs.dropLast) k1 zb (e3.keep kt)
    have e4':=kt _ _ e4 rfl
    generalize upd H a.wl (.lst (bs.map V.ref))=H1 at *
    obtain ⟨ea1,j1,j2⟩:=W1.ins
    refine ⟨ga,_,rfl,SqT.of e4',rfl,_,_,rfl,_,_,rfl,rfl,?_⟩
    refine ⟨_,rfl,a.wk,CW,a.dw,_,.ref a.ho,rfl,j1,c.cl,c.hold,rfl,?_⟩
    refine ⟨_,rfl,a.ho,CH,a.dx,_,.ref a.hl,rfl,W1.hold.ins,ch.cl,ch.held,rfl,_,rfl,g.2,rfl,a.hl,_,rfl,SqL.of W1.hold.held,fun l1 h1=>?_⟩
    have s1:=zh h1 (.lst (cutV m.st none (some g.2)))
    refine ⟨_,rfl,by show 1≤sizeLine;decide,fun l2 h2=>?_⟩
    have s2:=zh h2 (.lst [V.str kind])
    have hzz:m.st.length≤1000:=kG hz
    have hcl:=Zr m.st none (some g.2)
    refine ⟨l1,l2,_,_,rfl,rfl,s2 _ _ zb,zb,by rw [sizeLine_eq];show _+1≤_;lia,fun l3 h3=>?_⟩
    have s3:=zh h3 (.lst (cutV m.st none (some g.2)++[V.str kind]))
    have W3:=W1.same' (s1.trans s2)
    obtain ⟨as3,r1,r2⟩:=W3.rows
    obtain ⟨gas3,x1,x2⟩:=W3.wards
    have q1:=ze r1 h3
    have q2:=ze x1 h3
    have q3:=ze W3.passed h3
    have q4:=(ze W3.hold.said h3).symm
    have fp:=W3.same.free h3
    have W4:=W3.same' s3
    have W5:=W4.stack zb fp q1 q2 q3 q4
    refine ⟨_,rfl,a.ho,CH,a.dx,_,rfl,W4.hold.ins,ch.cl,ch.held,(by show 3 < 1000;decide),?_⟩
    have W5:zC K H0 (upd (upd (upd (upd H1 l1 (.lst (cutV m.st none (some g.2)))) l2 (.lst [V.str kind])) l3 (.lst (cutV m.st none (some g.2)++[V.str kind]))) a.ho (.ins CH a.dx (putF "held" (.ref l3) [("held",.ref a.hl),("known",.ref a.kd),("said",.ref a.sl)]))) CW CH { a with hl:=l3 } rs { m with st:=cutV m.st none (some g.2)++[V.str kind] } gs.dropLast pas e here:=W5
    generalize upd (upd (upd (upd H1 l1 (.lst (cutV m.st none (some g.2)))) l2 (.lst [V.str kind])) l3 (.lst (cutV m.st none (some g.2)++[V.str kind]))) a.ho (.ins CH a.dx (putF "held" (.ref l3) [("held",.ref a.hl),("known",.ref a.kd),("said",.ref a.sl)]))=H5 at *
    obtain ⟨ea5,y1,y2⟩:=W5.ins
    obtain ⟨kv,z1,z2⟩:=W5.goals
    have hv:valV kv (Sum.inl g.1:Key)=some (.int (j:Int)):=by rw [z2 g.1,hfl];rfl
    have hgt:DGet H5 a.gd (.int g.1) (some (.int (j:Int))):=by rw [←hv];exact DGet.k (k:=Sum.inl g.1) z1
    refine ⟨_,rfl,a.wk,a.dw,_,rfl,y1,rfl,_,rfl,a.wk,CW,a.dw,_,.ref a.gd,rfl,y1,c.cl,c.goals,rfl,_,rfl,a.gd,_,rfl,hgt,?_⟩
    refine zC.come (a:={ a with hl:=l3 }) W5 hcm fun H6 W6=>?_
    obtain ⟨ea6,u1,u2⟩:=W6.ins
    refine ⟨_,rfl,a.wk,CW,a.dw,_,rfl,u1,c.cl,c.here,(by show 7 < 1000;decide),?_⟩
    exact q { a with hl:=l3 } _ rfl (W6.fields (here':=some p') u2)
end
section
variable {CW CH:Addr}
noncomputable def QE (rs:List Row) (m:Mst) (gs:List Gd) (pas:List Nat) (p:Nat):Option (Mst × List Gd × List Nat × List V × Option Nat):=match rs[p]? with
 | none=>none
 | some r=>if qO pas.length=true then (match rowM r.op r.arg m with
  | none=>none
  | some (.next,m')=>(match jp rs m'.st.length 200 (p+1) gs with | some (p',gs')=>some (m',gs',pas++[p],[.str "on"],some p') | none=>none)
  | some (.go,m')=>(match r.arg with
   | .int mk=>(match zE rs mk with
    | some j=>(match jp rs m'.st.length 200 j gs with | some (p',gs')=>some (m',gs',pas++[p],[.str "on"],some p') | none=>none)
    | none=>none)
   | _=>none)
  | some (.fault k,m')=>(match Qk rs m' gs [.str "on"] k r.line with | some (m'',gs',e',here')=>some (m'',gs',pas++[p],e',here') | none=>none)
  | some (.value v,m')=>some (m',gs,pas++[p],[.str "value",v],none)) else none
def z7Z (K:kC) (CW CH:Addr):Sp:=fun vs H Q _=>∃(a:WAd) (H0:Hp) (rs:List Row) (m:Mst) (gs:List Gd) (pas:List Nat) (p:Nat) (m':Mst) (gs':List Gd) (pas':List Nat) (e':List V) (here':Option Nat),vs=[.ref a.wk]∧zC K H0 H CW CH a rs m gs pas [.str "on"] (some p)∧QE rs m gs pas p=some (m',gs',pas',e',here')∧∀a' H',a'.wk=a.wk→zC K H0 H' CW CH a' rs m' gs' pas' e' here'→Q (.bl true) H'
theorem scW4:zi ["self","place","op","arg","line","word","value"] ["self"] (zc (mW 4)):=fsM
end
section
variable {CW CH:Addr}
abbrev WX (K:kC) (CW CH:Addr) (H:Hp) (φ:WAd→Hp→List Row→Mst→List Gd→List Nat→List V→Option Nat→Prop):Prop:=∃(a:WAd) (H0:Hp) (rs:List Row) (m:Mst) (gs:List Gd) (pas:List Nat) (e:List V) (here:Option Nat),zC K H0 H CW CH a rs m gs pas e here∧φ a H0 rs m gs pas e here
def z2W (K:kC) (CW CH:Addr):Sp:=fun vs H Q _=>WX K CW CH H fun a _ _ _ _ _ _ here=>vs=[.ref a.wk]∧Q (z1h here) H
theorem scW5:zi ["self"] ["self"] (zc (mW 5)):=fsM
theorem z6N (D:HasM K CW "place" "Walk.place" (mW 5)) (c:Qr K CW):MN P w K mg base 1 CW "place" ["self"] (z2W K CW CH):=by
 refine MN.o D scW5 fun f cdv A outer s H vs Q E hr h=>?_
 obtain ⟨a,H0,rs,m,gs,pas,e,here,W,rfl,q⟩:=h
 obtain ⟨ea,i1,i2⟩:=W.ins
 exact ⟨_,zd (zl (zx (pv 0) rfl)),_,rfl,a.wk,CW,a.dw,_,_,rfl,i1,c.cl,c.here,rfl,q⟩
def z5M (K:kC) (CW CH:Addr):Sp:=fun vs H Q _=>WX K CW CH H fun a _ _ m _ _ _ _=>vs=[.ref a.wk]∧∀l,H l=none→Q (.ref l) (upd H l (.lst m.sd))
theorem scW9:zi ["self"] ["self"] (zc (mW 9)):=fsM
theorem z8z (D:HasM K CW "told" "Walk.told" (mW 9)) (c:Qr K CW) (ch:jg K CH) (G:Glo mg):MN P w K mg base 1 CW "told" ["self"] (z5M K CW CH):=by
 refine MN.o D scW9 fun f cdv A outer s H vs Q E hr h=>?_
 obtain ⟨a,H0,rs,m,gs,pas,e,here,W,rfl,q⟩:=h
 obtain ⟨ea,i1,i2⟩:=W.ins
 refine ⟨_,zd (zl (qD qV rfl G.list qW (z6 (zx (zx (pv 0) rfl) rfl) z7))),?_⟩
 try dsimp only [L2.cxOf,L2.Cx.nox]
 exact ⟨_,rfl,a.wk,CW,a.dw,_,.ref a.ho,rfl,i1,c.cl,c.hold,rfl,a.ho,CH,a.dx,_,.ref a.sl,rfl,W.hold.ins,ch.cl,ch.said,rfl,a.sl,_,rfl,.inl (SqL.of W.hold.said),q⟩
end
structure Ini (H Hi:Hp) (x CW dw:Addr) (fs:List (Str × V)) (ps:List (Addr × HO)):Prop where
 sx:∀b o,H b=some o→b≠x→Hi b=some o
 hx:Hi x=some (.ins CW dw fs)
 held:∀q∈ps,Hi q.1=some q.2∧q.1≠x
theorem Ini.same {H Hi Hj:Hp} {x CW dw:Addr} {fs:List (Str × V)} {ps:List (Addr × HO)} (I:Ini H Hi x CW dw fs ps) (s:Same Hi Hj):Ini H Hj x CW dw fs ps:=
 ⟨fun b o e h=>s _ _ (I.sx b o e h),s _ _ I.hx,fun q hq=>⟨s _ _ (I.held q hq).1,(I.held q hq).2⟩⟩
theorem Ini.setx {H Hi:Hp} {x CW dw:Addr} {fs:List (Str × V)} {ps:List (Addr × HO)} (I:Ini H Hi x CW dw fs ps) (f:Str) (v:V):Ini H (upd Hi x (.ins CW dw (putF f v fs))) x CW dw (putF f v fs) ps:=
 ⟨fun b o e h=>by rw [zf h];exact I.sx b o e h,zb,fun q hq=>⟨by rw [zf (I.held q hq).2];exact (I.held q hq).1,(I.held q hq).2⟩⟩
theorem Ini.add {H Hi:Hp} {x CW dw p:Addr} {fs:List (Str × V)} {ps:List (Addr × HO)} {o:HO} (I:Ini H Hi x CW dw fs ps) (e:Hi p=some o) (h:p≠x):Ini H Hi x CW dw fs ((p,o) :: ps):=
 ⟨I.sx,I.hx,fun q hq=>by
  rcases kH.mp hq with z | z
  ·rw [z];exact ⟨e,h⟩
  ·exact I.held q z⟩
theorem Ini.new {H Hi:Hp} {x CW dw p:Addr} {fs:List (Str × V)} {ps:List (Addr × HO)} {o:HO} (I:Ini H Hi x CW dw fs ps) (hp:Hi p=none):Ini H (upd Hi p o) x CW dw fs ((p,o) :: ps):=
 (I.same (zh hp o)).add zb (ze I.hx hp).symm
theorem Ini.nen {H Hi:Hp} {x CW dw p:Addr} {fs:List (Str × V)} {ps:List (Addr × HO)} (I:Ini H Hi x CW dw fs ps) (hp:Hi p=none) {q:Addr} {o:HO} (h:(q,o)∈ps):q≠p:=ze (I.held _ h).1 hp
section
variable {CW CH:Addr}
def z5Q (K:kC) (CW CH:Addr):Sp:=fun vs H Q _=>∃(x l d dw:Addr) (as:List Addr) (rs:List Row) (fin:Fnd) (kvs:List (Key × V)) (n p':Nat) (gs':List Gd) (H0:Hp),vs=[.ref x,.ref l,.ref d]∧H x=some (.ins CW dw [])∧H0 x=none∧Same H0 H∧H l=some (.lst (as.map V.ref))∧zV H as rs∧Code rs∧ZV rs=some fin∧
 H d=some (.dK kvs)∧JY kvs∧jp rs 0 n 0 []=some (p',gs')∧∀(a:WAd) H',a.wk=x→zC K H0 H' CW CH a rs ⟨[],kvs,[]⟩ gs' [] [.str "on"] (some p')→Q .non H'
theorem scW0:zi ["self","code","names"] ["self","code","names"] (zc (mW 0)):=fsM
theorem z6U (D:HasI K CW "Walk.__init__" (mW 0)) (c:Qr K CW) (G:Glo mg) (cs:Cons K mg) (hmH:mg "Hold"=some (.ref CH)) (FS:FN P w K mg base 10 "states" ["code"] (z1t K)) (FN':FN P w K mg base 5 "check_names" ["thing"] z5T) (FL:FN P w K mg base 7 "label_places" ["rows"] (z1w K))
  (FH:IN P w K mg base 1 CH ["self","names"] (z5R CH)) (FC:MN P w K mg base 1 CW "come_to" ["self","place"] (z04 K CW CH)):IN P w K mg base 11 CW ["self","code","names"] (z5Q K CW CH):=by
 refine IN.o D scW0 fun f cdv A outer s H vs Q E hr h=>?_
 obtain ⟨x,l,d,dw,as,rs,fin,kvs,n,p',gs',H0,rfl,hx,hx0,s0,hl,hR,hc,hfin,hd,hn,hcm,q⟩:=h
 obtain ⟨oa,mo,to⟩:=cs.on
 refine ⟨_,z8 (zj (zo FS hr rfl (z6 (pv 1) z7)))
  (z8 (zj (zo FN' (hr.mono (by decide)) rfl (z6 (pv 2) z7)))
  (z8 (j3 (pv 0) (qD qV rfl G.list qW (z6 (pv 1) z7)) rfl)
  (z8 (j3 (pv 0) (zo FL (hr.mono (by decide)) rfl (z6 (pv 1) z7)) rfl)
  (z8 (j3 (pv 0) (z8n FH (hr.mono (by decide)) rfl hmH (z6 (pv 2) z7)) rfl)
  (z8 (j3 (pv 0) (qq z7) rfl)
  (z8 (j3 (pv 0) (qq z7) rfl)
  (z8 (j3 (pv 0) (qb rfl mo (v:=.ref oa) rfl) rfl)
  (zd (j3 (pv 0) (z18 (pv 0) c.cl FC (hr.mono (by decide)) (z6 zg z7)) rfl))))))))),?_⟩
 try dsimp only [L2.cxOf,L2.Cx.nox]
 have I0:Ini H H x CW dw [] []:=⟨fun _ _ e _=>e,hx,fun q hq=>by cases hq⟩
 have nlx:l≠x:=zA hl hx nofun
 have ndx:d≠x:=zA hd hx nofun
 have rowsK:∀{Hi fs ps},Ini H Hi x CW dw fs ps→zV Hi as rs:=fun I=>hR.keep fun b xs e=>I.sx _ _ e (zA e hx nofun)
 have fresh:∀{Hi fs ps p},Ini H Hi x CW dw fs ps→Hi p=none→H0 p=none:=fun {Hi fs ps p} I hp=>by
  cases e:H0 p with
  | none=>rfl
  | some o=>
   have:=I.sx p o (s0 _ _ e) (ze e hx0)
   rw [hp] at this
   cases this
 refine ⟨_,rfl,l,as,rs,fin,rfl,hl,hR,hc,hfin,fun fl fvs H1 s1 _ _ _=>?_⟩
 refine ⟨_,rfl,d,kvs,rfl,s1 _ _ hd,hn,fun H2 s2=>?_⟩
 have I2:=(I0.same s1).same s2
 refine ⟨_,rfl,l,_,rfl,.inl (SqL.of (I2.sx _ _ hl nlx)),fun rl hrl=>?_⟩
 have I3:=I2.new (o:=.lst (as.map V.ref)) hrl
 refine ⟨_,rfl,x,CW,dw,[],rfl,I3.hx,c.cl,c.rows,(by decide),?_⟩
 have I4:=I3.setx "rows" (.ref rl)
 clear I3 I2
 generalize upd (upd H2 rl (.lst (as.map V.ref))) x (.ins CW dw (putF "rows" (.ref rl) []))=H4 at I4
 refine ⟨_,rfl,l,as,rs,rfl,SqL.of (I4.sx _ _ hl nlx),rowsK I4,hc.ok,kz hc.hi (by decide),fun gd kg H5 hgd0 s5 hgd hL=>?_⟩
 have ngx:gd≠x:=(ze I4.hx hgd0).symm
 have nrg:rl≠gd:=I4.nen hgd0 (o:=.lst (as.map V.ref)) (by simp)
 have I5:=(I4.same s5).add hgd ngx
 refine ⟨_,rfl,x,CW,dw,_,rfl,I5.hx,c.cl,c.goals,(by show 1 < 1000;decide),?_⟩
 have I6:=I5.setx "goals" (.ref gd)
 clear I5 I4
 generalize upd H5 x (.ins CW dw (putF "goals" (.ref gd) (putF "rows" (.ref rl) [])))=H6 at I6
 refine ⟨_,rfl,fun ho dx hho hdx ndh=>?_⟩
 have sA:=(zh hdx (.own ho))
 have hho':(upd H6 dx (.own ho)) ho=none:=by rw [zf ndh.symm];exact hho
 have sB:=sA.trans (zh hho' (.ins CH dx []))
 refine ⟨ho,d,dx,kvs,rfl,zb,sB _ _ (I6.sx _ _ hd ndx),fun hl' kd sl H7 f1 f2 f3 hA kp=>⟨rfl,?_⟩⟩
 have s7:Same H6 H7:=fun b o e=>kp b o (sB _ _ e) (ze e hho)
 have g1:=sB.free f1
 have g2:=sB.free f2
 have g3:=sB.free f3
 have fho:=fresh I6 hho
 have nhx:ho≠x:=(ze I6.hx hho).symm
 have n1:rl≠hl':=I6.nen g1 (o:=.lst (as.map V.ref)) (by simp)
 have n2:rl≠sl:=I6.nen g3 (o:=.lst (as.map V.ref)) (by simp)
 have n9:gd≠kd:=I6.nen g2 (o:=.dK kg) (by simp)
 have fh1:=fresh I6 g1
 have fh2:=fresh I6 g2
 have fh3:=fresh I6 g3
 have I7:=((((I6.same s7).add hA.ins nhx).add hA.held (ze I6.hx g1).symm).add hA.known (ze I6.hx g2).symm).add hA.said (ze I6.hx g3).symm
 refine ⟨_,rfl,x,CW,dw,_,rfl,I7.hx,c.cl,c.hold,(by show 2 < 1000;decide),?_⟩
 have I8:=I7.setx "hold" (.ref ho)
 have nehs:=hA.ne
 clear I7 I6 kp hA sA sB
 generalize upd H7 x (.ins CW dw (putF "hold" (.ref ho) (putF "goals" (.ref gd) (putF "rows" (.ref rl) []))))=H8 at I8
 refine ⟨by show 0≤sizeLine;decide,fun wl hwl=>?_⟩
 have n4:hl'≠wl:=I8.nen hwl (o:=.lst []) (by simp)
 have n5:sl≠wl:=I8.nen hwl (o:=.lst []) (by simp)
 have I9:=I8.new (o:=.lst []) hwl
 have nrw:rl≠wl:=I8.nen hwl (o:=.lst (as.map V.ref)) (by simp)
 have nwx:wl≠x:=(ze I8.hx hwl).symm
 have fwl:=fresh I8 hwl
 refine ⟨_,rfl,x,CW,dw,_,rfl,I9.hx,c.cl,c.wards,(by show 3 < 1000;decide),?_⟩
 have I10:=I9.setx "wards" (.ref wl)
 clear I9 I8
 generalize upd (upd H8 wl (.lst [])) x (.ins CW dw (putF "wards" (.ref wl) (putF "hold" (.ref ho) (putF "goals" (.ref gd) (putF "rows" (.ref rl) [])))))=H10 at I10
 refine ⟨by show 0≤sizeLine;decide,fun pl hpl=>?_⟩
 have n3:rl≠pl:=I10.nen hpl (o:=.lst (as.map V.ref)) (by simp)
 have n6:wl≠pl:=I10.nen hpl (o:=.lst []) (by simp)
 have n7:hl'≠pl:=I10.nen hpl (o:=.lst []) (by simp)
 have n8:sl≠pl:=I10.nen hpl (o:=.lst []) (by simp)
 have fpl:=fresh I10 hpl
 have I11:=I10.new (o:=.lst []) hpl
 refine ⟨_,rfl,x,CW,dw,_,rfl,I11.hx,c.cl,c.passed,(by show 4 < 1000;decide),?_⟩
 have I12:=I11.setx "passed" (.ref pl)
 clear I11 I10
 generalize upd (upd H10 pl (.lst [])) x (.ins CW dw (putF "passed" (.ref pl) (putF "wards" (.ref wl) (putF "hold" (.ref ho) (putF "goals" (.ref gd) (putF "rows" (.ref rl) []))))))=H12 at I12
 refine ⟨_,rfl,x,CW,dw,_,rfl,I12.hx,c.cl,c.ending,(by show 5 < 1000;decide),?_⟩
 have I13:=I12.setx "ending" (.ref oa)
 clear I12
 generalize upd H12 x (.ins CW dw (putF "ending" (.ref oa) (putF "passed" (.ref pl) (putF "wards" (.ref wl) (putF "hold" (.ref ho) (putF "goals" (.ref gd) (putF "rows" (.ref rl) [])))))))=H13 at I13
 have hrl13:H13 rl=some (.lst (as.map V.ref)):=(I13.held (rl,.lst (as.map V.ref)) (by simp)).1
 have hho13:=(I13.held (ho,.ins CH dx [("held",.ref hl'),("known",.ref kd),("said",.ref sl)]) (by simp)).1
 have hhl13:=(I13.held (hl',.lst []) (by simp)).1
 have hwl13:=(I13.held (wl,.lst []) (by simp)).1
 have hpl13:=(I13.held (pl,.lst []) (by simp)).1
 have hgd13:=(I13.held (gd,.dK kg) (by simp)).1
 have hkd13:=(I13.held (kd,.dK kvs) (by simp)).1
 have hsl13:=(I13.held (sl,.lst []) (by simp)).1
 refine ⟨_,rfl,x,dw,_,rfl,I13.hx,rfl,x,dw,rl,wl,ho,dx,hl',_,_,as,[],rs,[],[],0,n,p',gs',rfl,I13.hx,rfl,rfl,rfl,hho13,rfl,hhl13,hrl13,rowsK I13,hwl13,.nil,nrw,n4,hcm,fun gas' H14 k14 v1 v2=>?_⟩
 refine ⟨_,rfl,x,CW,dw,_,rfl,k14 _ _ I13.hx nwx.symm,c.cl,c.here,(by show 6 < 1000;decide),?_⟩
 have kx:∀{b o},H13 b=some o→b≠wl→b≠x→(upd H14 x (.ins CW dw (putF "here" (.int (p':Nat)) (putF "ending" (.ref oa) (putF "passed" (.ref pl) (putF "wards" (.ref wl) (putF "hold" (.ref ho) (putF "goals" (.ref gd) (putF "rows" (.ref rl) []))))))))) b=some o:=fun e h1 h2=>by rw [zf h2];exact k14 _ _ e h1
 have sx15:Same H0 (upd H14 x (.ins CW dw (putF "here" (.int (p':Nat)) (putF "ending" (.ref oa) (putF "passed" (.ref pl) (putF "wards" (.ref wl) (putF "hold" (.ref ho) (putF "goals" (.ref gd) (putF "rows" (.ref rl) []))))))))):=fun b o e=>kx (I13.sx b o (s0 _ _ e) (ze e hx0)) (ze e fwl) (ze e hx0)
 have kt:qo H14 (upd H14 x (.ins CW dw (putF "here" (.int (p':Nat)) (putF "ending" (.ref oa) (putF "passed" (.ref pl) (putF "wards" (.ref wl) (putF "hold" (.ref ho) (putF "goals" (.ref gd) (putF "rows" (.ref rl) []))))))))):=qo.upd (k14 _ _ I13.hx nwx.symm) rfl
 refine q ⟨x,dw,rl,gd,ho,wl,pl,hl',kd,sl,dx⟩ _ rfl ⟨sx15,hx0,fpl,fh1,fh2,fh3,fwl,fho,⟨oa,zb,to.sq _⟩,⟨as,kx hrl13 nrw (zA hrl13 I13.hx nofun),(rowsK I13).keep fun b xs e=>kx e (zA e hwl13 nofun) (zA e I13.hx nofun)⟩,⟨kg,kx hgd13 (zA hgd13 hwl13 nofun) (zA hgd13 I13.hx nofun),hL⟩,
  ⟨kx hho13 (zA hho13 hwl13 nofun) nhx,kx hhl13 n4 (zA hhl13 I13.hx nofun),kx hkd13 (zA hkd13 hwl13 nofun) (zA hkd13 I13.hx nofun),kx hsl13 n5 (zA hsl13 I13.hx nofun),nehs⟩,⟨gas',by rw [zf nwx];exact v1,v2.keep kt⟩,kx hpl13 n6.symm (zA hpl13 I13.hx nofun),n1,n2,n3,n4.symm,n5.symm,n6,n7.symm,n8.symm,n9,nhx.symm,nrw⟩
end
section
variable {CW CH:Addr}
end
structure ZS (rs:List Row) (S:Fnd):Prop where
 len:S.length=rs.length
 zero:S[0]?=some (some (0,[]))
 here:∀(p:Nat) r s,rs[p]?=some r→S[p]?=some (some s)→jI rs p r s.1 s.2.getLast?=[]∧s.2.length≤1000
 next:∀(p:Nat) r s,rs[p]?=some r→S[p]?=some (some s)→∀x s',(x,s')∈Zl rs p r s→∃j:Nat,x=.int (j:Int)∧S[j]?=some (some s')
def Sub (f S:Fnd):Prop:=∀(p:Nat) s,f[p]?=some (some s)→S[p]?=some (some s)
noncomputable def JE (f:Fnd):Nat:=(f.filter Option.isNone).length
theorem QN:∀{f:Fnd} {j:Nat} {s:Sta},f[j]?=some none→JE (f.set j (some s))+1=JE f
 | [],_,_,h=>by cases h
 | o :: f,0,s,h=>by
  cases h
  rfl
 | o :: f,j+1,s,h=>by
  have ih:=QN (f:=f) (j:=j) (s:=s) h
  unfold JE at ih ⊢
  rw [List.set_cons_succ,List.filter_cons,List.filter_cons]
  cases o with
  | none=>simp only [Option.isNone_none,if_true,kS];lia
  | some x=>simp only [Option.isNone_some,Bool.false_eq_true,if_false];exact ih
theorem z4A {S:Fnd}:∀(ns:List (V × Sta)) (f:Fnd) (w:List Nat),(∀x s',(x,s')∈ns→∃j:Nat,x=.int (j:Int)∧S[j]?=some (some s'))→f.length=S.length→Sub f S→(∀p∈w,∃s,f[p]?=some (some s))→
  ∃f' w',ZX ns f w=some (f',w')∧f'.length=S.length∧Sub f' S∧(∀p∈w',∃s,f'[p]?=some (some s))∧JE f'+w'.length=JE f+w.length∧(∀(p:Nat) s,f[p]?=some (some s)→f'[p]?=some (some s))
 :=by
 intro ns
 induction ns with
 | nil=>intro f w _ hl hs hw;exact ⟨f,w,rfl,hl,hs,hw,rfl,fun _ _ e=>e⟩
 | cons hd ns ih=>
  obtain ⟨x,s⟩:=hd
  intro f w hn hl hs hw
  obtain ⟨j,rfl,hj⟩:=hn x s (kU ..)
  have hjl:j < f.length:=by rw [hl];exact (ki.mp hj).1
  have hn':=fun x s' h=>hn x s' (kW _ h)
  unfold ZX
  dsimp only
  rw [kE (by lia),yd]
  cases e:f[j]? with
  | none=>rw [kO hjl] at e;cases e
  | some o=>
   cases o with
   | none=>
    dsimp only
    have keep:∀(p:Nat) s0,f[p]?=some (some s0)→(f.set j (some s))[p]?=some (some s0):=fun p s0 h=>by
     by_cases hp:p=j
     ·subst hp;rw [e] at h;cases h
     ·rw [List.getElem?_set_ne (Ne.symm hp)];exact h
    obtain ⟨f',w',h1,h2,h3,h4,h5,h6⟩:=ih (f.set j (some s)) (w++[j]) hn' (by rw [List.length_set];exact hl)
     (fun p s0 h=>by
      by_cases hp:p=j
      ·subst hp
       rw [List.getElem?_set_self hjl] at h
       cases h
       exact hj
      ·rw [List.getElem?_set_ne (Ne.symm hp)] at h
       exact hs p s0 h)
     (fun p hp=>by
      rcases kX.mp hp with h | h
      ·obtain ⟨s0,h⟩:=hw p h
       exact ⟨s0,keep p s0 h⟩
      ·rw [ku.mp h]
       exact ⟨s,List.getElem?_set_self hjl⟩)
    refine ⟨f',w',h1,h2,h3,h4,?_,fun p s0 h=>h6 p s0 (keep p s0 h)⟩
    have:=QN (s:=s) e
    rw [ko,kJ] at h5
    lia
   | some s'=>
    have e2:s'=s:=by
     have:=hs j s' e
     rw [hj] at this
     cases this
     rfl
    dsimp only
    rw [kE e2]
    exact ih f w hn' hl hs hw
theorem z97 {rs:List Row} {S:Fnd} (T:ZS rs S):∀(n:Nat) (f:Fnd) (w:List Nat),f.length=S.length→Sub f S→(∀p∈w,∃s,f[p]?=some (some s))→JE f+w.length≤n→
  ∃fin,bfs rs n f w=some fin∧fin.length=S.length∧Sub fin S
 :=by
 have nil:∀(n:Nat) (f:Fnd),f.length=S.length→Sub f S→∃fin,bfs rs n f []=some fin∧fin.length=S.length∧Sub fin S:=fun n f hl hs=>⟨f,by cases n <;> rfl,hl,hs⟩
 intro n
 induction n with
 | zero=>
  intro f w hl hs hw hn
  cases w with
  | nil=>exact nil _ f hl hs
  | cons p w=>simp at hn
 | succ n ih=>
  intro f w hl hs hw hn
  cases w with
  | nil=>exact nil _ f hl hs
  | cons p w=>
   obtain ⟨s,hp⟩:=hw p (kU ..)
   have hS:=hs p s hp
   have hpl:p < rs.length:=by rw [←T.len];exact (ki.mp hS).1
   have er:rs[p]?=some rs[p]:=kO hpl
   obtain ⟨h1,h2⟩:=T.here p rs[p] s er hS
   unfold bfs
   rw [er,hp]
   dsimp only
   rw [kE ⟨by rw [h1];rfl,h2⟩]
   obtain ⟨f',w',e1,e2,e3,e4,e5,_⟩:=z4A (Zl rs p rs[p] s) f w (T.next p rs[p] s er hS) hl hs fun q hq=>hw q (kW _ hq)
   rw [e1]
   dsimp only
   rw [kS] at hn
   exact ih f' w' e2 e3 e4 (by lia)
theorem z0f:∀n:Nat,JE (List.replicate n none)=n
 | 0=>rfl
 | n+1=>by
  have ih:=z0f n
  unfold JE at ih ⊢
  rw [List.replicate_succ,List.filter_cons]
  simp only [Option.isNone_none,if_true,kS]
  lia
theorem z2R {rs:List Row} {S:Fnd} (T:ZS rs S) (hn:rs.length≤299):∃fin,ZV rs=some fin∧fin.length=rs.length∧Sub fin S:=by
 have h0:0 < rs.length:=by rw [←T.len];exact (ki.mp T.zero).1
 have e0:(List.replicate rs.length (none:Option Sta))[0]?=some none:=by rw [List.getElem?_replicate,kE h0]
 have hset:=QN (s:=((0,[]):Sta)) e0
 rw [z0f] at hset
 obtain ⟨fin,h1,h2,h3⟩:=z97 T 300 ((List.replicate rs.length none).set 0 (some (0,[]))) [0] (by rw [List.length_set,List.length_replicate,T.len])
  (fun p s h=>by
   by_cases hp:p=0
   ·subst hp
    rw [List.getElem?_set_self (by rw [List.length_replicate];exact h0)] at h
    cases h
    exact T.zero
   ·rw [List.getElem?_set_ne (Ne.symm hp),List.getElem?_replicate] at h
    split at h
    ·cases h
    ·cases h)
  (fun p hp=>by
   rw [ku.mp hp]
   exact ⟨_,List.getElem?_set_self (by rw [List.length_replicate];exact h0)⟩)
  (by show JE _+1≤300;lia)
 exact ⟨fin,h1,by rw [h2,T.len],h3⟩
noncomputable def Qm (r:Row) (s:Sta):Option Sta:=if inT r.op qi=true then none else some (zB r s.1,zR r s.1 s.2 (tabI zP r.op))
noncomputable def tgts (r:Row) (s:Sta):List (Int × Sta):=
 (if inT r.op jumping=true then [(argM r.arg,((if inT r.op leaving=true then s.1 else zB r s.1),s.2))] else [])++
 (if inT r.op faulting=true then (match s.2.getLast? with
  | some g=>[(g.1,(g.2+1,s.2.dropLast))]
  | none=>[]) else [])
noncomputable def jf (r:Row) (s:Sta):Bool:= !decide (s.1 < zQ r)&& !Zn r s.2.getLast?&& !qw r s.1 s.2.getLast?&&decide (s.2.length≤1000)
noncomputable def chk (Γ:Int→Option Sta):List Row→Option Sta→Option (Option Sta)
 | [],c=>some c
 | r :: l,c=>
  if r.op="label" then (match Γ (argM r.arg),c with
   | some s,some s'=>if s=s'∧jf r s=true then chk Γ l (some s) else none
   | some s,none=>if jf r s=true then chk Γ l (some s) else none
   | none,none=>chk Γ l none
   | none,some _=>none)
  else (match c with
   | none=>chk Γ l none
   | some s=>if jf r s=true∧(tgts r s).all (fun t=>decide (Γ t.1=some t.2))=true then chk Γ l (Qm r s) else none)
noncomputable def stOf (Γ:Int→Option Sta):List Row→Option Sta→Fnd
 | [],_=>[]
 | r :: l,c=>
  if r.op="label" then Γ (argM r.arg) :: stOf Γ l (Γ (argM r.arg))
  else c :: stOf Γ l (match c with
   | none=>none
   | some s=>Qm r s)
theorem Qv (Γ:Int→Option Sta):∀(l:List Row) (c:Option Sta),(stOf Γ l c).length=l.length
 | [],_=>rfl
 | r :: l,c=>by
  unfold stOf
  split
  ·rw [kS,Qv Γ l,kS]
  ·rw [kS,Qv Γ l,kS]
theorem Z6 (Γ:Int→Option Sta) (r:Row) (l:List Row) (c:Option Sta):chk Γ (r :: l) c=
  if r.op="label" then (match Γ (argM r.arg),c with
   | some s,some s'=>if s=s'∧jf r s=true then chk Γ l (some s) else none
   | some s,none=>if jf r s=true then chk Γ l (some s) else none
   | none,none=>chk Γ l none
   | none,some _=>none)
  else (match c with
   | none=>chk Γ l none
   | some s=>if jf r s=true∧(tgts r s).all (fun t=>decide (Γ t.1=some t.2))=true then chk Γ l (Qm r s) else none):=rfl
theorem zp (Γ:Int→Option Sta):∀(a b:List Row) (c:Option Sta),chk Γ (a++b) c=(chk Γ a c).bind fun c'=>chk Γ b c'
 :=by
 intro a
 induction a with
 | nil=>intro b c;rfl
 | cons r a ih=>
  intro b c
  rw [List.cons_append,Z6,Z6]
  by_cases hl:r.op="label"
  ·rw [kE hl,kE hl]
   cases Γ (argM r.arg) with
   | none=>cases c with
    | none=>exact ih b _
    | some s'=>rfl
   | some s=>cases c with
    | none=>
     dsimp only
     by_cases hz:jf r s=true
     ·rw [kE hz,kE hz];exact ih b _
     ·rw [kD hz,kD hz];rfl
    | some s'=>
     dsimp only
     by_cases hz:s=s'∧jf r s=true
     ·rw [kE hz,kE hz];exact ih b _
     ·rw [kD hz,kD hz];rfl
  ·rw [kD hl,kD hl]
   cases c with
   | none=>exact ih b _
   | some s=>
    dsimp only
    by_cases hz:jf r s=true∧(tgts r s).all (fun t=>decide (Γ t.1=some t.2))=true
    ·rw [kE hz,kE hz];exact ih b _
    ·rw [kD hz,kD hz];rfl
structure Fits (Γ:Int→Option Sta) (l:List Row) (S:Fnd) (i:Nat) (r:Row) (s:Sta):Prop where
 ok:jf r s=true
 tg:∀t∈tgts r s,Γ t.1=some t.2
 nx:∀s',Qm r s=some s'→S[i+1]?=some (some s')
theorem z1e:inT "label" qi=false:=by trivial
theorem z2p (r:Row) (h:r.op="label") (s:Sta):Qm r s=some s:=by
 unfold Qm
 rw [h,z1e,kD ke]
 unfold zB
 rw [h]
 have e1:tabI zD "label"=0:=by trivial
 have e2:tabI zH "label"=0:=by trivial
 have e3:tabI zP "label"=0:=by trivial
 rw [e1,e2,e3]
 unfold zR
 rw [kD (by decide),kD (by decide)]
 simp
theorem z2o (r:Row) (h:r.op="label") (s:Sta):tgts r s=[]:=by
 unfold tgts
 have e1:inT "label" jumping=false:=by trivial
 have e2:inT "label" faulting=false:=by trivial
 rw [h,e1,e2,kD ke,kD ke]
 rfl
theorem z0U {Γ:Int→Option Sta} {l:List Row} {s:Sta} {c':Option Sta} (h:chk Γ l (some s)=some c') (hc:c'=none):(stOf Γ l (some s))[0]?=some (some s):=by
 cases l with
 | nil=>cases h;cases hc
 | cons r l=>
  unfold chk at h
  unfold stOf
  by_cases hl:r.op="label"
  ·rw [kE hl] at h
   rw [kE hl]
   cases e:Γ (argM r.arg) with
   | none=>rw [e] at h;cases h
   | some s2=>
    rw [e] at h
    dsimp only at h
    by_cases hz:s2=s∧jf r s2=true
    ·rw [hz.1];rfl
    ·rw [kD hz] at h;cases h
  ·rw [kD hl]
   rfl
theorem z5x {Γ:Int→Option Sta}:∀(l:List Row) (c:Option Sta),chk Γ l c=some none→∀(i:Nat) r s,l[i]?=some r→(stOf Γ l c)[i]?=some (some s)→Fits Γ l (stOf Γ l c) i r s
 :=by
 intro l
 induction l with
 | nil=>intro _ _ i r s hr _;cases hr
 | cons r0 l ih=>
  intro c h i r s hr hs
  unfold chk at h
  unfold stOf at hs ⊢
  by_cases hl:r0.op="label"
  ·rw [kE hl] at h hs ⊢
   have go:∀{c2:Option Sta},Γ (argM r0.arg)=c2→chk Γ l c2=some none→(∀s0,c2=some s0→jf r0 s0=true)→Fits Γ (r0 :: l) (Γ (argM r0.arg) :: stOf Γ l (Γ (argM r0.arg))) i r s:=by
    intro c2 e h2 hok
    rw [e] at hs ⊢
    cases i with
    | zero=>
     cases hr
     have es:c2=some s:=by simpa using hs
     subst es
     refine ⟨hok s rfl,fun t ht=>?_,fun s' hn=>?_⟩
     ·rw [z2o r0 hl] at ht;cases ht
     ·rw [z2p r0 hl] at hn
      cases hn
      exact z0U h2 rfl
    | succ i=>
     have F:=ih c2 h2 i r s hr hs
     exact ⟨F.ok,F.tg,F.nx⟩
   cases e:Γ (argM r0.arg) with
   | none=>
    rw [e] at h
    cases c with
    | some s'=>cases h
    | none=>have:=go e h (fun _ z=>by cases z);rw [e] at this;exact this
   | some s2=>
    rw [e] at h
    cases c with
    | some s'=>
     dsimp only at h
     by_cases hz:s2=s'∧jf r0 s2=true
     ·rw [kE hz] at h
      have:=go e h (fun _ z=>by cases z;exact hz.2);rw [e] at this;exact this
     ·rw [kD hz] at h;cases h
    | none=>
     dsimp only at h
     by_cases hz:jf r0 s2=true
     ·rw [kE hz] at h
      have:=go e h (fun _ z=>by cases z;exact hz);rw [e] at this;exact this
     ·rw [kD hz] at h;cases h
  ·rw [kD hl] at h hs ⊢
   cases c with
   | none=>
    dsimp only at h hs ⊢
    cases i with
    | zero=>cases hs
    | succ i=>
     have F:=ih none h i r s hr hs
     exact ⟨F.ok,F.tg,F.nx⟩
   | some s0=>
    dsimp only at h hs ⊢
    by_cases hz:jf r0 s0=true∧(tgts r0 s0).all (fun t=>decide (Γ t.1=some t.2))=true
    case neg=>rw [kD hz] at h;cases h
    rw [kE hz] at h
    cases i with
    | zero=>
     cases hr
     cases hs
     refine ⟨hz.1,fun t ht=>kG (List.all_eq_true.mp hz.2 t ht),fun s' hn=>?_⟩
     rw [hn] at h ⊢
     exact z0U h rfl
    | succ i=>
     have F:=ih _ h i r s hr hs
     exact ⟨F.ok,F.tg,F.nx⟩
theorem Jq {Γ:Int→Option Sta}:∀(l:List Row) (c:Option Sta) (q:Nat) (r:Row),l[q]?=some r→r.op="label"→(stOf Γ l c)[q]?=some (Γ (argM r.arg))
 | [],_,_,_,h,_=>by cases h
 | r0 :: l,c,0,r,h,hl=>by
  cases h
  unfold stOf
  rw [kE hl]
  rfl
 | r0 :: l,c,q+1,r,h,hl=>by
  unfold stOf
  split
  ·exact Jq l _ q r h hl
  ·exact Jq l _ q r h hl
theorem z8C {rs:List Row} {m:Int} {q:Nat} (h:zE rs m=some q):∃r,rs[q]?=some r∧r.op="label"∧argM r.arg=m:=by
 unfold zE at h
 obtain ⟨hq,hp,_⟩:=List.findIdx?_eq_some_iff_getElem.mp h
 refine ⟨rs[q],kO hq,?_⟩
 unfold labP at hp
 rw [yg,yh,yh] at hp
 exact ⟨hp.1,by rw [hp.2];rfl⟩
theorem z4r {rs:List Row} {Γ:Int→Option Sta} (hΓ:∀m s,Γ m=some s→(zE rs m).isSome=true) (h:chk Γ rs (some (0,[]))=some none):ZS rs (stOf Γ rs (some (0,[]))):=by
 have hlab:∀m s,Γ m=some s→∃q:Nat,labV rs m=.int (q:Int)∧q < rs.length∧(stOf Γ rs (some (0,[])))[q]?=some (some s):=by
  intro m s e
  obtain ⟨q,hq⟩:=Option.isSome_iff_exists.mp (hΓ m s e)
  obtain ⟨r,hr,ho,ha⟩:=z8C hq
  refine ⟨q,by unfold labV;rw [hq],(ki.mp hr).1,?_⟩
  rw [Jq rs _ q r hr ho,ha,e]
 have F:=z5x rs (some (0,[])) h
 have lead:∀(p:Nat) r s,rs[p]?=some r→(stOf Γ rs (some (0,[])))[p]?=some (some s)→∀m∈qP rs p r s.1 s.2.getLast?,∃j:Nat,m.1=.int (j:Int)∧j < rs.length∧(stOf Γ rs (some (0,[])))[j]?=some (some (m.2.1,zR r s.1 s.2 m.2.2)):=by
  intro p r s hr hs m hm
  have f:=F p r s hr hs
  have hok:=f.ok
  unfold jf at hok
  simp only [yg,Bool.not_eq_true',yh,decide_eq_false_iff_not] at hok
  obtain ⟨⟨⟨k1,k2⟩,k3⟩,k4⟩:=hok
  unfold qP at hm
  rw [kj k1,kD ke,k2,kD ke] at hm
  rcases kX.mp hm with hm | hm
  ·rcases kX.mp hm with hm | hm
   ·unfold mv1 at hm
    by_cases hn:inT r.op qi=true
    ·rw [kE hn] at hm;cases hm
    ·rw [kD hn] at hm
     rw [ku.mp hm]
     have e:=f.nx (zB r s.1,zR r s.1 s.2 (tabI zP r.op)) (by unfold Qm;rw [kD hn])
     refine ⟨p+1,by push_cast;rfl,?_,e⟩
     have:=(ki.mp e).1
     rw [Qv] at this
     exact this
   ·unfold mv2 at hm
    by_cases hj:inT r.op jumping=true
    ·rw [kE hj] at hm
     rw [ku.mp hm]
     obtain ⟨q,h1,h2,h3⟩:=hlab _ _ (f.tg (argM r.arg,((if inT r.op leaving=true then s.1 else zB r s.1),s.2)) (by
      unfold tgts
      rw [kE hj]
      exact kR _ (ku.mpr rfl)))
     refine ⟨q,h1,h2,?_⟩
     have e0:zR r s.1 s.2 0=s.2:=by unfold zR;rw [kD (by decide),kD (by decide)]
     show _=some (some ((if inT r.op leaving=true then s.1 else zB r s.1),zR r s.1 s.2 0))
     rw [e0]
     exact h3
    ·rw [kD hj] at hm;cases hm
  ·unfold mv3 at hm
   by_cases hf:inT r.op faulting=true
   ·rw [kE hf] at hm
    cases hg:s.2.getLast? with
    | none=>rw [hg] at hm;cases hm
    | some g=>
     rw [hg] at hm
     rw [ku.mp hm]
     obtain ⟨q,h1,h2,h3⟩:=hlab _ _ (f.tg (g.1,(g.2+1,s.2.dropLast)) (by
      unfold tgts
      rw [kE hf,hg]
      exact kQ _ (ku.mpr rfl)))
     refine ⟨q,h1,h2,?_⟩
     have e0:zR r s.1 s.2 (-1)=s.2.dropLast:=by unfold zR;rw [kD (by decide),kE rfl]
     show _=some (some (g.2+1,zR r s.1 s.2 (-1)))
     rw [e0]
     exact h3
   ·rw [kD hf] at hm;cases hm
 refine ⟨Qv _ _ _,z0U h rfl,fun p r s hr hs=>?_,fun p r s hr hs x s' hx=>?_⟩
 ·have hok:=(F p r s hr hs).ok
  unfold jf at hok
  simp only [yg,Bool.not_eq_true',yh,decide_eq_false_iff_not] at hok
  obtain ⟨⟨⟨k1,k2⟩,k3⟩,k4⟩:=hok
  refine ⟨?_,k4⟩
  have hend:inV (.int (rs.length:Nat)) ((qP rs p r s.1 s.2.getLast?).map (·.1))=false:=by
   unfold inV
   rw [List.any_eq_false]
   intro y hy
   obtain ⟨m,hm,rfl⟩:=yi.mp hy
   obtain ⟨j,h1,h2,_⟩:=lead p r s hr hs m hm
   rw [h1]
   intro z
   have z:decide ((j:Int)=(rs.length:Int))=true:=by
    first
     | exact z
     | simpa [eqV] using z
   have:=kG z
   lia
  unfold jI Q8
  rw [kj k1,k2,k3,hend]
  rfl
 ·unfold Zl at hx
  obtain ⟨m,hm,e⟩:=yi.mp hx
  cases e
  obtain ⟨j,h1,_,h3⟩:=lead p r s hr hs m hm
  exact ⟨j,h1,h3⟩
noncomputable def qT:List Str:=["Oops","Zero","Unset","Type","Big"]
noncomputable def okV:V→Bool
 | .non=>true
 | .bl _=>true
 | .int i=> !big i
 | .str z=>decide (z∈qT)
 | _=>false
def okVs (l:List V):Prop:=∀v∈l,okV v=true
theorem Q4:∀z∈qT,Zi (.str z)=true∧JJ (.str z)=true:=by trivial
theorem jw {v:V} (h:okV v=true):Zi v=true:=by
 cases v with
 | non=>rfl
 | bl b=>rfl
 | int i=>rfl
 | str z=>exact (Q4 z (kG h)).1
 | _=>cases h
theorem okVs.nil:okVs []:=fun _ h=>by cases h
theorem okVs.app {a b:List V} (x:okVs a) (y:okVs b):okVs (a++b):=fun v h=>(kX.mp h).elim (x v) (y v)
theorem okVs.one {v:V} (h:okV v=true):okVs [v]:=fun w hw=>by rw [ku.mp hw];exact h
theorem okVs.left {a b:List V} (x:okVs (a++b)):okVs a:=fun v h=>x v (kR _ h)
theorem okVs.last {a:List V} {v:V} (x:okVs (a++[v])):okV v=true:=x v (kQ _ (ku.mpr rfl))
structure OkM (m:Mst) (n:Nat):Prop where
 st:okVs m.st
 kn:∀q∈m.kn,okV q.2=true
 sd:okVs m.sd
 lst:m.st.length≤n
 lkn:m.kn.length≤8+n
 lsd:m.sd.length≤n
theorem OkM.more {m:Mst} {n k:Nat} (h:OkM m n) (hk:n≤k):OkM m k:=⟨h.st,h.kn,h.sd,kz h.lst hk,by have:=h.lkn;lia,kz h.lsd hk⟩
theorem OkM.stk {m:Mst} {n k:Nat} (h:OkM m n) (hk:n≤k) {st:List V} (hs:okVs st) (hl:st.length≤k):OkM { m with st:=st } k:=⟨hs,h.kn,h.sd,hl,by have:=h.lkn;show m.kn.length≤_;lia,kz h.lsd hk⟩
def za1 (r:Row) (d:Int) (m':Mst):Res→Prop
 | .next=>inT r.op qi=false∧(m'.st.length:Int)=zB r d∧tabI zP r.op=0
 | .go=>inT r.op jumping=true∧(m'.st.length:Int)=(if inT r.op leaving=true then d else zB r d)
 | .fault k=>inT r.op faulting=true∧k∈qT∧d - zQ r≤(m'.st.length:Int)∧(m'.st.length:Int)≤d
 | .value v=>r.op="return"∧okV v=true
def Does (r:Row) (m:Mst) (n:Nat):Prop:=∃res m',rowM r.op r.arg m=some (res,m')∧OkM m' (n+1)∧m.sd <+: m'.sd∧za1 r (m.st.length:Int) m' res
theorem jJ {l:List V} (h:1≤l.length):∃ys x,l=ys++[x]:=by
 rcases List.eq_nil_or_concat l with e | ⟨ys,x,e⟩
 ·rw [e] at h;cases h
 ·exact ⟨ys,x,by rw [e,List.concat_eq_append]⟩
theorem z7Y {l:List V} (h:2≤l.length):∃ys x y,l=ys++[x]++[y]:=by
 obtain ⟨zs,y,e⟩:=jJ (l:=l) (by lia)
 rw [e,ko,kJ] at h
 obtain ⟨ys,x,e'⟩:=jJ (l:=zs) (by lia)
 exact ⟨ys,x,y,by rw [e,e']⟩
theorem qA (l:List V):l <+: l:=List.prefix_refl l
theorem j6 {a n:Nat} (h:a≤n) (hn:n≤1000):qO a=true:=kl (by lia)
theorem z4T {op:Str} (ho:op∈jl) {x y:V} (hx:okV x=true) (hy:okV y=true):∃r1 r2,Zm op x y=some (r1,r2)∧((r1=.non∧okV r2=true)∨∃k,k∈qT∧r1=.str k∧inT op faulting=true):=by
 by_cases hs:op="same"
 ·exact ⟨.non,.bl (z4y x y),by unfold Zm;rw [kE hs],.inl ⟨rfl,rfl⟩⟩
 have hf:inT op faulting=true:=by
  unfold jl at ho
  simp only [kH,ky,or_false] at ho
  rcases ho with h | h | h | h | h | h | h
  all_goals first
   | exact absurd h hs
   | (rw [h];decide+kernel)
 have ty:("Type":Str)∈qT:=by trivial
 have no:(∀i j,¬(x=.int i∧y=.int j))→∃r1 r2,Zm op x y=some (r1,r2)∧((r1=.non∧okV r2=true)∨∃k,k∈qT∧r1=.str k∧inT op faulting=true):=fun hn=>by
  refine ⟨.str "Type",.non,?_,.inr ⟨_,ty,rfl,hf⟩⟩
  unfold Zm
  rw [kD hs]
  split
  ·rename_i i j
   exact absurd ⟨rfl,rfl⟩ (hn i j)
  ·rfl
 cases x with
 | int i=>
  cases y with
  | int j=>
   have bi:big i=false:=by simpa [okV] using hx
   have bj:big j=false:=by simpa [okV] using hy
   unfold Zm
   rw [kD hs]
   dsimp only
   rw [bi,bj,kD ke,kD ke]
   by_cases hz:(op="div"∨op="rest")∧j=0
   ·rw [kE hz]
    exact ⟨_,_,rfl,.inr ⟨_,by trivial,rfl,hf⟩⟩
   rw [kD hz]
   by_cases hl:op="less"
   ·rw [kE hl]
    exact ⟨_,_,rfl,.inl ⟨rfl,rfl⟩⟩
   rw [kD hl]
   obtain ⟨k,hk⟩:∃k,reck op i j=some k:=by
    unfold jl at ho
    simp only [kH,ky,or_false] at ho
    unfold reck
    rcases ho with h | h | h | h | h | h | h
    ·exact ⟨_,by rw [kE h]⟩
    ·subst h;exact ⟨_,by rw [kD (by trivial),kE rfl]⟩
    ·subst h;exact ⟨_,by rw [kD (by trivial),kD (by trivial),kE rfl]⟩
    ·subst h
     have:¬j=0:=fun z=>hz ⟨.inl rfl,z⟩
     exact ⟨_,by rw [kD (by trivial),kD (by trivial),kD (by trivial),kE rfl,kD this]⟩
    ·subst h
     have:¬j=0:=fun z=>hz ⟨.inr rfl,z⟩
     exact ⟨_,by rw [kD (by trivial),kD (by trivial),kD (by trivial),kD (by trivial),kE rfl,kD this]⟩
    ·exact absurd h hl
    ·exact absurd h hs
   rw [hk]
   dsimp only
   by_cases hb:big k=true
   ·rw [kE hb]
    exact ⟨_,_,rfl,.inr ⟨_,by trivial,rfl,hf⟩⟩
   ·rw [kD hb]
    exact ⟨_,_,rfl,.inl ⟨rfl,by unfold okV;simpa using hb⟩⟩
  | _=>exact no fun i j h=>by cases h.2
 | _=>exact no fun i j h=>by cases h.1
theorem z4U {op:Str} (ho:op∈jR) {x:V} (hx:okV x=true):∃r1 r2,z0j op x=some (r1,r2)∧((r1=.non∧okV r2=true)∨∃k,k∈qT∧r1=.str k∧inT op faulting=true):=by
 unfold z0j
 by_cases hn:op="not"
 ·rw [kE hn]
  exact ⟨_,_,rfl,.inl ⟨rfl,rfl⟩⟩
 rw [kD hn]
 have e:op="neg":=by
  unfold jR at ho
  simp only [kH,ky,or_false] at ho
  rcases ho with h | h
  ·exact h
  ·exact absurd h hn
 have hf:inT op faulting=true:=by rw [e];decide+kernel
 have ty:("Type":Str)∈qT:=by trivial
 cases x with
 | int i=>
  refine ⟨_,_,rfl,.inl ⟨rfl,?_⟩⟩
  have bi:big i=false:=by simpa [okV] using hx
  show (!big (-i))=true
  unfold big at bi ⊢
  rw [Int.natAbs_neg,bi]
  rfl
 | _=>exact ⟨_,_,rfl,.inr ⟨_,ty,rfl,hf⟩⟩
end My
local macro_rules | `(tactic| trivial)=>`(tactic| (dsimp only;decide+kernel))
local macro_rules | `(tactic| trivial)=>`(tactic| decide+kernel)
namespace My
open PySem PySem.Spec PyProof.Rows L2
variable {P:Program} {w:World} {K:kC} {mg:Str→Option Value} {base:Heap}
section
variable {m:Mst} {n:Nat} {arg:V} {ln:Int}
theorem len1 (ys:List V) (x:V):(ys++[x]).length=ys.length+1:=by rw [ko,kJ]
theorem JS {op:Str} (hok:jG ⟨op,arg,ln⟩) {s:Str} (hs:zX op=some s):qU s arg=true:=by
 have h:rowV op arg (.int ln)=true:=hok
 unfold rowV Zt at h
 rw [hs] at h
 simp only [yg] at h
 exact h.1.2
theorem Qz {x:V} (h:qU "name" x=true):∃nm,x=.str nm:=by
 have h:JF x=true:=by
  unfold qU at h
  rw [kD (by trivial),kE rfl] at h
  exact h
 cases x with
 | str z=>exact ⟨z,rfl⟩
 | _=>cases h
theorem z0P {kvs:List (Key × V)} {k:Key} {v:V} (h:valV kvs k=some v):∃q∈kvs,q.2=v:=by
 unfold valV at h
 cases e:kvs.find? fun kv=>decide (kv.1=k) with
 | none=>rw [e] at h;cases h
 | some q=>
  rw [e] at h
  cases h
  exact ⟨q,List.mem_of_find?_eq_some e,rfl⟩
theorem ZP {r:Row} (hm:OkM m n) (hn:n≤900) {v:V} (hv:okV v=true) (e:rowM r.op r.arg m=some (.next,{ m with st:=m.st++[v] })) (h1:inT r.op qi=false) (h2:tabI zD r.op=0) (h3:tabI zH r.op=1) (h4:tabI zP r.op=0):Does r m n:=by
 refine ⟨_,_,e,hm.stk (by lia) (hm.st.app (okVs.one hv)) (by rw [len1];have:=hm.lst;lia),qA _,h1,?_,h4⟩
 show (((m.st++[v]).length:Nat):Int)=_
 unfold zB
 rw [h2,h3,len1]
 lia
theorem z8X (hm:OkM m n) (hn:n≤900) (hv:okV arg=true):Does ⟨"push",arg,ln⟩ m n:=
 ZP hm hn hv (show rowM "push" arg m=_ by (unfold rowM;repeat (first | rw [kE (by trivial)] | rw [kD (by trivial)]));unfold z0s;rw [kE (j6 hm.lst (by lia))]) (by trivial) (by trivial) (by trivial) (by trivial)
theorem Jj {r:Row} (hm:OkM m n) (e:rowM r.op r.arg m=some (.fault "Unset",m)) (h1:inT r.op faulting=true) (h2:zQ r=0):Does r m n:=by
 refine ⟨_,_,e,hm.more (by lia),qA _,h1,by trivial,?_,Int.le_refl _⟩
 rw [h2]
 lia
theorem z8Z (hm:OkM m n) (hn:n≤900) (hok:jG ⟨"load",arg,ln⟩):Does ⟨"load",arg,ln⟩ m n:=by
 obtain ⟨nm,rfl⟩:=Qz (JS hok (s:="name") (by trivial))
 have e0:rowM "load" (.str nm) m=J6 "load" (.str nm) m:=by (unfold rowM;repeat (first | rw [kE (by trivial)] | rw [kD (by trivial)]))
 cases e:valV m.kn (Sum.inr nm:Key) with
 | none=>exact Jj hm (by show rowM "load" (.str nm) m=_;rw [e0];unfold J6;dsimp only;rw [e]) (by trivial) (by unfold zQ;rw [kD (by trivial)];trivial)
 | some v=>
  obtain ⟨q,hq,rfl⟩:=z0P e
  exact ZP hm hn (hm.kn q hq) (by show rowM "load" (.str nm) m=_;rw [e0];unfold J6;dsimp only;rw [e];dsimp only;rw [kE (j6 hm.lst (by lia))]) (by trivial) (by trivial) (by trivial) (by trivial)
theorem z7u (hm:OkM m n) (hn:n≤900) (hok:jG ⟨"quick",arg,ln⟩):Does ⟨"quick",arg,ln⟩ m n:=by
 obtain ⟨nm,rfl⟩:=Qz (JS hok (s:="name") (by trivial))
 have e0:rowM "quick" (.str nm) m=ZN "quick" (.str nm) m:=by (unfold rowM;repeat (first | rw [kE (by trivial)] | rw [kD (by trivial)]))
 refine ZP hm hn (v:=(valV m.kn (Sum.inr nm:Key)).getD .non) ?_ (by show rowM "quick" (.str nm) m=_;rw [e0];unfold ZN;dsimp only;rw [kE (j6 hm.lst (by lia))]) (by trivial) (by trivial) (by trivial) (by trivial)
 cases e:valV m.kn (Sum.inr nm:Key) with
 | none=>rfl
 | some v=>
  obtain ⟨q,hq,rfl⟩:=z0P e
  exact hm.kn q hq
theorem z3b {kvs:List (Key × V)} {k:Key} {v:V} (h:∀q∈kvs,okV q.2=true) (hv:okV v=true):(∀q∈putK kvs k v,okV q.2=true)∧(putK kvs k v).length≤kvs.length+1:=by
 unfold putK
 split
 ·refine ⟨fun q hq=>?_,by rw [km];lia⟩
  obtain ⟨p,hp,rfl⟩:=yi.mp hq
  split
  ·exact hv
  ·exact h p hp
 ·refine ⟨fun q hq=>?_,by rw [ko,kJ];lia⟩
  rcases kX.mp hq with z | z
  ·exact h q z
  ·rw [ku.mp z];exact hv
theorem z7s (hm:OkM m n) (hn:n≤900) (hok:jG ⟨"store",arg,ln⟩) (ha:1≤m.st.length):Does ⟨"store",arg,ln⟩ m n:=by
 obtain ⟨nm,rfl⟩:=Qz (JS hok (s:="name") (by trivial))
 have e0:rowM "store" (.str nm) m=ZL "store" (.str nm) m:=by (unfold rowM;repeat (first | rw [kE (by trivial)] | rw [kD (by trivial)]))
 obtain ⟨ys,x,e⟩:=jJ ha
 have hst:=hm.st
 have hl:=hm.lst
 rw [e] at hst hl
 rw [len1] at hl
 obtain ⟨p1,p2⟩:=z3b (k:=(Sum.inr nm:Key)) hm.kn hst.last
 refine ⟨.next,{ m with st:=ys,kn:=putK m.kn (Sum.inr nm) x },?_,⟨hst.left,p1,hm.sd,(by show ys.length≤n+1;lia),(by have:=hm.lkn;show (putK m.kn (Sum.inr nm) x).length≤_;lia),(by have:=hm.lsd;show m.sd.length≤_;lia)⟩,qA _,by trivial,?_,by trivial⟩
 ·show rowM "store" (.str nm) m=_
  rw [e0]
  unfold ZL
  dsimp only
  rw [e,kM,kL]
  dsimp only
  rw [kE (j6 hm.lkn (by lia))]
 ·show ((ys.length:Nat):Int)=_
  unfold zB
  rw [e,len1,show tabI zD "store"=1 by trivial,show tabI zH "store"=0 by trivial]
  lia
theorem z7w (hm:OkM m n) (hok:jG ⟨"clear",arg,ln⟩):Does ⟨"clear",arg,ln⟩ m n:=by
 obtain ⟨nm,rfl⟩:=Qz (JS hok (s:="name") (by trivial))
 have e0:rowM "clear" (.str nm) m=Zd "clear" (.str nm) m:=by (unfold rowM;repeat (first | rw [kE (by trivial)] | rw [kD (by trivial)]))
 cases e:valV m.kn (Sum.inr nm:Key) with
 | none=>exact Jj hm (by show rowM "clear" (.str nm) m=_;rw [e0];unfold Zd;dsimp only;rw [e]) (by trivial) (by unfold zQ;rw [kD (by trivial)];trivial)
 | some v=>
  refine ⟨.next,{ m with kn:=jF m.kn (Sum.inr nm) },by show rowM "clear" (.str nm) m=_;rw [e0];unfold Zd;dsimp only;rw [e],⟨hm.st,fun q hq=>hm.kn q (List.mem_filter.mp hq).1,hm.sd,(by have:=hm.lst;show m.st.length≤_;lia),?_,(by have:=hm.lsd;show m.sd.length≤_;lia)⟩,qA _,by trivial,?_,by trivial⟩
  ·have:=List.length_filter_le (fun kv:Key × V=>decide (kv.1≠(Sum.inr nm:Key))) m.kn
   have:=hm.lkn
   show (m.kn.filter fun kv=>decide (kv.1≠(Sum.inr nm:Key))).length≤_
   lia
  ·show ((m.st.length:Nat):Int)=_
   unfold zB
   rw [show tabI zD "clear"=0 by trivial,show tabI zH "clear"=0 by trivial]
   lia
theorem z93 (hm:OkM m n) (ha:1≤m.st.length):Does ⟨"drop",arg,ln⟩ m n:=by
 have e0:rowM "drop" arg m=JQ "drop" arg m:=by (unfold rowM;repeat (first | rw [kE (by trivial)] | rw [kD (by trivial)]))
 obtain ⟨ys,x,e⟩:=jJ ha
 have hst:=hm.st
 have hl:=hm.lst
 rw [e] at hst hl
 rw [len1] at hl
 refine ⟨.next,{ m with st:=ys },?_,hm.stk (by lia) hst.left (by lia),qA _,by trivial,?_,by trivial⟩
 ·show rowM "drop" arg m=_
  rw [e0]
  unfold JQ
  rw [e,kM,kL]
 ·show ((ys.length:Nat):Int)=_
  unfold zB
  rw [e,len1,show tabI zD "drop"=1 by trivial,show tabI zH "drop"=0 by trivial]
  lia
theorem z8V (hm:OkM m n) (hn:n≤900) (ha:1≤m.st.length):Does ⟨"tell",arg,ln⟩ m n:=by
 have e0:rowM "tell" arg m=JO "tell" arg m:=by (unfold rowM;repeat (first | rw [kE (by trivial)] | rw [kD (by trivial)]))
 obtain ⟨ys,x,e⟩:=jJ ha
 have hst:=hm.st
 have hl:=hm.lst
 rw [e] at hst hl
 rw [len1] at hl
 refine ⟨.next,{ m with st:=ys,sd:=m.sd++[x] },?_,⟨hst.left,hm.kn,hm.sd.app (okVs.one hst.last),(by show ys.length≤n+1;lia),(by have:=hm.lkn;show m.kn.length≤_;lia),(by have:=hm.lsd;show (m.sd++[x]).length≤_;rw [len1];lia)⟩,List.prefix_append _ _,by trivial,?_,by trivial⟩
 ·show rowM "tell" arg m=_
  rw [e0]
  unfold JO
  rw [e,kM,kL]
  dsimp only
  rw [kE (j6 hm.lsd (by lia))]
 ·show ((ys.length:Nat):Int)=_
  unfold zB
  rw [e,len1,show tabI zD "tell"=1 by trivial,show tabI zH "tell"=0 by trivial]
  lia
theorem z3X {st:List V} {k:Int} (h0:1≤k) (h1:k≤st.length):∃j v,JT st (.int k)=some (j,v)∧v∈st∧j < st.length:=by
 have hj:st.length - k.toNat < st.length:=by lia
 refine ⟨st.length - k.toNat,st[st.length - k.toNat],?_,List.getElem_mem hj,hj⟩
 unfold JT
 dsimp only
 rw [kE ⟨h0,by lia⟩,kO hj]
 rfl
theorem z94 (hm:OkM m n) (hn:n≤900) {k:Int} (h0:1≤k) (h1:k≤m.st.length):Does ⟨"copy",.int k,ln⟩ m n:=by
 have e0:rowM "copy" (.int k) m=JR "copy" (.int k) m:=by (unfold rowM;repeat (first | rw [kE (by trivial)] | rw [kD (by trivial)]))
 obtain ⟨j,v,e,hv,_⟩:=z3X h0 h1
 exact ZP hm hn (hm.st v hv) (by show rowM "copy" (.int k) m=_;rw [e0];unfold JR;rw [e];dsimp only;rw [kE (j6 hm.lst (by lia))]) (by trivial) (by trivial) (by trivial) (by trivial)
theorem z8W (hm:OkM m n) {k:Int} (h0:1≤k) (h1:k≤m.st.length):Does ⟨"swap",.int k,ln⟩ m n:=by
 have e0:rowM "swap" (.int k) m=JP "swap" (.int k) m:=by (unfold rowM;repeat (first | rw [kE (by trivial)] | rw [kD (by trivial)]))
 obtain ⟨j,v,e,hv,hj⟩:=z3X h0 h1
 obtain ⟨ys,x,e1⟩:=jJ (l:=m.st) (by lia)
 have hx:m.st.getLast?=some x:=by rw [e1,kM]
 have hxm:x∈m.st:=by rw [e1];exact kQ _ (ku.mpr rfl)
 have hall:okVs ((m.st.set (m.st.length - 1) v).set j x):=fun w hw=>by
  rcases List.mem_or_eq_of_mem_set hw with z | z
  ·rcases List.mem_or_eq_of_mem_set z with z | z
   ·exact hm.st w z
   ·rw [z];exact hm.st v hv
  ·rw [z];exact hm.st x hxm
 have hlen:((m.st.set (m.st.length - 1) v).set j x).length=m.st.length:=by rw [List.length_set,List.length_set]
 refine ⟨.next,{ m with st:=(m.st.set (m.st.length - 1) v).set j x },?_,hm.stk (by lia) hall (by rw [hlen];have:=hm.lst;lia),qA _,by trivial,?_,by trivial⟩
 ·show rowM "swap" (.int k) m=_
  rw [e0]
  unfold JP
  rw [e,hx]
 ·show ((((m.st.set (m.st.length - 1) v).set j x).length:Nat):Int)=_
  unfold zB
  rw [hlen,show tabI zD "swap"=0 by trivial,show tabI zH "swap"=0 by trivial]
  lia
theorem z90 (hm:OkM m n):Does ⟨"jump",arg,ln⟩ m n:=by
 have e0:rowM "jump" arg m=z2v "jump" arg m:=by (unfold rowM;repeat (first | rw [kE (by trivial)] | rw [kD (by trivial)]))
 refine ⟨.go,m,e0,hm.more (by lia),qA _,by trivial,?_⟩
 show ((m.st.length:Nat):Int)=_
 rw [kD (by trivial)]
 unfold zB
 rw [show tabI zD "jump"=0 by trivial,show tabI zH "jump"=0 by trivial]
 lia
theorem d_if {op:Str} (ho:op∈(["iftrue","iffalse"]:List Str)) (hm:OkM m n) (ha:1≤m.st.length):Does ⟨op,arg,ln⟩ m n:=by
 obtain ⟨e0,f1,f2,f3,f4,f5,f6⟩:rowM op arg m=gIf op arg m∧inT op qi=false∧inT op jumping=true∧inT op leaving=false∧tabI zD op=1∧tabI zH op=0∧tabI zP op=0:=by
  simp only [kH,ky,or_false] at ho
  rcases ho with rfl | rfl
  all_goals exact ⟨by (unfold rowM;repeat (first | rw [kE (by trivial)] | rw [kD (by trivial)])),by trivial,by trivial,by trivial,by trivial,by trivial,by trivial⟩
 obtain ⟨ys,x,e⟩:=jJ ha
 have hst:=hm.st
 have hl:=hm.lst
 rw [e] at hst hl
 rw [len1] at hl
 have hb:zB ⟨op,arg,ln⟩ (m.st.length:Int)=(ys.length:Int):=by
  unfold zB
  rw [f4,f5,e,len1]
  lia
 have e1:rowM op arg m=some (if Q9 x=decide (op="iftrue") then .go else .next,{ m with st:=ys }):=by
  rw [e0]
  unfold gIf
  rw [e,kM,kL]
  dsimp only
  rw [kE (jw hst.last)]
 refine ⟨_,_,e1,hm.stk (by lia) hst.left (by lia),qA _,?_⟩
 by_cases hz:Q9 x=decide (op="iftrue")
 ·rw [kE hz]
  refine ⟨f2,?_⟩
  show ((ys.length:Nat):Int)=(if inT op leaving=true then _ else _)
  rw [f3,kD ke,hb]
 ·rw [kD hz]
  exact ⟨f1,hb.symm,f6⟩
theorem d_or {op:Str} (ho:op∈(["ortrue","orfalse"]:List Str)) (hm:OkM m n) (ha:1≤m.st.length):Does ⟨op,arg,ln⟩ m n:=by
 obtain ⟨e0,f1,f2,f3,f4,f5,f6⟩:rowM op arg m=gOr op arg m∧inT op qi=false∧inT op jumping=true∧inT op leaving=true∧tabI zD op=1∧tabI zH op=0∧tabI zP op=0:=by
  simp only [kH,ky,or_false] at ho
  rcases ho with rfl | rfl
  all_goals exact ⟨by (unfold rowM;repeat (first | rw [kE (by trivial)] | rw [kD (by trivial)])),by trivial,by trivial,by trivial,by trivial,by trivial,by trivial⟩
 obtain ⟨ys,x,e⟩:=jJ ha
 have hst:=hm.st
 have hl:=hm.lst
 rw [e] at hst hl
 rw [len1] at hl
 have hb:zB ⟨op,arg,ln⟩ (m.st.length:Int)=(ys.length:Int):=by
  unfold zB
  rw [f4,f5,e,len1]
  lia
 have e1:rowM op arg m=some (if Q9 x=decide (op="ortrue") then (.go,m) else (.next,{ m with st:=ys })):=by
  rw [e0]
  unfold gOr
  rw [e,kM,kL]
  dsimp only
  rw [kE (jw hst.last)]
 by_cases hz:Q9 x=decide (op="ortrue")
 ·rw [kE hz] at e1
  refine ⟨_,_,e1,hm.more (by lia),qA _,f2,?_⟩
  show ((m.st.length:Nat):Int)=(if inT op leaving=true then _ else _)
  rw [f3,kE rfl]
 ·rw [kD hz] at e1
  exact ⟨_,_,e1,hm.stk (by lia) hst.left (by lia),qA _,f1,hb.symm,f6⟩
theorem z5u (hm:OkM m n) (ha:1≤m.st.length):Does ⟨"return",arg,ln⟩ m n:=by
 have e0:rowM "return" arg m=jx "return" arg m:=by (unfold rowM;repeat (first | rw [kE (by trivial)] | rw [kD (by trivial)]))
 obtain ⟨ys,x,e⟩:=jJ ha
 have hst:=hm.st
 have hl:=hm.lst
 rw [e] at hst hl
 rw [len1] at hl
 refine ⟨.value x,{ m with st:=ys },?_,hm.stk (by lia) hst.left (by lia),qA _,rfl,hst.last⟩
 show rowM "return" arg m=_
 rw [e0]
 unfold jx
 rw [e,kM,kL]
theorem z7t (hm:OkM m n) (ha:1≤m.st.length):Does ⟨"raise",arg,ln⟩ m n:=by
 have e0:rowM "raise" arg m=ZM "raise" arg m:=by (unfold rowM;repeat (first | rw [kE (by trivial)] | rw [kD (by trivial)]))
 obtain ⟨ys,x,e⟩:=jJ ha
 have hst:=hm.st
 have hl:=hm.lst
 rw [e] at hst hl
 rw [len1] at hl
 obtain ⟨k,hk,hin⟩:∃k,z3v x=some k∧k∈qT:=by
  have hx:=hst.last
  cases x with
  | str z=>
   have hz:=kG (show decide (z∈qT)=true from hx)
   refine ⟨z,?_,hz⟩
   unfold z3v
   dsimp only
   rw [kE (Q4 z hz).2]
  | _=>exact ⟨"Type",rfl,by trivial⟩
 refine ⟨.fault k,{ m with st:=ys },?_,hm.stk (by lia) hst.left (by lia),qA _,by trivial,hin,?_,?_⟩
 ·show rowM "raise" arg m=_
  rw [e0]
  unfold ZM
  rw [e,kM,kL]
  dsimp only
  rw [kE (jw hst.last),hk]
  rfl
 ·show _≤((ys.length:Nat):Int)
  rw [show zQ ⟨"raise",arg,ln⟩=1 by unfold zQ;rw [kD (by trivial)];trivial,e,len1]
  lia
 ·show ((ys.length:Nat):Int)≤_
  rw [e,len1]
  lia
theorem z5X {r:Row} (hm:OkM m n) (hn:n≤900) {ys:List V} (hy:okVs ys) (hl:ys.length≤n) {r1 r2:V} (h:(r1=.non∧okV r2=true)∨∃k,k∈qT∧r1=.str k∧inT r.op faulting=true)
  (e:rowM r.op r.arg m=pofM r1 r2 { m with st:=ys }) (h1:inT r.op qi=false) (h2:zB r (m.st.length:Int)=(ys.length:Int)+1) (h3:tabI zP r.op=0) (h4:(m.st.length:Int) - zQ r=(ys.length:Int)) (h5:ys.length≤m.st.length):Does r m n:=by
 rcases h with ⟨rfl,hv⟩ | ⟨k,hk,rfl,hf⟩
 ·have e2:pofM .non r2 { m with st:=ys }=some (.next,{ m with st:=ys++[r2] }):=by
   unfold pofM
   dsimp only
   rw [kE (j6 hl (by lia))]
  rw [e2] at e
  refine ⟨_,_,e,hm.stk (by lia) (hy.app (okVs.one hv)) (by rw [len1];lia),qA _,h1,?_,h3⟩
  show (((ys++[r2]).length:Nat):Int)=_
  rw [h2,len1]
  lia
 ·refine ⟨_,_,e,hm.stk (by lia) hy (by lia),qA _,hf,hk,?_,?_⟩
  ·show _≤((ys.length:Nat):Int)
   lia
  ·show ((ys.length:Nat):Int)≤_
   lia
theorem z1n {op:Str} (ho:op∈jl) (hm:OkM m n) (hn:n≤900) (ha:2≤m.st.length):Does ⟨op,arg,ln⟩ m n:=by
 obtain ⟨ys,x,y,e⟩:=z7Y ha
 have hst:=hm.st
 have hl:=hm.lst
 rw [e] at hst hl
 rw [len1,len1] at hl
 obtain ⟨r1,r2,e1,e2⟩:=z4T ho hst.left.last hst.last
 obtain ⟨f1,f4,f5,f6,f7⟩:inT op qi=false∧tabI zD op=2∧tabI zH op=1∧tabI zP op=0∧inT op qy=false:=by
  unfold jl at ho
  simp only [kH,ky,or_false] at ho
  rcases ho with rfl | rfl | rfl | rfl | rfl | rfl | rfl
  all_goals exact ⟨by trivial,by trivial,by trivial,by trivial,by trivial⟩
 refine z5X (ys:=ys) hm hn hst.left.left (by lia) e2 ?_ f1 ?_ f6 ?_ ?_
 ·show rowM op arg m=_
  unfold rowM
  rw [kE ho]
  unfold gTwo
  rw [e,kM,kL,kM,kL]
  dsimp only
  rw [kE ⟨jw hst.left.last,jw hst.last⟩,e1]
 ·unfold zB
  rw [f4,f5,e,len1,len1]
  lia
 ·unfold zQ
  rw [f7,kD ke]
  show _ - tabI zD op=_
  rw [f4,e,len1,len1]
  lia
 ·rw [e,len1,len1];lia
theorem z8Y {op:Str} (ho:op∈jR) (hm:OkM m n) (hn:n≤900) (ha:1≤m.st.length):Does ⟨op,arg,ln⟩ m n:=by
 obtain ⟨ys,x,e⟩:=jJ ha
 have hst:=hm.st
 have hl:=hm.lst
 rw [e] at hst hl
 rw [len1] at hl
 obtain ⟨r1,r2,e1,e2⟩:=z4U ho hst.last
 obtain ⟨f0,f1,f4,f5,f6,f7⟩:op∉jl∧inT op qi=false∧tabI zD op=1∧tabI zH op=1∧tabI zP op=0∧inT op qy=false:=by
  unfold jR at ho
  simp only [kH,ky,or_false] at ho
  rcases ho with rfl | rfl
  all_goals exact ⟨by trivial,by trivial,by trivial,by trivial,by trivial,by trivial⟩
 refine z5X (ys:=ys) hm hn hst.left (by lia) e2 ?_ f1 ?_ f6 ?_ ?_
 ·show rowM op arg m=_
  unfold rowM
  rw [kD f0,kE ho]
  unfold gOne
  rw [e,kM,kL]
  dsimp only
  rw [kE (jw hst.last),e1]
 ·unfold zB
  rw [f4,f5,e,len1]
  lia
 ·unfold zQ
  rw [f7,kD ke]
  show _ - tabI zD op=_
  rw [f4,e,len1]
  lia
 ·rw [e,len1];lia
theorem z62 {α:Type} {x:Str} {v:α}:∀{t:List (Str × α)},t.lookup x=some v→x∈t.map (·.1)
 | (k,u) :: t,h=>by
  rw [List.lookup_cons] at h
  by_cases e:(x == k)=true
  ·rw [show x=k by simpa using e]
   exact kU ..
  ·have e:(x == k)=false:=by simpa using e
   rw [e] at h
   exact kW _ (z62 h)
theorem z60 {op:Str} {s:Str} (h:zX op=some s):op∈(["push","load","quick","store","clear","copy","swap","jump","iftrue","iffalse","ortrue","orfalse","try","label","add","sub","mul","div","rest","less","same","neg","not","drop","tell","return","raise","endtry"]:List Str):=z62 h
theorem QZ {op:Str} (h:inT op qy=false):zQ ⟨op,arg,ln⟩=tabI zD op:=by
 unfold zQ
 rw [h,kD ke]
theorem z8b {r:Row} (hm:OkM m n) (hn:n≤900) (hok:jG r) (hp:r.op="push"→okV r.arg=true) (ha:zQ r≤(m.st.length:Int)) (hs:r.op∉Jc):Does r m n:=by
 obtain ⟨op,arg,ln⟩:=r
 obtain ⟨s,hso,_⟩:=hok.parts
 have hop:=z60 hso
 have one:inT op qy=false→tabI zD op=1→1≤m.st.length:=fun h1 h2=>by
  rw [QZ h1,h2] at ha
  lia
 have two:inT op qy=false→tabI zD op=2→2≤m.st.length:=fun h1 h2=>by
  rw [QZ h1,h2] at ha
  lia
 simp only [kH,ky,or_false] at hop
 rcases hop with rfl | rfl | rfl | rfl | rfl | rfl | rfl | rfl | rfl | rfl | rfl | rfl | rfl | rfl | rfl | rfl | rfl | rfl | rfl | rfl | rfl | rfl | rfl | rfl | rfl | rfl | rfl | rfl
 ·exact z8X hm hn (hp rfl)
 ·exact z8Z hm hn hok
 ·exact z7u hm hn hok
 ·exact z7s hm hn hok (one (by trivial) (by trivial))
 ·exact z7w hm hok
 ·obtain ⟨k,hk,h1,_⟩:=Z5 hok (show inT "copy" qy=true by trivial)
  have hk:arg=.int k:=hk
  subst hk
  have e:zQ ⟨"copy",.int k,ln⟩=k:=by unfold zQ;rw [kE (by trivial)]
  rw [e] at ha
  exact z94 hm hn h1 ha
 ·obtain ⟨k,hk,h1,_⟩:=Z5 hok (show inT "swap" qy=true by trivial)
  have hk:arg=.int k:=hk
  subst hk
  have e:zQ ⟨"swap",.int k,ln⟩=k:=by unfold zQ;rw [kE (by trivial)]
  rw [e] at ha
  exact z8W hm h1 ha
 ·exact z90 hm
 ·exact d_if (by trivial) hm (one (by trivial) (by trivial))
 ·exact d_if (by trivial) hm (one (by trivial) (by trivial))
 ·exact d_or (by trivial) hm (one (by trivial) (by trivial))
 ·exact d_or (by trivial) hm (one (by trivial) (by trivial))
 ·exact absurd (by trivial) hs
 ·exact absurd (by trivial) hs
 ·exact z1n (by trivial) hm hn (two (by trivial) (by trivial))
 ·exact z1n (by trivial) hm hn (two (by trivial) (by trivial))
 ·exact z1n (by trivial) hm hn (two (by trivial) (by trivial))
 ·exact z1n (by trivial) hm hn (two (by trivial) (by trivial))
 ·exact z1n (by trivial) hm hn (two (by trivial) (by trivial))
 ·exact z1n (by trivial) hm hn (two (by trivial) (by trivial))
 ·exact z1n (by trivial) hm hn (two (by trivial) (by trivial))
 ·exact z8Y (by trivial) hm hn (one (by trivial) (by trivial))
 ·exact z8Y (by trivial) hm hn (one (by trivial) (by trivial))
 ·exact z93 hm (one (by trivial) (by trivial))
 ·exact z8V hm hn (one (by trivial) (by trivial))
 ·exact z5u hm (one (by trivial) (by trivial))
 ·exact z7t hm (one (by trivial) (by trivial))
 ·exact absurd (by trivial) hs
end
inductive Gok:List Gd→Int→Prop where
 | nil {d:Int}:Gok [] d
 | snoc {gs:List Gd} {g:Gd} {d:Int} (h:Gok gs g.2) (h0:0≤g.2) (h1:g.2≤d):Gok (gs++[g]) d
theorem Gok.inv {gs:List Gd} {d:Int} (h:Gok gs d) {g:Gd} (e:gs.getLast?=some g):0≤g.2∧g.2≤d∧Gok gs.dropLast g.2:=by
 cases h with
 | nil=>cases e
 | snoc h h0 h1=>
  rw [kM] at e
  cases e
  rw [kL]
  exact ⟨h0,h1,h⟩
theorem Gok.at_ {gs:List Gd} {d d':Int} (h:Gok gs d) (hd:∀g,gs.getLast?=some g→g.2≤d'):Gok gs d':=by
 cases h with
 | nil=>exact .nil
 | snoc h h0 h1=>exact .snoc h h0 (hd _ kM)
theorem Gok.up {gs:List Gd} {d d':Int} (h:Gok gs d) (hd:d≤d'):Gok gs d':=h.at_ fun g e=>by have:=(h.inv e).2.1;lia
theorem Zx {rs:List Row} {p:Nat} {r:Row} {d:Int} {og:Option Gd} (h:jI rs p r d og=[]):¬d < zQ r∧Zn r og=false∧qw r d og=false:=by
 unfold jI Q8 at h
 have h1:=List.map_eq_nil_iff.mp h
 have h2:=List.filter_eq_nil_iff.mp h1
 refine ⟨fun z=>?_,?_,?_⟩
 ·exact h2 _ (kU ..) (kl z)
 ·cases e:Zn r og with
  | false=>rfl
  | true=>exact absurd e (h2 (("guard":Str),Zn r og) (by simp))
 ·cases e:qw r d og with
  | false=>rfl
  | true=>exact absurd e (h2 (("beneath":Str),qw r d og) (by simp))
section
variable {rs:List Row} {S:Fnd} {p:Nat} {r:Row} {d:Int} {gs:List Gd}
theorem z1d (T:ZS rs S) (hr:rs[p]?=some r) (hS:S[p]?=some (some (d,gs))) {m:Mv} (hm:m∈mv1 r p d++mv2 rs r d++mv3 rs r gs.getLast?):∃j:Nat,m.1=.int (j:Int)∧S[j]?=some (some (m.2.1,zR r d gs m.2.2)):=by
 obtain ⟨h1,h2,h3⟩:=Zx (T.here p r _ hr hS).1
 refine T.next p r (d,gs) hr hS m.1 (m.2.1,zR r d gs m.2.2) ?_
 unfold Zl
 refine yi.mpr ⟨m,?_,rfl⟩
 unfold qP
 rw [kj h1,kD ke,h2,kD ke]
 exact hm
theorem z3q (T:ZS rs S) (hr:rs[p]?=some r) (hS:S[p]?=some (some (d,gs))) (hn:inT r.op qi=false):S[p+1]?=some (some (zB r d,zR r d gs (tabI zP r.op))):=by
 obtain ⟨j,h1,h2⟩:=z1d T hr hS (m:=(.int ((p:Int)+1),zB r d,tabI zP r.op)) (by
  refine kR _ (kR _ ?_)
  unfold mv1
  rw [hn,kD ke]
  exact ku.mpr rfl)
 have h1:V.int ((p:Int)+1)=V.int (j:Int):=h1
 injection h1 with h1
 have:j=p+1:=by lia
 rw [this] at h2
 exact h2
theorem z63 {m:Int} {j:Nat} (h:labV rs m=.int (j:Int)):zE rs m=some j:=by
 unfold labV at h
 cases e:zE rs m with
 | none=>rw [e] at h;cases h
 | some i=>
  rw [e] at h
  injection h with h
  congr 1
  lia
theorem z6T (T:ZS rs S) (hc:Code rs) (hr:rs[p]?=some r) (hS:S[p]?=some (some (d,gs))) (hj:inT r.op jumping=true):
  ∃(mk:Int) (j:Nat),r.arg=.int mk∧zE rs mk=some j∧S[j]?=some (some ((if inT r.op leaving=true then d else zB r d),gs)):=by
 obtain ⟨mk,j0,ha,hf⟩:=z1M hc hr hj
 obtain ⟨j,h1,h2⟩:=z1d T hr hS (m:=(labV rs (argM r.arg),(if inT r.op leaving=true then d else zB r d),0)) (by
  refine kR _ (kQ _ ?_)
  unfold mv2
  rw [kE hj]
  exact ku.mpr rfl)
 have h1:=z63 h1
 rw [ha] at h1
 refine ⟨mk,j,ha,h1,?_⟩
 have e0:zR r d gs 0=gs:=by unfold zR;rw [kD (by decide),kD (by decide)]
 have h2:S[j]?=some (some ((if inT r.op leaving=true then d else zB r d),zR r d gs 0)):=h2
 rw [e0] at h2
 exact h2
theorem z5r (T:ZS rs S) (hr:rs[p]?=some r) (hS:S[p]?=some (some (d,gs))) (hf:inT r.op faulting=true) {g:Gd} (hg:gs.getLast?=some g):∃j:Nat,zE rs g.1=some j∧S[j]?=some (some (g.2+1,gs.dropLast)):=by
 obtain ⟨j,h1,h2⟩:=z1d T hr hS (m:=(labV rs g.1,g.2+1,-1)) (by
  refine kQ _ ?_
  unfold mv3
  rw [kE hf,hg]
  exact ku.mpr rfl)
 refine ⟨j,z63 h1,?_⟩
 have e0:zR r d gs (-1)=gs.dropLast:=by unfold zR;rw [kD (by decide),kE rfl]
 have h2:S[j]?=some (some (g.2+1,zR r d gs (-1))):=h2
 rw [e0] at h2
 exact h2
end
def z7C (rs:List Row) (S:Fnd) (d:Nat) (p:Nat) (gs:List Gd):Prop:=S[p]?=some (some ((d:Int),gs))∧Gok gs d∧∃r,rs[p]?=some r∧r.op∉Jc
theorem Q5 {rs:List Row} {S:Fnd} (T:ZS rs S) (hc:Code rs) {d:Nat}:∀(k p:Nat) (gs:List Gd),rs.length < p+k→S[p]?=some (some ((d:Int),gs))→Gok gs d→∃p' gs',jp rs d k p gs=some (p',gs')∧z7C rs S d p' gs'
 | 0,p,gs,hk,hS,_=>by
  have:=(ki.mp hS).1
  rw [T.len] at this
  lia
 | k+1,p,gs,hk,hS,hg=>by
  have hp:p < rs.length:=by
   have:=(ki.mp hS).1
   rw [T.len] at this
   exact this
  have hr:rs[p]?=some rs[p]:=kO hp
  generalize rs[p]=r at hr
  obtain ⟨w1,w2⟩:=T.here p r _ hr hS
  obtain ⟨h1,h2,h3⟩:=Zx w1
  have stand:inT r.op qi=false→tabI zD r.op=0→tabI zH r.op=0→S[p+1]?=some (some ((d:Int),zR r d gs (tabI zP r.op))):=fun a b c=>by
   have:=z3q T hr hS a
   unfold zB at this
   rw [b,c] at this
   rw [show (d:Int) - 0+0=d by lia] at this
   exact this
  unfold jp
  rw [hr]
  dsimp only
  by_cases c1:r.op="label"
  ·rw [kE c1]
   have:=stand (by rw [c1];decide+kernel) (by rw [c1];decide+kernel) (by rw [c1];decide+kernel)
   rw [c1,show tabI zP "label"=0 by trivial] at this
   have e0:zR r d gs 0=gs:=by unfold zR;rw [kD (by decide),kD (by decide)]
   rw [e0] at this
   exact Q5 T hc k (p+1) gs (by lia) this hg
  rw [kD c1]
  by_cases c2:r.op="try"
  ·rw [kE c2]
   have:=stand (by rw [c2];decide+kernel) (by rw [c2];decide+kernel) (by rw [c2];decide+kernel)
   rw [c2,show tabI zP "try"=1 by trivial] at this
   have e0:zR r d gs 1=gs++[(argM r.arg,(d:Int))]:=by unfold zR;rw [kE rfl]
   rw [e0] at this
   obtain ⟨mk,ha⟩:∃mk,r.arg=.int mk:=by
    have hfit:=hc.fit p r hr
    unfold jo at hfit
    rw [kD c1,kE (by rw [c2];decide+kernel)] at hfit
    cases e:r.arg with
    | int mk=>exact ⟨mk,rfl⟩
    | _=>rw [e] at hfit;cases hfit
   rw [ha] at this ⊢
   dsimp only
   rw [kE (show qO gs.length=true from kl w2)]
   exact Q5 T hc k (p+1) _ (by lia) this (.snoc hg (by show (0:Int)≤d;lia) (Int.le_refl _))
  rw [kD c2]
  by_cases c3:r.op="endtry"
  ·rw [kE c3]
   have:=stand (by rw [c3];decide+kernel) (by rw [c3];decide+kernel) (by rw [c3];decide+kernel)
   rw [c3,show tabI zP "endtry"= -1 by trivial] at this
   have e0:zR r d gs (-1)=gs.dropLast:=by unfold zR;rw [kD (by decide),kE rfl]
   rw [e0] at this
   have hne:¬gs=[]:=fun z=>by
    rw [z] at h2
    unfold Zn at h2
    rw [kl c3] at h2
    cases h2
   rw [kD hne]
   refine Q5 T hc k (p+1) _ (by lia) this ?_
   cases e:gs.getLast? with
   | none=>exact absurd (List.getLast?_eq_none_iff.mp e) hne
   | some g=>
    obtain ⟨a,b,c⟩:=hg.inv e
    exact c.up b
  rw [kD c3]
  refine ⟨p,gs,rfl,hS,hg,r,hr,?_⟩
  unfold Jc
  simp only [kH,ky,or_false]
  rintro (z | z | z)
  ·exact c1 z
  ·exact c2 z
  ·exact c3 z
structure InvM (rs:List Row) (S:Fnd) (m:Mst) (gs:List Gd) (p n:Nat):Prop where
 ok:OkM m n
 at_:z7C rs S m.st.length p gs
noncomputable def onE:List V:=[.str "on"]
structure z4p (e:List V):Prop where
 ne:e≠onE
 form:(∃v,e=[.str "value",v]∧okV v=true)∨∃k l,e=[.str "fault",.str k,.int l]∧k∈qT∧0≤l∧l≤9999
theorem z3R {v:V} (h:okV v=true):z4p [.str "value",v]:=⟨nofun,.inl ⟨v,rfl,h⟩⟩
theorem z3S {k:Str} {l:Int} (h:k∈qT) (h0:0≤l) (h1:l≤9999):z4p [.str "fault",.str k,.int l]:=⟨nofun,.inr ⟨k,l,rfl,h,h0,h1⟩⟩
theorem z66 (st:List V) {g:Int} (h0:0≤g) (h1:g≤st.length):cutV st none (some g)=st.take g.toNat:=by
 unfold cutV
 have e1:HT.sIx st.length 0 none=0:=rfl
 have e2:HT.sIx st.length st.length (some g)=g.toNat:=by
  unfold HT.sIx
  first
   | (rw [kD (by lia)];lia)
   | (simp only [];split <;> lia)
   | (simp only [HT.sIx];lia)
 rw [e1,e2,List.drop_zero,Nat.sub_zero]
theorem z6g {rs:List Row} {S:Fnd} (T:ZS rs S) (hc:Code rs) {p:Nat} {r:Row} {d:Int} {gs:List Gd} (hr:rs[p]?=some r) (hS:S[p]?=some (some (d,gs))) (hg:Gok gs d) {m:Mst} {n:Nat} (hm:OkM m (n+1)) (hn:n≤900) {k:Str} (hk:k∈qT) (hf:inT r.op faulting=true) (h1:d - zQ r≤(m.st.length:Int)) (h2:(m.st.length:Int)≤d) (hd:d≤n) (hd0:0≤d):
  ∃m' gs' e' here',Qk rs m gs [.str "on"] k r.line=some (m',gs',e',here')∧m'.sd=m.sd∧OkM m' (n+1)∧((∃p',here'=some p'∧e'=onE∧InvM rs S m' gs' p' (n+1))∨(here'=none∧z4p e')):=by
 have hok:=hc.ok r (kK hr)
 obtain ⟨w1,w2,w3⟩:=Zx (T.here p r _ hr hS).1
 unfold Qk
 cases e:gs.getLast? with
 | none=>
  refine ⟨_,_,_,_,rfl,rfl,hm,.inr ⟨rfl,z3S hk ?_ ?_⟩⟩
  all_goals
   have h:rowV r.op r.arg (.int r.line)=true:=hok
   unfold rowV at h
   rw [yg] at h
   have h:=h.2
   have h:(decide (0≤r.line)&&decide (r.line≤9999))=true:=h
   rw [yg,yh,yh] at h
   lia
 | some g=>
  obtain ⟨a,b,c⟩:=hg.inv e
  have hfit:g.2≤(m.st.length:Int):=by
   have w3:qw r d gs.getLast?=false:=w3
   rw [e] at w3
   unfold qw at w3
   dsimp only at w3
   have hcp:¬r.op="copy":=fun z=>by
    rw [z] at hf
    exact absurd hf (by trivial)
   rw [kD hcp] at w3
   have w3:=of_decide_eq_false w3
   split at w3 <;> split at w3 <;> lia
  obtain ⟨j,hj,hSj⟩:=z5r T hr hS hf e
  dsimp only
  rw [kE (j6 hm.lst (by lia)),hj]
  dsimp only
  rw [z66 m.st a hfit]
  have hlen:(m.st.take g.2.toNat++[V.str k]).length=g.2.toNat+1:=by
   rw [ko,List.length_take,kJ]
   lia
  have hokm:OkM { m with st:=m.st.take g.2.toNat++[V.str k] } (n+1):=hm.stk (kh _) (okVs.app (a:=m.st.take g.2.toNat) (fun v hv=>hm.st v (List.mem_of_mem_take hv)) (okVs.one (show decide (k∈qT)=true from kl hk))) (by rw [hlen];lia)
  rw [hlen]
  have eg:(((g.2.toNat+1:Nat)):Int)=g.2+1:=by lia
  obtain ⟨p',gs',e1,e2⟩:=Q5 T hc (d:=g.2.toNat+1) 200 j gs.dropLast (by have:=hc.hi;lia) (by rw [eg];exact hSj) (c.up (by lia))
  rw [e1]
  dsimp only
  refine ⟨_,_,_,_,rfl,rfl,hokm,.inl ⟨p',rfl,rfl,hokm,?_⟩⟩
  show z7C rs S (m.st.take g.2.toNat++[V.str k]).length p' gs'
  rw [hlen]
  exact e2
theorem z2Q {rs:List Row} {S:Fnd} (T:ZS rs S) (hc:Code rs) (hv:∀r∈rs,r.op="push"→okV r.arg=true) {m:Mst} {gs:List Gd} {pas:List Nat} {p:Nat} (I:InvM rs S m gs p pas.length) (hn:pas.length≤900):
  ∃m' gs' e' here',QE rs m gs pas p=some (m',gs',pas++[p],e',here')∧m.sd <+: m'.sd∧OkM m' (pas.length+1)∧((∃p',here'=some p'∧e'=onE∧InvM rs S m' gs' p' (pas.length+1))∨(here'=none∧z4p e')):=by
 obtain ⟨hm,hS,hg,r,hr,hs⟩:=I
 have hmem:=kK hr
 obtain ⟨w1,w2,w3⟩:=Zx (T.here p r _ hr hS).1
 obtain ⟨res,m',e1,e2,e3,e4⟩:=z8b hm hn (hc.ok r hmem) (hv r hmem) (by lia) hs
 have hlen:=hc.hi
 have go:∀(j:Nat),S[j]?=some (some ((m'.st.length:Int),gs))→Gok gs (m'.st.length:Int)→∃p' gs',jp rs m'.st.length 200 j gs=some (p',gs')∧InvM rs S m' gs' p' (pas.length+1):=fun j hj hgk=>by
  obtain ⟨p',gs',h1,h2⟩:=Q5 T hc 200 j gs (by lia) hj hgk
  exact ⟨p',gs',h1,e2,h2⟩
 unfold QE
 rw [hr]
 dsimp only
 rw [kE (j6 hn (by decide)),e1]
 have deep:∀{x:Int},x=zB r (m.st.length:Int)→Gok gs x:=fun {x} hx=>hg.at_ fun g e=>by
  have b1:=(hg.inv e).2.1
  have w3:qw r (m.st.length:Int) gs.getLast?=false:=w3
  rw [e] at w3
  unfold qw at w3
  dsimp only at w3
  have hb:x=(m.st.length:Int) - tabI zD r.op+tabI zH r.op:=hx
  have tk:0≤tabI zH r.op∧(tabI zD r.op≤zQ r∨tabI zD r.op=0)∧(r.op="copy"→tabI zD r.op=0):=by
   obtain ⟨op,arg,ln⟩:=r
   obtain ⟨s,hso,_⟩:=(hc.ok _ hmem).parts
   refine ⟨?_,?_,fun z=>by rw [z];decide+kernel⟩
   ·have hop:=z60 hso
    have all:∀o∈(["push","load","quick","store","clear","copy","swap","jump","iftrue","iffalse","ortrue","orfalse","try","label","add","sub","mul","div","rest","less","same","neg","not","drop","tell","return","raise","endtry"]:List Str),0≤tabI zH o:=by trivial
    exact all op hop
   ·by_cases hdp:inT op qy=true
    ·right
     have all:∀o∈qy,tabI zD o=0:=by trivial
     exact all op (Zo.mp hdp)
    ·left
     rw [QZ (by simpa using hdp)]
     exact Int.le_refl _
  by_cases hcp:r.op="copy"
  ·have:=tk.2.2 hcp
   lia
  ·rw [kD hcp] at w3
   have w3:=of_decide_eq_false w3
   obtain ⟨t1,t2,_⟩:=tk
   split at w3 <;> split at w3 <;> lia
 cases res with
 | next=>
  obtain ⟨f1,f2,f3⟩:=e4
  have hx:=z3q T hr hS f1
  have e0:zR r (m.st.length:Int) gs 0=gs:=by unfold zR;rw [kD (by decide),kD (by decide)]
  rw [f3,e0,←f2] at hx
  obtain ⟨p',gs',h1,h2⟩:=go (p+1) hx (deep f2)
  dsimp only
  rw [h1]
  exact ⟨_,_,_,_,rfl,e3,e2,.inl ⟨p',rfl,rfl,h2⟩⟩
 | go=>
  obtain ⟨f1,f2⟩:=e4
  obtain ⟨mk,j,ha,hj,hx⟩:=z6T T hc hr hS f1
  rw [←f2] at hx
  have hgk:Gok gs (m'.st.length:Int):=by
   rw [f2]
   split
   ·exact hg
   ·exact deep rfl
  obtain ⟨p',gs',h1,h2⟩:=go j hx hgk
  rw [ha]
  dsimp only
  rw [hj]
  dsimp only
  rw [h1]
  exact ⟨_,_,_,_,rfl,e3,e2,.inl ⟨p',rfl,rfl,h2⟩⟩
 | fault k=>
  obtain ⟨f1,f2,f3,f4⟩:=e4
  obtain ⟨m2,gs2,e',here',t1,t2,t3,t4⟩:=z6g T hc hr hS hg e2 hn f2 f1 f3 f4 (by have:=hm.lst;lia) (by lia)
  dsimp only
  rw [t1]
  exact ⟨_,_,_,_,rfl,by rw [t2];exact e3,t3,t4⟩
 | value v=>exact ⟨_,_,_,_,rfl,e3,e2,.inr ⟨rfl,z3R e4.2⟩⟩
structure S5 where
 m:Mst
 gs:List Gd
 pas:List Nat
 e:List V
 here:Option Nat
noncomputable def stp (rs:List Row) (s:S5):S5:=match s.here with
 | none=>s
 | some p=>match QE rs s.m s.gs s.pas p with
  | some (m,gs,pas,e,here)=>⟨m,gs,pas,e,here⟩
  | none=>s
noncomputable def seqM (rs:List Row) (s0:S5):Nat→S5
 | 0=>s0
 | i+1=>stp rs (seqM rs s0 i)
def z4o (rs:List Row) (S:Fnd) (i:Nat) (s:S5):Prop:=∃p,s.here=some p∧s.e=onE∧s.pas.length=i∧InvM rs S s.m s.gs p i
structure z7E (i:Nat) (s:S5):Prop where
 here:s.here=none
 e:z4p s.e
 len:s.pas.length≤i
 ok:OkM s.m i
section
variable {rs:List Row} {S:Fnd} {s0:S5}
theorem z6m {s:S5} (h:s.here=none):stp rs s=s:=by
 unfold stp
 rw [h]
theorem z7X (T:ZS rs S) (hc:Code rs) (hv:∀r∈rs,r.op="push"→okV r.arg=true) {i:Nat} {s:S5} (hi:i≤900) (h:z4o rs S i s):
  (∃p,s.here=some p∧QE rs s.m s.gs s.pas p=some ((stp rs s).m,(stp rs s).gs,(stp rs s).pas,(stp rs s).e,(stp rs s).here))∧s.m.sd <+: (stp rs s).m.sd∧(stp rs s).pas.length=i+1∧(z4o rs S (i+1) (stp rs s)∨z7E (i+1) (stp rs s)):=by
 obtain ⟨p,h1,h2,h3,h4⟩:=h
 rw [←h3] at h4 hi
 obtain ⟨m',gs',e',here',e1,e2,e3,e4⟩:=z2Q T hc hv h4 hi
 have es:stp rs s=⟨m',gs',s.pas++[p],e',here'⟩:=by
  unfold stp
  rw [h1]
  dsimp only
  rw [e1]
 have hl:(s.pas++[p]).length=i+1:=by rw [ko,kJ,h3]
 rw [es]
 rw [h3] at e3
 refine ⟨⟨p,h1,e1⟩,e2,hl,?_⟩
 rcases e4 with ⟨p',f1,f2,f3⟩ | ⟨f1,f2⟩
 ·rw [h3] at f3
  exact .inl ⟨p',f1,f2,hl,f3⟩
 ·exact .inr ⟨f1,f2,yb hl,e3⟩
theorem z5V (T:ZS rs S) (hc:Code rs) (hv:∀r∈rs,r.op="push"→okV r.arg=true) (h0:z4o rs S 0 s0):∀i,i≤900→z4o rs S i (seqM rs s0 i)∨z7E i (seqM rs s0 i)
 | 0,_=>.inl h0
 | i+1,hi=>by
  rcases z5V T hc hv h0 i (by lia) with h | h
  ·exact (z7X T hc hv (by lia) h).2.2.2
  ·right
   show z7E (i+1) (stp rs (seqM rs s0 i))
   rw [z6m h.here]
   exact ⟨h.here,h.e,by have:=h.len;lia,h.ok.more (by lia)⟩
end
structure GOk (d:Int) (gs:List Gd) (n:Nat):Prop where
 pos:0≤d
 len:gs.length+n≤1000
 top:∀g,gs.getLast?=some g→g.2≤d
def GEnv (Γ:Int→Option Sta) (gs:List Gd):Prop:=∀g,gs.getLast?=some g→Γ g.1=some (g.2+1,gs.dropLast)
def Ext (Γ Γl:Int→Option Sta) (k k':Nat):Prop:=∀m:Nat,k≤m→m < k'→Γ (m:Int)=Γl (m:Int)
structure Ty (δ:Int) (sure:Bool) (k k':Nat) (l:List Row):Prop where
 go:∀d gs,GOk d gs l.length→∃(Γl:Int→Option Sta) (c':Option Sta),(c'=some (d+δ,gs)∨(sure=false∧c'=none))∧∀Γ,Ext Γ Γl k k'→GEnv Γ gs→chk Γ l (some (d,gs))=some c'
 off:∀Γ:Int→Option Sta,(∀m:Nat,k≤m→m < k'→Γ (m:Int)=none)→chk Γ l none=some none
theorem Ty.nil (k:Nat):Ty 0 true k k []:=⟨fun d gs _=>⟨fun _=>none,some (d,gs),.inl (by rw [Int.add_zero]),fun _ _ _=>rfl⟩,fun _ _=>rfl⟩
theorem Ty.app {δ1 δ2:Int} {s1 s2:Bool} {k k1 k2:Nat} {a b:List Row} (x:Ty δ1 s1 k k1 a) (y:Ty δ2 s2 k1 k2 b) (h1:k≤k1) (h2:k1≤k2) (hp:0≤δ1):Ty (δ1+δ2) (s1&&s2) k k2 (a++b):=by
 refine ⟨fun d gs hg=>?_,fun Γ hΓ=>?_⟩
 ·have hl:=hg.len
  rw [ko] at hl
  obtain ⟨Γa,ca,hca,ha⟩:=x.go d gs ⟨hg.pos,by lia,hg.top⟩
  have mix:∀Γb:Int→Option Sta,∃Γl:Int→Option Sta,∀Γ,Ext Γ Γl k k2→Ext Γ Γa k k1∧Ext Γ Γb k1 k2:=fun Γb=>
   ⟨fun m=>if m < (k1:Int) then Γa m else Γb m,fun Γ h=>⟨fun m m1 m2=>(h m m1 (by lia)).trans (kE (by lia)),fun m m1 m2=>(h m (by lia) m2).trans (kD (by lia))⟩⟩
  rcases hca with rfl | ⟨hs,rfl⟩
  ·obtain ⟨Γb,cb,hcb,hb⟩:=y.go (d+δ1) gs ⟨by have:=hg.pos;lia,by lia,fun g e=>by have:=hg.top g e;lia⟩
   obtain ⟨Γl,hm⟩:=mix Γb
   refine ⟨Γl,cb,?_,fun Γ he hE=>?_⟩
   ·rcases hcb with h | ⟨h,h'⟩
    ·exact .inl (by rw [h,Int.add_assoc])
    ·exact .inr ⟨by rw [h,Bool.and_false],h'⟩
   ·obtain ⟨e1,e2⟩:=hm Γ he
    rw [zp,ha Γ e1 hE]
    exact hb Γ e2 hE
  ·obtain ⟨Γl,hm⟩:=mix fun _=>none
   refine ⟨Γl,none,.inr ⟨by rw [hs,Bool.false_and],rfl⟩,fun Γ he hE=>?_⟩
   obtain ⟨e1,e2⟩:=hm Γ he
   rw [zp,ha Γ e1 hE]
   exact y.off Γ e2
 ·rw [zp,x.off Γ fun m m1 m2=>hΓ m m1 (by lia)]
  exact y.off Γ fun m m1 m2=>hΓ m (by lia) m2
theorem jz {Γ:Int→Option Sta} {r:Row} {s:Sta} (hl:r.op≠"label") (ho:jf r s=true) (ht:∀t∈tgts r s,Γ t.1=some t.2):chk Γ [r] (some s)=some (Qm r s):=by
 rw [Z6,kD hl]
 dsimp only
 rw [kE ⟨ho,List.all_eq_true.mpr fun t h=>kl (ht t h)⟩]
 rfl
theorem qa {Γ:Int→Option Sta} {r:Row} (hl:r.op≠"label"):chk Γ [r] none=some none:=by
 rw [Z6,kD hl]
 rfl
theorem j8 {r:Row} {d:Int} {gs:List Gd} (h1:zQ r≤d) (h2:∀g,gs.getLast?=some g→g.2≤d - zQ r) (h3:r.op≠"endtry") (h4:gs.length≤1000):jf r (d,gs)=true:=by
 unfold jf Zn
 have e1:decide (d < zQ r)=false:=kj (by lia)
 have e2:qw r d gs.getLast?=false:=by
  unfold qw
  cases e:gs.getLast? with
  | none=>rfl
  | some g=>
   have:=h2 g e
   dsimp only
   split
   ·rfl
   ·refine kj ?_
    split <;> split <;> lia
 show (!decide (d < zQ r)&& !(decide (r.op="endtry")&&gs.getLast?.isNone)&& !qw r d gs.getLast?&&decide (gs.length≤1000))=true
 rw [e1,e2,kj h3,kl h4]
 rfl
structure Zu (op:Str) (a b:Int):Prop where
 lab:op≠"label"
 et:op≠"endtry"
 deep:inT op qy=false
 takes:tabI zD op=a
 pushes:tabI zH op=b
 on:inT op qi=false
 jump:inT op jumping=false
 gput:tabI zP op=0
theorem Zu.asked {op:Str} {a b:Int} (h:Zu op a b) (arg:V) (l:Int):zQ ⟨op,arg,l⟩=a:=by
 unfold zQ
 rw [h.deep,kD ke]
 exact h.takes
theorem Zu.chk {op:Str} {a b:Int} (h:Zu op a b) {Γ:Int→Option Sta} {d:Int} {gs:List Gd} (arg:V) (l:Int) (hd:a≤d) (hg:∀g,gs.getLast?=some g→g.2≤d - a) (hz:gs.length≤1000) (hE:GEnv Γ gs):
  chk Γ [⟨op,arg,l⟩] (some (d,gs))=some (some (d - a+b,gs)):=by
 rw [jz h.lab (j8 (by rw [h.asked];exact hd) (by rw [h.asked];exact hg) h.et hz)]
 ·unfold Qm
  rw [h.on,kD ke]
  unfold zB zR
  rw [h.takes,h.pushes,h.gput,kD (by decide),kD (by decide)]
 ·intro t ht
  unfold tgts at ht
  rw [h.jump,kD ke,List.nil_append] at ht
  by_cases hf:inT op faulting=true
  ·rw [kE hf] at ht
   cases e:gs.getLast? with
   | none=>
    rw [show ((d,gs):Sta).2.getLast?=none from e] at ht
    cases ht
   | some g=>
    rw [show ((d,gs):Sta).2.getLast?=some g from e] at ht
    rw [ku.mp ht]
    exact hE g e
  ·rw [kD hf] at ht;cases ht
theorem Ty.row {δ:Int} {k k':Nat} {l:List Row} (x:Ty δ true k k' l) {op:Str} {a b:Int} (h:Zu op a b) (hd:a≤δ) (arg:V) (ln:Int):Ty (δ - a+b) true k k' (l++[⟨op,arg,ln⟩]):=by
 refine ⟨fun d gs hg=>?_,fun Γ hΓ=>?_⟩
 ·have hl:=hg.len
  rw [ko,kJ] at hl
  obtain ⟨Γa,ca,hca,ha⟩:=x.go d gs ⟨hg.pos,by lia,hg.top⟩
  have hca:ca=some (d+δ,gs):=by
   rcases hca with h | ⟨h,_⟩
   ·exact h
   ·cases h
  subst hca
  refine ⟨Γa,some (d+(δ - a+b),gs),.inl rfl,fun Γ he hE=>?_⟩
  rw [zp,ha Γ he hE]
  show My.chk Γ [⟨op,arg,ln⟩] (some (d+δ,gs))=_
  rw [h.chk arg ln (by have:=hg.pos;lia) (fun g e=>by have:=hg.top g e;lia) (by lia) hE]
  congr 3
  lia
 ·rw [zp,x.off Γ hΓ]
  exact qa h.lab
theorem z6C:Zu "push" 0 1:=⟨by trivial,by trivial,by trivial,by trivial,by trivial,by trivial,by trivial,by trivial⟩
theorem z3f:Zu "load" 0 1:=⟨by trivial,by trivial,by trivial,by trivial,by trivial,by trivial,by trivial,by trivial⟩
theorem z5Y:∀op∈(["add","sub","mul","div","rest","less","same"]:List Str),Zu op 2 1:=by
 intro op h
 simp only [kH,ky,or_false] at h
 rcases h with rfl | rfl | rfl | rfl | rfl | rfl | rfl
 all_goals exact ⟨by trivial,by trivial,by trivial,by trivial,by trivial,by trivial,by trivial,by trivial⟩
theorem z8j:∀op∈(["neg","not"]:List Str),Zu op 1 1:=by
 intro op h
 simp only [kH,ky,or_false] at h
 rcases h with rfl | rfl
 all_goals exact ⟨by trivial,by trivial,by trivial,by trivial,by trivial,by trivial,by trivial,by trivial⟩
theorem Zj:∀op∈(["drop","tell","store"]:List Str),Zu op 1 0:=by
 intro op h
 simp only [kH,ky,or_false] at h
 rcases h with rfl | rfl | rfl
 all_goals exact ⟨by trivial,by trivial,by trivial,by trivial,by trivial,by trivial,by trivial,by trivial⟩
theorem z4D:Zu "clear" 0 0:=⟨by trivial,by trivial,by trivial,by trivial,by trivial,by trivial,by trivial,by trivial⟩
structure Op (op:Str) (a b g:Int) (on jump leave fault:Bool):Prop where
 deep:inT op qy=false
 takes:tabI zD op=a
 pushes:tabI zH op=b
 gput:tabI zP op=g
 on:inT op qi= !on
 jump:inT op jumping=jump
 leave:inT op leaving=leave
 fault:inT op faulting=fault
theorem Op.asked {op:Str} {a b g:Int} {on j lv f:Bool} (h:Op op a b g on j lv f) (arg:V) (l:Int):zQ ⟨op,arg,l⟩=a:=by
 unfold zQ
 rw [h.deep,kD ke]
 exact h.takes
theorem Op.next {op:Str} {a b g:Int} {on j lv f:Bool} (h:Op op a b g on j lv f) (arg:V) (l:Int) (s:Sta):Qm ⟨op,arg,l⟩ s=if on=true then some (s.1 - a+b,zR ⟨op,arg,l⟩ s.1 s.2 g) else none:=by
 unfold Qm zB
 rw [h.on,h.takes,h.pushes,h.gput]
 cases on <;> rfl
theorem Op.tg {op:Str} {a b g:Int} {on j lv f:Bool} (h:Op op a b g on j lv f) {Γ:Int→Option Sta} {m:Int} {l:Int} {d:Int} {gs:List Gd} (hj:j=true→Γ m=some ((if lv=true then d else d - a+b),gs)) (hf:f=true→GEnv Γ gs):∀t∈tgts ⟨op,.int m,l⟩ (d,gs),Γ t.1=some t.2:=by
 intro t ht
 unfold tgts zB at ht
 rw [h.jump,h.leave,h.fault,h.takes,h.pushes] at ht
 rcases kX.mp ht with ht | ht
 ·cases j with
  | false=>cases ht
  | true=>
   rw [kE rfl] at ht
   rw [ku.mp ht]
   exact hj rfl
 ·cases f with
  | false=>cases ht
  | true=>
   rw [kE rfl] at ht
   cases e:gs.getLast? with
   | none=>rw [show ((d,gs):Sta).2.getLast?=none from e] at ht;cases ht
   | some g=>
    rw [show ((d,gs):Sta).2.getLast?=some g from e] at ht
    rw [ku.mp ht]
    exact hf rfl g e
theorem z8r:∀op∈(["ortrue","orfalse"]:List Str),Op op 1 0 0 true true true false∧op≠"label"∧op≠"endtry":=by
 intro op h
 simp only [kH,ky,or_false] at h
 rcases h with rfl | rfl
 all_goals exact ⟨⟨by trivial,by trivial,by trivial,by trivial,by trivial,by trivial,by trivial,by trivial⟩,by trivial,by trivial⟩
theorem z8u:∀op∈(["iftrue","iffalse"]:List Str),Op op 1 0 0 true true false false∧op≠"label"∧op≠"endtry":=by
 intro op h
 simp only [kH,ky,or_false] at h
 rcases h with rfl | rfl
 all_goals exact ⟨⟨by trivial,by trivial,by trivial,by trivial,by trivial,by trivial,by trivial,by trivial⟩,by trivial,by trivial⟩
theorem JC:Op "jump" 0 0 0 false true false false:=⟨by trivial,by trivial,by trivial,by trivial,by trivial,by trivial,by trivial,by trivial⟩
theorem z1H:Op "try" 0 0 1 true false false false:=⟨by trivial,by trivial,by trivial,by trivial,by trivial,by trivial,by trivial,by trivial⟩
theorem jQ:Op "endtry" 0 0 (-1) true false false false:=⟨by trivial,by trivial,by trivial,by trivial,by trivial,by trivial,by trivial,by trivial⟩
theorem ZE:Op "raise" 1 0 0 false false false true:=⟨by trivial,by trivial,by trivial,by trivial,by trivial,by trivial,by trivial,by trivial⟩
theorem jP:Op "return" 1 0 0 false false false false:=⟨by trivial,by trivial,by trivial,by trivial,by trivial,by trivial,by trivial,by trivial⟩
theorem z1I:Op "label" 0 0 0 true false false false:=⟨by trivial,by trivial,by trivial,by trivial,by trivial,by trivial,by trivial,by trivial⟩
theorem gs0 (r:Row) (d:Int) (gs:List Gd):zR r d gs 0=gs:=by unfold zR;rw [kD (by decide),kD (by decide)]
section
variable {Γ:Int→Option Sta} {d m l:Int} {gs:List Gd}
theorem z96 {op:Str} (h:op∈(["ortrue","orfalse"]:List Str)) (h0:0≤d) (ht:∀g,gs.getLast?=some g→g.2≤d) (hz:gs.length≤1000) (hΓ:Γ m=some (d+1,gs)):chk Γ [⟨op,.int m,l⟩] (some (d+1,gs))=some (some (d,gs)):=by
 obtain ⟨o,h1,h2⟩:=z8r op h
 rw [jz h1 (j8 (by rw [o.asked];lia) (fun g e=>by rw [o.asked];have:=ht g e;lia) h2 hz) (o.tg (fun _=>hΓ) nofun),o.next,kE rfl,gs0]
 congr 3
 show d+1 - 1+0=d
 lia
theorem z67 {op:Str} (h:op∈(["iftrue","iffalse"]:List Str)) (h0:0≤d) (ht:∀g,gs.getLast?=some g→g.2≤d) (hz:gs.length≤1000) (hΓ:Γ m=some (d,gs)):chk Γ [⟨op,.int m,l⟩] (some (d+1,gs))=some (some (d,gs)):=by
 obtain ⟨o,h1,h2⟩:=z8u op h
 have e:d+1 - 1+0=d:=by lia
 rw [jz h1 (j8 (by rw [o.asked];lia) (fun g e=>by rw [o.asked];have:=ht g e;lia) h2 hz) (o.tg (fun _=>by rw [kD ke,e];exact hΓ) nofun),o.next,kE rfl,gs0]
 congr 3
theorem QB (h0:0≤d) (ht:∀g,gs.getLast?=some g→g.2≤d) (hz:gs.length≤1000) (hΓ:Γ m=some (d,gs)):chk Γ [⟨"jump",.int m,l⟩] (some (d,gs))=some none:=by
 have e:d - 0+0=d:=by lia
 rw [jz (show ("jump":Str)≠"label" by trivial) (j8 (by rw [JC.asked];lia) (fun g e=>by rw [JC.asked];have:=ht g e;lia) (show ("jump":Str)≠"endtry" by trivial) hz) (JC.tg (fun _=>by rw [kD ke,e];exact hΓ) nofun),JC.next]
 rfl
theorem z49 (h0:0≤d) (ht:∀g,gs.getLast?=some g→g.2≤d) (hz:gs.length≤1000):chk Γ [⟨"try",.int m,l⟩] (some (d,gs))=some (some (d,gs++[(m,d)])):=by
 rw [jz (show ("try":Str)≠"label" by trivial) (j8 (by rw [z1H.asked];lia) (fun g e=>by rw [z1H.asked];have:=ht g e;lia) (show ("try":Str)≠"endtry" by trivial) hz) (z1H.tg nofun nofun),z1H.next,kE rfl]
 unfold zR
 rw [kE rfl]
 congr 3
 show d - 0+0=d
 lia
theorem Jm {g:Gd} (h0:0≤d) (ht:g.2≤d) (hz:gs.length+1≤1000):chk Γ [⟨"endtry",.non,l⟩] (some (d,gs++[g]))=some (some (d,gs)):=by
 have hl:(gs++[g]).getLast?=some g:=by rw [List.getLast?_append];rfl
 have ho:jf ⟨"endtry",.non,l⟩ (d,gs++[g])=true:=by
  unfold jf Zn
  have e1:decide (d < zQ ⟨"endtry",.non,l⟩)=false:=kj (by rw [jQ.asked];lia)
  have e2:qw ⟨"endtry",.non,l⟩ d (some g)=false:=by
   unfold qw
   dsimp only
   rw [jQ.asked]
   split
   ·rfl
   ·refine kj ?_
    split <;> split <;> lia
  show (!decide (d < zQ ⟨"endtry",.non,l⟩)&& !(decide (("endtry":Str)="endtry")&&(gs++[g]).getLast?.isNone)&& !qw ⟨"endtry",.non,l⟩ d (gs++[g]).getLast?&&decide ((gs++[g]).length≤1000))=true
  rw [hl,e1,e2,kl (show (gs++[g]).length≤1000 by rw [ko];exact hz)]
  rfl
 rw [jz (show ("endtry":Str)≠"label" by trivial) ho ?_,jQ.next,kE rfl]
 ·unfold zR
  rw [kD (by decide),kE rfl,kL]
  congr 3
  show d - 0+0=d
  lia
 ·intro t ht
  unfold tgts at ht
  rw [jQ.jump,jQ.fault] at ht
  cases ht
theorem z0E (h0:0≤d) (ht:∀g,gs.getLast?=some g→g.2≤d) (hz:gs.length≤1000) (hE:GEnv Γ gs):chk Γ [⟨"raise",.non,l⟩] (some (d+1,gs))=some none:=by
 rw [jz (show ("raise":Str)≠"label" by trivial) (j8 (by rw [ZE.asked];lia) (fun g e=>by rw [ZE.asked];have:=ht g e;lia) (show ("raise":Str)≠"endtry" by trivial) hz) ?_,ZE.next]
 ·rfl
 ·intro t ht
  unfold tgts at ht
  rw [ZE.jump,ZE.fault,kD ke,kE rfl,List.nil_append] at ht
  cases e:gs.getLast? with
  | none=>rw [show ((d+1,gs):Sta).2.getLast?=none from e] at ht;cases ht
  | some g=>
   rw [show ((d+1,gs):Sta).2.getLast?=some g from e] at ht
   rw [ku.mp ht]
   exact hE g e
theorem z2C (h0:0≤d) (ht:∀g,gs.getLast?=some g→g.2≤d) (hz:gs.length≤1000):chk Γ [⟨"return",.non,l⟩] (some (d+1,gs))=some none:=by
 rw [jz (show ("return":Str)≠"label" by trivial) (j8 (by rw [jP.asked];lia) (fun g e=>by rw [jP.asked];have:=ht g e;lia) (show ("return":Str)≠"endtry" by trivial) hz) ?_,jP.next]
 ·rfl
 ·intro t ht
  unfold tgts at ht
  rw [jP.jump,jP.fault] at ht
  cases ht
theorem qH {c:Option Sta} (h0:0≤d) (ht:∀g,gs.getLast?=some g→g.2≤d) (hz:gs.length≤1000) (hΓ:Γ m=some (d,gs)) (hc:c=none∨c=some (d,gs)):chk Γ [⟨"label",.int m,l⟩] c=some (some (d,gs)):=by
 have ho:jf ⟨"label",.int m,l⟩ (d,gs)=true:=j8 (by rw [z1I.asked];lia) (fun g e=>by rw [z1I.asked];have:=ht g e;lia) (show ("label":Str)≠"endtry" by trivial) hz
 rw [Z6,kE rfl,show Γ (argM (.int m))=some (d,gs) from hΓ]
 rcases hc with rfl | rfl
 ·dsimp only
  rw [kE ho]
  rfl
 ·dsimp only
  rw [kE ⟨rfl,ho⟩]
  rfl
theorem qg (hΓ:Γ m=none):chk Γ [⟨"label",.int m,l⟩] none=some none:=by
 rw [Z6,kE rfl,show Γ (argM (.int m))=none from hΓ]
 rfl
end
theorem Ty.sure {δ:Int} {k k':Nat} {l:List Row} (x:Ty δ true k k' l) {d:Int} {gs:List Gd} (hg:GOk d gs l.length):∃Γl:Int→Option Sta,∀Γ,Ext Γ Γl k k'→GEnv Γ gs→chk Γ l (some (d,gs))=some (some (d+δ,gs)):=by
 obtain ⟨Γl,c',h,q⟩:=x.go d gs hg
 rcases h with h | ⟨h,_⟩
 ·rw [h] at q;exact ⟨Γl,q⟩
 ·cases h
theorem Ty.orv {k k1 k2:Nat} {l1 l2:List Row} (x:Ty 1 true (k+1) k1 l1) (y:Ty 1 true k1 k2 l2) (h1:k+1≤k1) (h2:k1≤k2) {op:Str} (ho:op∈(["ortrue","orfalse"]:List Str)) (a b:Int):
  Ty 1 true k k2 (l1++[⟨op,.int (k:Int),a⟩]++l2++[⟨"label",.int (k:Int),b⟩]):=by
 refine ⟨fun d gs hg=>?_,fun Γ hΓ=>?_⟩
 ·have hl:=hg.len
  simp only [ko,kJ] at hl
  obtain ⟨Γ1,q1⟩:=x.sure (d:=d) (gs:=gs) ⟨hg.pos,by lia,hg.top⟩
  obtain ⟨Γ2,q2⟩:=y.sure (d:=d) (gs:=gs) ⟨hg.pos,by lia,hg.top⟩
  refine ⟨fun m=>if m=(k:Int) then some (d+1,gs) else if m < (k1:Int) then Γ1 m else Γ2 m,some (d+1,gs),.inl rfl,fun Γ he hE=>?_⟩
  have ek:Γ (k:Int)=some (d+1,gs):=(he k (kh _) (by lia)).trans (kE rfl)
  have e1:Ext Γ Γ1 (k+1) k1:=fun m m1 m2=>(he m (by lia) (by lia)).trans ((kD (by lia)).trans (kE (by lia)))
  have e2:Ext Γ Γ2 k1 k2:=fun m m1 m2=>(he m (by lia) (by lia)).trans ((kD (by lia)).trans (kD (by lia)))
  have t1:∀g,gs.getLast?=some g→g.2≤d+1:=fun g e=>by have:=hg.top g e;lia
  rw [zp,zp,zp,q1 Γ e1 hE,kf,z96 ho hg.pos hg.top (by lia) ek,kf,q2 Γ e2 hE,kf]
  exact qH (by have:=hg.pos;lia) t1 (by lia) ek (.inr rfl)
 ·have ek:Γ (k:Int)=none:=hΓ k (kh _) (by lia)
  rw [zp,zp,zp,x.off Γ fun m m1 m2=>hΓ m (by lia) (by lia),kf,qa (z8r op ho).2.1,kf,y.off Γ fun m m1 m2=>hΓ m (by lia) m2,kf]
  exact qg ek
theorem Ty.triedv {k k':Nat} {l:List Row} (x:Ty 1 true (k+2) k' l) (h1:k+2≤k') (a b c e f:Int):
  Ty 1 true k k' ([⟨"try",.int (k:Int),a⟩]++l++[⟨"endtry",.non,b⟩]++[⟨"jump",.int ((k+1:Nat):Int),c⟩]++[⟨"label",.int (k:Int),e⟩]++[⟨"label",.int ((k+1:Nat):Int),f⟩]):=by
 refine ⟨fun d gs hg=>?_,fun Γ hΓ=>?_⟩
 ·have hl:=hg.len
  simp only [ko,kJ] at hl
  have hlast:(gs++[((k:Int),d)]).getLast?=some ((k:Int),d):=by rw [List.getLast?_append];rfl
  obtain ⟨Γ1,q1⟩:=x.sure (d:=d) (gs:=gs++[((k:Int),d)]) ⟨hg.pos,by rw [ko,kJ];lia,fun g z=>by rw [hlast] at z;cases z;exact Int.le_refl _⟩
  refine ⟨fun m=>if m=(k:Int) then some (d+1,gs) else if m=((k+1:Nat):Int) then some (d+1,gs) else Γ1 m,some (d+1,gs),.inl rfl,fun Γ he hE=>?_⟩
  have ek:Γ (k:Int)=some (d+1,gs):=(he k (kh _) (by lia)).trans (kE rfl)
  have ek1:Γ ((k+1:Nat):Int)=some (d+1,gs):=(he (k+1) (by lia) (by lia)).trans ((kD (by lia)).trans (kE rfl))
  have e1:Ext Γ Γ1 (k+2) k':=fun m m1 m2=>(he m (by lia) m2).trans ((kD (by lia)).trans (kD (by lia)))
  have hE1:GEnv Γ (gs++[((k:Int),d)]):=fun g z=>by
   rw [hlast] at z
   cases z
   rw [kL]
   exact ek
  have t1:∀g,gs.getLast?=some g→g.2≤d+1:=fun g z=>by have:=hg.top g z;lia
  have p1:0≤d+1:=by have:=hg.pos;lia
  rw [zp,zp,zp,zp,zp,z49 hg.pos hg.top (by lia),kf,q1 Γ e1 hE1,kf,Jm p1 (by show d≤d+1;lia) (by lia),kf,QB p1 t1 (by lia) ek1,kf,qH p1 t1 (by lia) ek (.inl rfl),kf]
  exact qH p1 t1 (by lia) ek1 (.inr rfl)
 ·have ek:Γ (k:Int)=none:=hΓ k (kh _) (by lia)
  have ek1:Γ ((k+1:Nat):Int)=none:=hΓ (k+1) (by lia) (by lia)
  rw [zp,zp,zp,zp,zp,qa (show ("try":Str)≠"label" by trivial),kf,x.off Γ fun m m1 m2=>hΓ m (by lia) m2,kf,qa (show ("endtry":Str)≠"label" by trivial),kf,qa (show ("jump":Str)≠"label" by trivial),kf,qg ek,kf]
  exact qg ek1
theorem Ty.round {k k1 k2:Nat} {l1 l2:List Row} {su:Bool} (x:Ty 1 true (k+2) k1 l1) (y:Ty 0 su k1 k2 l2) (h1:k+2≤k1) (h2:k1≤k2) (a b c e:Int):
  Ty 0 true k k2 ([⟨"label",.int (k:Int),a⟩]++l1++[⟨"iffalse",.int ((k+1:Nat):Int),b⟩]++l2++[⟨"jump",.int (k:Int),c⟩]++[⟨"label",.int ((k+1:Nat):Int),e⟩]):=by
 refine ⟨fun d gs hg=>?_,fun Γ hΓ=>?_⟩
 ·have hl:=hg.len
  simp only [ko,kJ] at hl
  obtain ⟨Γ1,q1⟩:=x.sure (d:=d) (gs:=gs) ⟨hg.pos,by lia,hg.top⟩
  obtain ⟨Γ2,c2,hc2,q2⟩:=y.go d gs ⟨hg.pos,by lia,hg.top⟩
  refine ⟨fun m=>if m=(k:Int) then some (d,gs) else if m=((k+1:Nat):Int) then some (d,gs) else if m < (k1:Int) then Γ1 m else Γ2 m,some (d+0,gs),.inl rfl,fun Γ he hE=>?_⟩
  have ek:Γ (k:Int)=some (d,gs):=(he k (kh _) (by lia)).trans (kE rfl)
  have ek1:Γ ((k+1:Nat):Int)=some (d,gs):=(he (k+1) (by lia) (by lia)).trans ((kD (by lia)).trans (kE rfl))
  have e1:Ext Γ Γ1 (k+2) k1:=fun m m1 m2=>(he m (by lia) (by lia)).trans ((kD (by lia)).trans ((kD (by lia)).trans (kE (by lia))))
  have e2:Ext Γ Γ2 k1 k2:=fun m m1 m2=>(he m (by lia) m2).trans ((kD (by lia)).trans ((kD (by lia)).trans (kD (by lia))))
  rw [zp,zp,zp,zp,zp,qH hg.pos hg.top (by lia) ek (.inr rfl),kf,q1 Γ e1 hE,kf,z67 (by trivial) hg.pos hg.top (by lia) ek1,kf,q2 Γ e2 hE,kf,Int.add_zero]
  rcases hc2 with rfl | ⟨_,rfl⟩
  ·rw [Int.add_zero,QB hg.pos hg.top (by lia) ek,kf]
   exact qH hg.pos hg.top (by lia) ek1 (.inl rfl)
  ·rw [qa (show ("jump":Str)≠"label" by trivial),kf]
   exact qH hg.pos hg.top (by lia) ek1 (.inl rfl)
 ·have ek:Γ (k:Int)=none:=hΓ k (kh _) (by lia)
  have ek1:Γ ((k+1:Nat):Int)=none:=hΓ (k+1) (by lia) (by lia)
  rw [zp,zp,zp,zp,zp,qg ek,kf,x.off Γ fun m m1 m2=>hΓ m (by lia) (by lia),kf,qa (show ("iffalse":Str)≠"label" by trivial),kf,y.off Γ fun m m1 m2=>hΓ m (by lia) m2,kf,qa (show ("jump":Str)≠"label" by trivial),kf]
  exact qg ek1
theorem Ty.choice {k k1 k2 k3:Nat} {l1 l2 l3:List Row} {s2 s3:Bool} (x:Ty 1 true (k+2) k1 l1) (y:Ty 0 s2 k1 k2 l2) (z:Ty 0 s3 k2 k3 l3) (h1:k+2≤k1) (h2:k1≤k2) (h3:k2≤k3) {op:Str} (ho:op∈(["iftrue","iffalse"]:List Str)) (a b c e:Int):
  Ty 0 true k k3 (l1++[⟨op,.int (k:Int),a⟩]++l2++[⟨"jump",.int ((k+1:Nat):Int),b⟩]++[⟨"label",.int (k:Int),c⟩]++l3++[⟨"label",.int ((k+1:Nat):Int),e⟩]):=by
 refine ⟨fun d gs hg=>?_,fun Γ hΓ=>?_⟩
 ·have hl:=hg.len
  simp only [ko,kJ] at hl
  obtain ⟨Γ1,q1⟩:=x.sure (d:=d) (gs:=gs) ⟨hg.pos,by lia,hg.top⟩
  obtain ⟨Γ2,c2,hc2,q2⟩:=y.go d gs ⟨hg.pos,by lia,hg.top⟩
  obtain ⟨Γ3,c3,hc3,q3⟩:=z.go d gs ⟨hg.pos,by lia,hg.top⟩
  refine ⟨fun m=>if m=(k:Int) then some (d,gs) else if m=((k+1:Nat):Int) then some (d,gs) else if m < (k1:Int) then Γ1 m else if m < (k2:Int) then Γ2 m else Γ3 m,some (d+0,gs),.inl rfl,fun Γ he hE=>?_⟩
  have ek:Γ (k:Int)=some (d,gs):=(he k (kh _) (by lia)).trans (kE rfl)
  have ek1:Γ ((k+1:Nat):Int)=some (d,gs):=(he (k+1) (by lia) (by lia)).trans ((kD (by lia)).trans (kE rfl))
  have e1:Ext Γ Γ1 (k+2) k1:=fun m m1 m2=>(he m (by lia) (by lia)).trans ((kD (by lia)).trans ((kD (by lia)).trans (kE (by lia))))
  have e2:Ext Γ Γ2 k1 k2:=fun m m1 m2=>(he m (by lia) (by lia)).trans ((kD (by lia)).trans ((kD (by lia)).trans ((kD (by lia)).trans (kE (by lia)))))
  have e3:Ext Γ Γ3 k2 k3:=fun m m1 m2=>(he m (by lia) (by lia)).trans ((kD (by lia)).trans ((kD (by lia)).trans ((kD (by lia)).trans (kD (by lia)))))
  have j:chk Γ [⟨"jump",.int ((k+1:Nat):Int),b⟩] c2=some none:=by
   rcases hc2 with rfl | ⟨_,rfl⟩
   ·rw [Int.add_zero]
    exact QB hg.pos hg.top (by lia) ek1
   ·exact qa (show ("jump":Str)≠"label" by trivial)
  rw [zp,zp,zp,zp,zp,zp,q1 Γ e1 hE,kf,z67 ho hg.pos hg.top (by lia) ek,kf,q2 Γ e2 hE,kf,j,kf,qH hg.pos hg.top (by lia) ek (.inl rfl),kf,q3 Γ e3 hE,kf,Int.add_zero]
  refine qH hg.pos hg.top (by lia) ek1 ?_
  rcases hc3 with rfl | ⟨_,rfl⟩
  ·exact .inr (by rw [Int.add_zero])
  ·exact .inl rfl
 ·have ek:Γ (k:Int)=none:=hΓ k (kh _) (by lia)
  have ek1:Γ ((k+1:Nat):Int)=none:=hΓ (k+1) (by lia) (by lia)
  rw [zp,zp,zp,zp,zp,zp,x.off Γ fun m m1 m2=>hΓ m (by lia) (by lia),kf,qa (z8u op ho).2.1,kf,y.off Γ fun m m1 m2=>hΓ m (by lia) (by lia),kf,qa (show ("jump":Str)≠"label" by trivial),kf,qg ek,kf,z.off Γ fun m m1 m2=>hΓ m (by lia) m2,kf]
  exact qg ek1
theorem Ty.rais {k k':Nat} {l:List Row} (x:Ty 1 true k k' l) (a:Int):Ty 0 false k k' (l++[⟨"raise",.non,a⟩]):=by
 refine ⟨fun d gs hg=>?_,fun Γ hΓ=>?_⟩
 ·have hl:=hg.len
  simp only [ko,kJ] at hl
  obtain ⟨Γ1,q1⟩:=x.sure (d:=d) (gs:=gs) ⟨hg.pos,by lia,hg.top⟩
  refine ⟨Γ1,none,.inr ⟨rfl,rfl⟩,fun Γ he hE=>?_⟩
  rw [zp,q1 Γ he hE,kf]
  exact z0E hg.pos hg.top (by lia) hE
 ·rw [zp,x.off Γ hΓ,kf]
  exact qa (show ("raise":Str)≠"label" by trivial)
theorem Ty.weak {δ:Int} {su:Bool} {k k':Nat} {l:List Row} (x:Ty δ su k k' l):Ty δ false k k' l:=by
 refine ⟨fun d gs hg=>?_,x.off⟩
 obtain ⟨Γl,c',h,q⟩:=x.go d gs hg
 refine ⟨Γl,c',?_,q⟩
 rcases h with h | ⟨_,h⟩
 ·exact .inl h
 ·exact .inr ⟨rfl,h⟩
theorem z51 {Γ:Int→Option Sta} {op:Str} (h:op∈(["drop","tell","raise"]:List Str)) (ln:Int) {d:Int} {gs:List Gd} (h0:0≤d) (ht:∀g,gs.getLast?=some g→g.2≤d) (hz:gs.length≤1000) (hE:GEnv Γ gs):chk Γ [⟨op,.non,ln⟩] (some (d+1,gs))=some (if op="raise" then none else some (d,gs)):=by
 simp only [kH,ky,or_false] at h
 have e:d+1 - 1+0=d:=by lia
 rcases h with rfl | rfl | rfl
 ·rw [(Zj "drop" (by trivial)).chk .non ln (by lia) (fun g z=>by have:=ht g z;lia) hz hE,e,kD (by trivial)]
 ·rw [(Zj "tell" (by trivial)).chk .non ln (by lia) (fun g z=>by have:=ht g z;lia) hz hE,e,kD (by trivial)]
 ·rw [z0E h0 ht hz hE,kE rfl]
theorem Ty.tried {k k1 k2:Nat} {l1 l2:List Row} {s1 s2:Bool} (x:Ty 0 s1 (k+2) k1 l1) (y:Ty 0 s2 k1 k2 l2) (h1:k+2≤k1) (h2:k1≤k2) {op:Str} (ho:op∈(["drop","tell","raise"]:List Str)) (a b c e f g':Int):
  Ty 0 true k k2 ([⟨"try",.int (k:Int),a⟩]++l1++[⟨"endtry",.non,b⟩]++[⟨"jump",.int ((k+1:Nat):Int),c⟩]++[⟨"label",.int (k:Int),e⟩]++[⟨op,.non,f⟩]++l2++[⟨"label",.int ((k+1:Nat):Int),g'⟩]):=by
 have hopl:op≠"label":=by
  simp only [kH,ky,or_false] at ho
  rcases ho with rfl | rfl | rfl <;> decide+kernel
 refine ⟨fun d gs hg=>?_,fun Γ hΓ=>?_⟩
 ·have hl:=hg.len
  simp only [ko,kJ] at hl
  have hlast:(gs++[((k:Int),d)]).getLast?=some ((k:Int),d):=by rw [List.getLast?_append];rfl
  obtain ⟨Γ1,c1,hc1,q1⟩:=x.go d (gs++[((k:Int),d)]) ⟨hg.pos,by rw [ko,kJ];lia,fun g z=>by rw [hlast] at z;cases z;exact Int.le_refl _⟩
  obtain ⟨Γ2,c2,hc2,q2⟩:=y.go d gs ⟨hg.pos,by lia,hg.top⟩
  refine ⟨fun m=>if m=(k:Int) then some (d+1,gs) else if m=((k+1:Nat):Int) then some (d,gs) else if m < (k1:Int) then Γ1 m else if op="raise" then none else Γ2 m,some (d+0,gs),.inl rfl,fun Γ he hE=>?_⟩
  have ek:Γ (k:Int)=some (d+1,gs):=(he k (kh _) (by lia)).trans (kE rfl)
  have ek1:Γ ((k+1:Nat):Int)=some (d,gs):=(he (k+1) (by lia) (by lia)).trans ((kD (by lia)).trans (kE rfl))
  have e1:Ext Γ Γ1 (k+2) k1:=fun m m1 m2=>(he m (by lia) (by lia)).trans ((kD (by lia)).trans ((kD (by lia)).trans (kE (by lia))))
  have e2:∀m:Nat,k1≤m→m < k2→Γ (m:Int)=if op="raise" then none else Γ2 (m:Int):=fun m m1 m2=>(he m (by lia) (by lia)).trans ((kD (by lia)).trans ((kD (by lia)).trans (kD (by lia))))
  have hE1:GEnv Γ (gs++[((k:Int),d)]):=fun g z=>by
   rw [hlast] at z
   cases z
   rw [kL]
   exact ek
  have t1:∀g,gs.getLast?=some g→g.2≤d+1:=fun g z=>by have:=hg.top g z;lia
  have p1:0≤d+1:=by have:=hg.pos;lia
  have j:(chk Γ [⟨"endtry",.non,b⟩] c1).bind (fun c'=>chk Γ [⟨"jump",.int ((k+1:Nat):Int),c⟩] c')=some none:=by
   rcases hc1 with rfl | ⟨_,rfl⟩
   ·rw [Int.add_zero,Jm hg.pos (Int.le_refl d) (by lia),kf]
    exact QB hg.pos hg.top (by lia) ek1
   ·rw [qa (show ("endtry":Str)≠"label" by trivial),kf]
    exact qa (show ("jump":Str)≠"label" by trivial)
  have z:(chk Γ [⟨op,.non,f⟩] (some (d+1,gs))).bind (fun c'=>chk Γ l2 c')=some (if op="raise" then none else c2):=by
   rw [z51 ho f hg.pos hg.top (by lia) hE,kf]
   by_cases hr:op="raise"
   ·rw [kE hr,kE hr]
    exact y.off Γ fun m m1 m2=>(e2 m m1 m2).trans (kE hr)
   ·rw [kD hr,kD hr]
    exact q2 Γ (fun m m1 m2=>(e2 m m1 m2).trans (kD hr)) hE
  have z2:(if op="raise" then none else c2)=none∨(if op="raise" then none else c2)=some (d,gs):=by
   by_cases hr:op="raise"
   ·rw [kE hr];exact .inl rfl
   ·rw [kD hr]
    rcases hc2 with rfl | ⟨_,rfl⟩
    ·exact .inr (by rw [Int.add_zero])
    ·exact .inl rfl
  rw [zp,zp,zp,zp,zp,zp,zp,z49 hg.pos hg.top (by lia),kf,q1 Γ e1 hE1,kf,j,kf,qH p1 t1 (by lia) ek (.inl rfl),kf,z,kf,Int.add_zero]
  exact qH hg.pos hg.top (by lia) ek1 z2
 ·have ek:Γ (k:Int)=none:=hΓ k (kh _) (by lia)
  have ek1:Γ ((k+1:Nat):Int)=none:=hΓ (k+1) (by lia) (by lia)
  rw [zp,zp,zp,zp,zp,zp,zp,qa (show ("try":Str)≠"label" by trivial),kf,x.off Γ fun m m1 m2=>hΓ m (by lia) (by lia),kf,qa (show ("endtry":Str)≠"label" by trivial),kf,qa (show ("jump":Str)≠"label" by trivial),kf,qg ek,kf,qa hopl,kf,y.off Γ fun m m1 m2=>hΓ m (by lia) m2,kf]
  exact qg ek1
structure Deep (op:Str) (b:Int):Prop where
 lab:op≠"label"
 et:op≠"endtry"
 deep:inT op qy=true
 takes:tabI zD op=0
 pushes:tabI zH op=b
 on:inT op qi=false
 jump:inT op jumping=false
 gput:tabI zP op=0
 fault:inT op faulting=false
theorem z7q:Deep "swap" 0:=⟨by trivial,by trivial,by trivial,by trivial,by trivial,by trivial,by trivial,by trivial,by trivial⟩
theorem z7r:Deep "copy" 1:=⟨by trivial,by trivial,by trivial,by trivial,by trivial,by trivial,by trivial,by trivial,by trivial⟩
theorem Ty.deep {δ:Int} {k k':Nat} {l:List Row} (x:Ty δ true k k' l) {op:Str} {b:Int} (h:Deep op b) {n:Int} (hn:n≤δ) (ln:Int):Ty (δ+b) true k k' (l++[⟨op,.int n,ln⟩]):=by
 have ha:zQ ⟨op,.int n,ln⟩=n:=by
  unfold zQ
  rw [h.deep,kE rfl]
 refine ⟨fun d gs hg=>?_,fun Γ hΓ=>?_⟩
 ·have hl:=hg.len
  simp only [ko,kJ] at hl
  obtain ⟨Γ1,q1⟩:=x.sure (d:=d) (gs:=gs) ⟨hg.pos,by lia,hg.top⟩
  refine ⟨Γ1,some (d+(δ+b),gs),.inl rfl,fun Γ he hE=>?_⟩
  rw [zp,q1 Γ he hE,kf,jz h.lab (j8 (by rw [ha];have:=hg.pos;lia) (fun g e=>by rw [ha];have:=hg.top g e;lia) h.et (by lia)) ?_]
  ·unfold Qm zB
   rw [h.on,kD ke,h.takes,h.pushes,h.gput,gs0]
   congr 3
   show d+δ - 0+b=d+(δ+b)
   lia
  ·intro t ht
   unfold tgts at ht
   rw [h.jump,h.fault] at ht
   cases ht
 ·rw [zp,x.off Γ hΓ,kf]
  exact qa h.lab
theorem Ty.whole {k k1 k2:Nat} {l1 l2:List Row} {su:Bool} (x:Ty 0 su k k1 l1) (y:Ty 1 true k1 k2 l2) (h1:k≤k1) (h2:k1≤k2) (a:Int) (hz:l1.length+l2.length≤998):
  ∃Γl:Int→Option Sta,∀Γ,Ext Γ Γl k k2→chk Γ (l1++l2++[⟨"return",.non,a⟩]) (some (0,[]))=some none:=by
 have xy:=x.app y h1 h2 (Int.le_refl 0)
 obtain ⟨Γl,c',hc,q⟩:=xy.go 0 [] ⟨Int.le_refl _,by simp only [ko,List.length_nil];lia,nofun⟩
 refine ⟨Γl,fun Γ he=>?_⟩
 rw [zp,q Γ he nofun,kf]
 rcases hc with rfl | ⟨_,rfl⟩
 ·rw [show (0:Int)+(0+1)=0+1 by decide]
  exact z2C (Int.le_refl 0) nofun (by decide)
 ·exact qa (show ("return":Str)≠"label" by trivial)
def Scr (K:kC) (H:Hp) (a:Addr) (xs:List V):Prop:=
 (∃o,H a=some (.frz o (.lst xs)))∨∃(o:Obj) (its:Array Value) (n:Nat),K.lookup a=some o∧o.cls=.type "list"∧o.dict=none∧o.data=.seq its n∧its.size≤sizeLine∧Vals xs its.toList
theorem Scr.sq {K:kC} {H:Hp} {a:Addr} {xs:List V} (h:Scr K H a xs):SqL K H a xs:=by
 rcases h with ⟨o,h⟩ | h
 ·exact .inl (.inr ⟨o,h⟩)
 ·exact .inr h
def za2 (H H':Hp) (t r m:Addr):Prop:=∀b o,H b=some o→b≠t→b≠r→b≠m→H' b=some o
theorem Scr.keep {K:kC} {H H':Hp} {a:Addr} {xs:List V} (h:Scr K H a xs) (k:∀o u,H a=some (.frz o u)→H' a=some (.frz o u)):Scr K H' a xs:=by
 rcases h with ⟨o,h⟩ | h
 ·exact .inl ⟨o,k _ _ h⟩
 ·exact .inr h
theorem Scr.keep1 {K:kC} {H H':Hp} {a t:Addr} {xs ys:List V} (h:Scr K H a xs) (k:jk H H' t) (ht:H t=some (.lst ys)):Scr K H' a xs:=h.keep fun o u e=>k _ _ e (zA e ht nofun)
noncomputable def qN (c:Nat) (cells:List Int):List V:=.int (c:Int) :: cells.map V.int
section
def z1y (K:kC):Sp:=fun vs H Q _=>∃(a t:Addr) (ns:List Int) (c:Nat) (cells:List Int) (many:Int),vs=[.ref a,.ref t,.int many]∧Scr K H a (ns.map V.int)∧ns.length≤1000∧cells.length=ns.length∧H t=some (.lst (qN c cells))∧c≤100000∧1≤many∧many≤1000∧
 ∀(i:Int) (cells':List Int) H',0≤i→i < many→cells'.length=ns.length→H' t=some (.lst (qN (c+1) cells'))→jk H H' t→Q (.int i) H'
theorem sc99:zi ["_law_script","_law_town_here","_law_many","_law_at","_law_left","_law_number"] ["_law_script","_law_town_here","_law_many"] (zc (top 99)):=fsM
theorem z56 {cells:List Int} {i:Int} (h0:0≤i) (h1:i < (cells.length:Int)) (c:Nat):∃z,atI (qN c cells) (1+i)=some (.int z):=by
 obtain ⟨j,rfl⟩:=yc h0
 have hj:j < cells.length:=by lia
 have e:(1:Int)+(j:Int)=((j+1:Nat):Int):=by lia
 refine ⟨cells[j],?_⟩
 rw [e]
 refine zt ?_
 unfold qN
 rw [List.getElem?_cons_succ,List.getElem?_map,kO hj]
 rfl
theorem z2u {ns:List Int} {i:Int} (h0:0≤i) (h1:i < (ns.length:Int)):∃z,atI (ns.map V.int) i=some (.int z):=by
 obtain ⟨j,rfl⟩:=yc h0
 have hj:j < ns.length:=by lia
 refine ⟨ns[j],zt ?_⟩
 rw [List.getElem?_map,kO hj]
 rfl
theorem z4w {c:Nat} {cells:List Int} {i:Int} (h0:0≤i) (h1:i < (cells.length:Int)) (z:Int):∃j cells',ixN (qN c cells).length (1+i)=some j∧(qN c cells).set j (.int z)=qN c cells'∧cells'.length=cells.length:=by
 obtain ⟨j,rfl⟩:=yc h0
 refine ⟨j+1,cells.set j z,?_,?_,by simp⟩
 ·unfold ixN qN
  rw [kE (by lia),kE (by simp;lia)]
  congr 1
  lia
 ·unfold qN
  rw [List.set_cons_succ,List.map_set]
theorem ix0 {c:Nat} {cells:List Int}:ixN (qN c cells).length 0=some 0:=by
 unfold ixN qN
 rw [kE (by decide),kE (by simp <;> lia)]
 rfl
theorem z7k (D:zn K mg "_law_draw" (top 99)) (G:Glo mg):FN P w K mg base 1 "_law_draw" ["_law_script","_law_town_here","_law_many"] (z1y K):=by
 refine FN.o D sc99 fun f cdv A outer s H vs Q E hr h=>?_
 obtain ⟨a,t,ns,c,cells,many,rfl,hS,hns,hcl,hT,hc,hm1,hm2,q⟩:=h
 have hu:A.units+3 < cLine:=by have:=hr.units0;exact this
 refine ⟨_,z8 (jb (zO je (qc zT (pv 1) zg (fun _ _=>rfl)) zg) (Jd (pv 1) zg Z2))
  (z8 (zJ (zm (z8v (hr.units0)) (pv 0) (qq z7) (zq _))
   (zd (zl (zO QL (zO QM (zO z0e (zO z0e (qc zT (pv 1) zg (fun _ _=>rfl)) (qc zT (pv 1) zg (fun _ _=>rfl))) zg) zg) (pv 2)))) zw)
  (z8 (zG (i:=3) sc99.nd rfl (Or.inl rfl) (zO QL (qc zT (pv 1) zg (fun _ _=>rfl)) (zy zL rfl G.len qv (z6 (pv 0) z7))))
  (z8 (zG (i:=4) sc99.nd rfl (Or.inl rfl) (qc zT (pv 1) (zO je zg (pv 3)) (fun _ _=>rfl)))
  (z8 (zJ (PW.pt (Qa (zm z9G (qc zT (pv 0) (pv 3) (fun _ _=>rfl)) (zO z3m zg zg) (zq _)) (jM (zm JD (pv 4) zg (zq _)))))
   (z8 (jb (zO QM (pv 4) (pv 2)) (Jd (pv 1) (zO je zg (pv 3)) Z2)) (zd (zl (zO QL (pv 4) (pv 2))))) zw)
  (z8 (zG (i:=5) sc99.nd rfl (Or.inl rfl) (zO QL (zO je (qc zT (pv 0) (pv 3) (fun _ _=>rfl)) (zO z0e zg (qc zT (pv 1) zg (fun _ _=>rfl)))) zg))
  (z8 (zG (i:=5) sc99.nd rfl (Or.inl rfl) (zO QL (zO z3m (pv 5) zg) zg))
  (zd (zl (zO QL (zO QM (zO QL (zO je (zO z0e (zO QM (pv 5) zg) zg) (pv 5)) zg) zg) (pv 2)))))))))),?_⟩
 try dsimp only [L2.cxOf,L2.Cx.nox]
 have hmod:∀x:Int,0≤x % many∧x % many < many:=fun x=>⟨Int.emod_nonneg _ (by lia),Int.emod_lt_of_pos _ (by lia)⟩
 have cdm:CDiv 0 many:=⟨by lia,by lia⟩
 refine ⟨_,rfl,t,_,_,_,rfl,rfl,SqL.of hT,zt (j:=0) rfl,_,_,rfl,rfl,?_⟩
 refine ⟨_,rfl,t,_,_,0,rfl,rfl,hT,ix0,?_⟩
 have e1:(qN c cells).set 0 (V.int ((c:Int)+1))=qN (c+1) cells:=by
  unfold qN
  rw [List.set_cons_zero]
  rfl
 rw [e1]
 generalize hH1:upd H t (.lst (qN (c+1) cells))=H1
 have hT1:H1 t=some (.lst (qN (c+1) cells)):=by rw [←hH1];exact zb
 have k1:jk H H1 t:=fun b o e hb=>by rw [←hH1,zf hb];exact e
 have hS1:=hS.keep1 k1 hT
 refine ⟨_,rfl,by show 0≤sizeLine;decide,fun p hp=>?_⟩
 have s2:Same H1 (upd H1 p (.lst [])):=zh hp _
 have hT2:=s2 _ _ hT1
 have hS2:Scr K (upd H1 p (.lst [])) a (ns.map V.int):=hS1.keep fun o u e=>s2 _ _ e
 have k2:jk H (upd H1 p (.lst [])) t:=fun b o e hb=>s2 _ _ (k1 b o e hb)
 generalize hH2:upd H1 p (.lst [])=H2 at *
 have hp2:H2 p=some (.lst []):=by rw [←hH2];exact zb
 refine ⟨a,p,_,rfl,rfl,hS2.sq,SqL.of hp2,_,rfl,?_⟩
 refine ite2 (fun ce=>?_) (fun ce=>?_)
 ·refine ⟨_,rfl,t,_,_,_,rfl,rfl,SqL.of hT2,zt (j:=0) rfl,_,rfl,t,_,_,_,rfl,rfl,SqL.of hT2,zt (j:=0) rfl,_,_,rfl,rfl,.inl ⟨by lia,by lia⟩,_,_,rfl,rfl,.inr ⟨by decide,by decide⟩,_,_,rfl,rfl,⟨by decide,by decide⟩,_,rfl,_,_,rfl,rfl,by lia,?_⟩
  exact q _ cells H2 (hmod _).1 (hmod _).2 hcl hT2 k2
 ·have hne:ns≠[]:=fun z=>ce (by rw [z];rfl)
  have hpos:0 < ns.length:=List.length_pos_iff.mpr hne
  refine ⟨_,rfl,t,_,_,_,rfl,rfl,SqL.of hT2,zt (j:=0) rfl,_,rfl,a,_,rfl,.inl hS2.sq,_,_,rfl,rfl,by rw [km];lia,?_⟩
  rw [km]
  have a0:0≤((c+1:Nat):Int) % (ns.length:Int):=Int.emod_nonneg _ (by lia)
  have a1:((c+1:Nat):Int) % (ns.length:Int) < (ns.length:Int):=Int.emod_lt_of_pos _ (by lia)
  obtain ⟨z,hz⟩:=z56 (cells:=cells) a0 (by rw [hcl];exact a1) (c+1)
  obtain ⟨y,hy⟩:=z2u (ns:=ns) a0 a1
  refine ⟨_,rfl,_,rfl,_,_,rfl,rfl,t,_,_,_,rfl,rfl,SqL.of hT2,hz,?_⟩
  refine ⟨_,rfl,_,rfl,a,_,_,_,rfl,rfl,hS2.sq,hy,_,_,rfl,rfl,⟨by decide,by decide,by decide⟩,_,_,rfl,rfl,_,rfl,?_⟩
  have rest:tSeq (tAsg (tOp (rI (fun _ j=>0 < j) fun i j=>.int (i % j)) (tOp (rI0 fun i j=>.int (i+j)) (tOp (rIxL K) (tVar 0) (tVar 3)) (tOp (rI CMul fun i j=>.int (i * j)) (tC (.int 104729)) (tOp (rIxL K) (tVar 1) (tC (.int 0))))) (tC (.int 4294967291))) (z3F 5))
    (tSeq (tAsg (tOp (rI (fun _ j=>0 < j) fun i j=>.int (i % j)) (tOp (rI CPow fun i j=>.int (i ^ j.toNat)) (tVar 5) (tC (.int 5))) (tC (.int 4294967279))) (z3F 5))
    (tRet (tOp (rI (fun _ j=>0 < j) fun i j=>.int (i % j)) (tOp (rI CDiv fun i j=>.int (i / j)) (tOp (rI (fun _ j=>0 < j) fun i j=>.int (i % j)) (tOp (rI0 fun i j=>.int (i+j)) (tOp (rI CMul fun i j=>.int (i * j)) (tOp (rI CDiv fun i j=>.int (i / j)) (tVar 5) (tC (.int 64))) (tC (.int 69621))) (tVar 5)) (tC (.int 4294967231))) (tC (.int 8))) (tVar 2))))
    { nx:=fun _ H'=>Q .non H',rt:=Q } [some (.ref a),some (.ref t),some (.int many),some (.int (((c+1:Nat):Int) % (ns.length:Int))),some (.int z),none] H2:=by
   refine ⟨_,rfl,_,rfl,a,_,_,_,rfl,rfl,hS2.sq,hy,_,rfl,t,_,_,_,rfl,rfl,SqL.of hT2,zt (j:=0) rfl,_,_,rfl,rfl,.inl ⟨by decide,by decide⟩,_,_,rfl,rfl,_,_,rfl,rfl,(by show (0:Int) < 4294967291;decide),?_⟩
   have b0:0≤(y+104729 * ((c+1:Nat):Int)) % 4294967291:=Int.emod_nonneg _ (by decide)
   have b1:(y+104729 * ((c+1:Nat):Int)) % 4294967291 < 4294967291:=Int.emod_lt_of_pos _ (by decide)
   refine ⟨_,rfl,_,_,rfl,rfl,⟨by decide,by decide,?_⟩,_,_,rfl,rfl,(by show (0:Int) < 4294967279;decide),?_⟩
   ·show ((y+104729 * ((c+1:Nat):Int)) % 4294967291).natAbs < 2 ^ 64
    lia
   refine ⟨_,rfl,_,_,rfl,rfl,⟨by decide,by decide⟩,_,_,rfl,rfl,.inr ⟨by decide,by decide⟩,_,rfl,_,_,rfl,rfl,_,_,rfl,rfl,(by show (0:Int) < 4294967231;decide),_,_,rfl,rfl,⟨by decide,by decide⟩,_,rfl,_,_,rfl,rfl,by lia,?_⟩
   exact q _ cells H2 (hmod _).1 (hmod _).2 hcl hT2 k2
  refine ite2 (fun c1=>?_) (fun c1=>?_)
  ·refine ⟨_,rfl,_,_,rfl,rfl,_,rfl,?_⟩
   refine ite2 (fun c2=>?_) (fun c2=>rest)
   obtain ⟨j,cells',hj,hset,hl'⟩:=z4w (c:=c+1) (cells:=cells) a0 (by rw [hcl];exact a1) (z / many)
   refine ⟨_,rfl,_,rfl,_,_,rfl,rfl,⟨by lia,by lia⟩,?_⟩
   refine ⟨_,rfl,_,rfl,_,_,rfl,rfl,t,_,_,j,rfl,rfl,hT2,hj,?_⟩
   rw [hset]
   refine ⟨_,rfl,_,rfl,_,_,rfl,rfl,by lia,?_⟩
   exact q _ cells' _ (hmod _).1 (hmod _).2 (hl'.trans hcl) zb fun b o e hb=>by rw [zf hb];exact k2 b o e hb
  ·exact iteF rest
end
def FNd (P:Program) (w:World) (K:kC) (mg:Str→Option Value) (base:Heap) (k:Nat) (name:Str) (ps:List Str) (dvs:List V) (sp:Sp):Prop:=
 ∃f fd ds,mg name=some (.ref f)∧PySem.W.keepIn K (.ref f)=true∧Vals dvs ds∧Z9 K fd ps ds∧FnOk P w K mg base CX0 k f fd ps sp
def z4n (K:kC) (mg:Str→Option Value) (name:Str) (st:Stmt):Prop:=
 ∃(f T:Addr) (oc kV doc pm cdv ct:Value) (od an:Option Addr) (osl:Array (Option Value)) (to:Obj) (n:Nat),mg name=some (.ref f)∧PySem.W.keepIn K (.ref f)=true∧
  K.lookup f=some ⟨oc,od,.func (PySem.W.fnOf name name (qr st) (zK st) (zc st) (.ref T) kV doc pm an cdv ct),osl⟩∧PySem.W.codeIn K cdv name=true∧K.lookup T=some to∧to.data=.seq #[Value.none] n
section
variable {X:Cx} {k:Nat} {name:Str} {ps:List Str} {dvs:List V} {sp:Sp} {p pos:Pos} {e:Expr} {es:List Expr} {t:TA}
theorem q0 (F:FNd X.prog X.w X.K X.mg X.base k name ps dvs sp) (hr:Room k X.A) (hg:Gl X name) (ha:PA X (e :: es) t) (hdb:autoParam ((name == ("__debug__":Str))=false) aR._auto_2)
  (he:autoParam (starEach (e :: es) X.env=(false,eval e X.env) :: starEach es X.env) aR._auto_1) (hpl:autoParam ((backTo pos (starEach es X.env)).any (·.1)=false) aR._auto_1):
  PE X (.Call (.Name name p) (e :: es) [] pos) (z2N sp dvs E0 t):=by
 obtain ⟨f,fd,ds,a,b,v,c,d⟩:=F
 exact z3k d hr hg a b c v z2e ha hdb he hpl
end
section
def z0X:Sp:=fun vs H Q _=>∃(r:Addr) (op:Str) (x:V) (ys:List V),vs=[.ref r,.str op,x]∧H r=some (.lst ys)∧ys.length≤100000∧
 ∀a,H a=none→Q .non (upd (upd H a (.tup [.str op,x,.int (10+(ys.length:Int) / 2)])) r (.lst (ys++[.ref a])))
theorem z9w:zi ["_law_rows","_law_op","_law_arg"] ["_law_rows","_law_op","_law_arg"] (zc (top 102)):=fsM
theorem JG {n:Nat} (h:n≤100000):n < sizeLine:=Nat.lt_of_le_of_lt h (by decide)
theorem z8O (D:z4n K mg "_law_put" (top 102)) (G:Glo mg):FNd P w K mg base 1 "_law_put" ["_law_rows","_law_op","_law_arg"] [] z0X∧FNd P w K mg base 1 "_law_put" ["_law_rows","_law_op","_law_arg"] [.non] z0X:=by
 obtain ⟨f,T,oc,kV,doc,pm,cdv,ct,od,an,osl,to,n,m,kp,lk,hcd,lT,hT⟩:=D
 have ok:FnOk P w K mg base CX0 1 f (PySem.W.fnOf "_law_put" "_law_put" (qr (top 102)) (zK (top 102)) (zc (top 102)) (.ref T) kV doc pm an cdv ct) ["_law_rows","_law_op","_law_arg"] z0X:=by
  refine z8R lk hcd z9w (fun vs H Q E h=>by obtain ⟨r,op,x,ys,rfl,_⟩:=h;rfl) (fun A outer s H vs Q E hr h=>?_)
  obtain ⟨r,op,x,ys,rfl,hr1,hl,q⟩:=h
  refine ⟨_,PSs.nox (zd (zj (jj (pv 0) (z6 (zZ (z6 (pv 1) (z6 (pv 2) (z6 (zO je zg (zO QM (zy zL rfl G.len qv (z6 (pv 0) z7)) zg)) z7)))) z7)))),?_⟩
  refine ⟨_,rfl,.inl ⟨rfl,_,SqL.of hr1⟩,_,rfl,_,rfl,_,rfl,r,_,rfl,.inl (SqL.of hr1),_,_,rfl,rfl,⟨by decide,by decide⟩,_,_,rfl,rfl,by show 3≤sizeLine;decide,fun a ha=>?_⟩
  have nra:r≠a:=ze hr1 ha
  exact ⟨r,ys,.ref a,rfl,rfl,by rw [zf nra];exact hr1,JG hl,q a ha⟩
 have b3:Z9 K (PySem.W.fnOf "_law_put" "_law_put" (qr (top 102)) (zK (top 102)) (zc (top 102)) (.ref T) kV doc pm an cdv ct) ["_law_rows","_law_op","_law_arg"] []:=fun s us X hl=>by
  match us,hl with
  | [u1,u2,u3],_=>exact BindsTo.of_defaults (T:=T) (o:=to) (items:=#[Value.none]) rfl (X _ _ lT) hT rfl rfl
 have b2:Z9 K (PySem.W.fnOf "_law_put" "_law_put" (qr (top 102)) (zK (top 102)) (zc (top 102)) (.ref T) kV doc pm an cdv ct) ["_law_rows","_law_op","_law_arg"] [.none]:=fun s us X hl=>by
  have hl':us.length=2:=by simpa using hl
  match us,hl' with
  | [u1,u2],_=>exact BindsTo.of_defaults (T:=T) (o:=to) (items:=#[Value.none]) rfl (X _ _ lT) hT rfl rfl
 exact ⟨⟨f,_,[],m,kp,.nil,b3,ok⟩,⟨f,_,[.none],m,kp,.cons rfl .nil,b2,ok⟩⟩
noncomputable def Zc (k:Nat):List V:=(List.range k).map fun i:Nat=>V.int (i:Int)
theorem QO (k:Nat):Zc k++[.int (k:Int)]=Zc (k+1):=by
 unfold Zc
 rw [List.range_succ,kN]
 rfl
theorem Q1 (k:Nat):(Zc k).length=k:=by unfold Zc;simp
def spMk:Sp:=fun vs H Q _=>∃(m:Addr) (k:Nat),vs=[.ref m]∧H m=some (.lst (Zc k))∧k≤100000∧Q (.int (k:Int)) (upd H m (.lst (Zc (k+1))))
theorem z9v:zi ["_law_marks"] ["_law_marks"] (zc (top 103)):=fsM
theorem z9V (D:zn K mg "_law_mark" (top 103)) (G:Glo mg):FN P w K mg base 1 "_law_mark" ["_law_marks"] spMk:=by
 refine FN.o D z9v fun f cdv A outer s H vs Q E hr h=>?_
 obtain ⟨m,k,rfl,hm,hk,q⟩:=h
 refine ⟨_,z8 (zj (jj (pv 0) (z6 (zy zL rfl G.len qv (z6 (pv 0) z7)) z7)))
  (zd (zl (qc zT (pv 0) (Z7 qY zg) (fun _ _=>rfl)))),?_⟩
 try dsimp only [L2.cxOf,L2.Cx.nox]
 refine ⟨_,rfl,.inl ⟨rfl,_,SqL.of hm⟩,_,rfl,m,_,rfl,.inl (SqL.of hm),m,_,_,rfl,rfl,hm,by rw [Q1];exact JG hk,?_⟩
 rw [Q1,QO]
 refine ⟨_,rfl,1,rfl,m,_,_,.int (k:Int),rfl,rfl,SqL.of zb,?_,q⟩
 rw [←QO]
 exact QC _ _
def z02 (K:kC):Sp:=fun vs H Q _=>∃(a t p:Addr) (ns:List Int) (c:Nat) (cells:List Int) (xs:List V),vs=[.ref a,.ref t,.ref p]∧Scr K H a (ns.map V.int)∧ns.length≤1000∧cells.length=ns.length∧H t=some (.lst (qN c cells))∧c≤100000∧H p=some (.lst xs)∧p≠t∧1≤xs.length∧xs.length≤1000∧
 ∀(v:V) (cells':List Int) H',v∈xs→cells'.length=ns.length→H' t=some (.lst (qN (c+1) cells'))→jk H H' t→Q v H'
theorem z9y:zi ["_law_script","_law_town_here","_law_some"] ["_law_script","_law_town_here","_law_some"] (zc (top 100)):=fsM
theorem z79 (D:zn K mg "_law_pick" (top 100)) (G:Glo mg) (FD:FN P w K mg base 1 "_law_draw" ["_law_script","_law_town_here","_law_many"] (z1y K)):FN P w K mg base 2 "_law_pick" ["_law_script","_law_town_here","_law_some"] (z02 K):=by
 refine FN.o D z9y fun f cdv A outer s H vs Q E hr h=>?_
 obtain ⟨a,t,p,ns,c,cells,xs,rfl,hS,hns,hcl,hT,hc,hp,hpt,hx1,hx2,q⟩:=h
 refine ⟨_,zd (zl (qc zT (pv 2) (zo FD hr rfl (z6 (pv 0) (z6 (pv 1) (z6 (zy zL rfl G.len qv (z6 (pv 2) z7)) z7)))) (fun _ _=>rfl))),?_⟩
 try dsimp only [L2.cxOf,L2.Cx.nox]
 refine ⟨_,rfl,_,rfl,_,rfl,_,rfl,p,_,rfl,.inl (SqL.of hp),a,t,ns,c,cells,_,rfl,hS,hns,hcl,hT,hc,by lia,by lia,fun i cells' H' h0 h1 hl' hT' k'=>?_⟩
 obtain ⟨j,rfl⟩:=yc h0
 have hj:j < xs.length:=by lia
 exact ⟨p,_,_,xs[j],rfl,rfl,SqL.of (k' p _ hp hpt),zt (kO hj),q _ cells' H' (List.getElem_mem hj) hl' hT' k'⟩
def z11 (K:kC):Sp:=fun vs H Q _=>∃(a t:Addr) (ns:List Int) (c:Nat) (cells:List Int),vs=[.ref a,.ref t]∧Scr K H a (ns.map V.int)∧ns.length≤1000∧cells.length=ns.length∧H t=some (.lst (qN c cells))∧c≤100000∧
 ∀(v:V) (cells':List Int) H',jN v=true→okV v=true→cells'.length=ns.length→H' t=some (.lst (qN (c+1) cells'))→jk H H' t→Q v H'
theorem z9x:zi ["_law_script","_law_town_here"] ["_law_script","_law_town_here"] (zc (top 101)):=fsM
theorem z0B:∀v∈([.int 0,.int 1,.int 2,.int 3,.int (-4),.int 7,.int (10 ^ (9:Int).toNat),.bl true,.bl false,.non,.str "Oops",.str "Zero"]:List V),jN v=true∧okV v=true:=by trivial
theorem z5n (D:zn K mg "_law_const" (top 101)) (FP:FN P w K mg base 2 "_law_pick" ["_law_script","_law_town_here","_law_some"] (z02 K)):FN P w K mg base 3 "_law_const" ["_law_script","_law_town_here"] (z11 K):=by
 refine FN.o D z9x fun f cdv A outer s H vs Q E hr h=>?_
 obtain ⟨a,t,ns,c,cells,rfl,hS,hns,hcl,hT,hc,q⟩:=h
 refine ⟨_,zd (zl (zo FP hr rfl (z6 (pv 0) (z6 (pv 1) (z6 (qq (z6 zg (z6 zg (z6 zg (z6 zg (z6 (Z7 qY zg) (z6 zg (z6 (zO z3m zg zg) (z6 ZZ (z6 ZZ (z6 qm (z6 zk (z6 zk z7))))))))))))) z7))))),?_⟩
 try dsimp only [L2.cxOf,L2.Cx.nox]
 refine ⟨_,rfl,_,rfl,4,rfl,_,_,rfl,rfl,⟨by decide,by decide,by decide⟩,by show 12≤sizeLine;decide,fun p hp=>?_⟩
 have s1:=zh hp (.lst [.int 0,.int 1,.int 2,.int 3,.int (-4),.int 7,.int (10 ^ (9:Int).toNat),.bl true,.bl false,.non,.str "Oops",.str "Zero"])
 refine ⟨a,t,p,ns,c,cells,_,rfl,hS.keep fun o u e=>s1 _ _ e,hns,hcl,s1 _ _ hT,hc,zb,(ze hT hp).symm,by show 1≤12;decide,by show 12≤1000;decide,fun v cells' H' hv hl' hT' k'=>?_⟩
 exact q v cells' H' (z0B v hv).1 (z0B v hv).2 hl' hT' fun b o e hb=>k' b o (s1 _ _ e) hb
end
structure Pl where
 a:Addr
 t:Addr
 r:Addr
 m:Addr
 ns:List Int
structure GS (K:kC) (H:Hp) (p:Pl) (c:Nat) (rs:List Row) (k:Nat):Prop where
 scr:Scr K H p.a (p.ns.map V.int)
 nsl:p.ns.length≤1000
 town:∃cells:List Int,cells.length=p.ns.length∧H p.t=some (.lst (qN c cells))
 rows:∃as,H p.r=some (.lst (as.map V.ref))∧zV H as rs
 marks:H p.m=some (.lst (Zc k))
 tr:p.t≠p.r
 tm:p.t≠p.m
 rm:p.r≠p.m
structure Step (K:kC) (H H':Hp) (p:Pl) (c:Nat) (rs:List Row) (k:Nat) (c':Nat) (new:List Row) (k' B:Nat):Prop where
 gs:GS K H' p c' (rs++new) k'
 c1:c≤c'
 c2:c'≤c+B
 n:new.length≤B
 k1:k≤k'
 k2:k'≤k+B
 keep:za2 H H' p.t p.r p.m
section
variable {K:kC} {H H' H1 H2:Hp} {p:Pl} {c c1 c2 k k1 k2 B B1 B2:Nat} {rs n1 n2:List Row}
theorem Step.trans (s:Step K H H1 p c rs k c1 n1 k1 B1) (u:Step K H1 H2 p c1 (rs++n1) k1 c2 n2 k2 B2):Step K H H2 p c rs k c2 (n1++n2) k2 (B1+B2) where
 gs:=by have:=u.gs;rw [ya] at this;exact this
 c1:=kz s.c1 u.c1
 c2:=by have:=s.c2;have:=u.c2;lia
 n:=by have:=s.n;have:=u.n;rw [ko];lia
 k1:=kz s.k1 u.k1
 k2:=by have:=s.k2;have:=u.k2;lia
 keep:=fun b o e h1 h2 h3=>u.keep b o (s.keep b o e h1 h2 h3) h1 h2 h3
theorem Step.more (s:Step K H H1 p c rs k c1 n1 k1 B1) (h:B1≤B2):Step K H H1 p c rs k c1 n1 k1 B2:=
 ⟨s.gs,s.c1,by have:=s.c2;lia,by have:=s.n;lia,s.k1,by have:=s.k2;lia,s.keep⟩
theorem GS.same (g:GS K H p c rs k) (s:Same H H'):GS K H' p c rs k:=by
 obtain ⟨cells,h1,h2⟩:=g.town
 obtain ⟨as,h3,h4⟩:=g.rows
 exact ⟨g.scr.keep fun _ _ e=>s _ _ e,g.nsl,⟨cells,h1,s _ _ h2⟩,⟨as,s _ _ h3,h4.same s⟩,s _ _ g.marks,g.tr,g.tm,g.rm⟩
theorem GS.draw (g:GS K H p c rs k) {cells':List Int} (hl:cells'.length=p.ns.length) (hT:H' p.t=some (.lst (qN (c+1) cells'))) (kp:jk H H' p.t):Step K H H' p c rs k (c+1) [] k 1:=by
 obtain ⟨cells,h1,h2⟩:=g.town
 obtain ⟨as,h3,h4⟩:=g.rows
 refine ⟨?_,by lia,by lia,by simp,kh _,by lia,fun b o e h1 _ _=>kp b o e h1⟩
 rw [kZ]
 exact ⟨g.scr.keep1 kp h2,g.nsl,⟨cells',hl,hT⟩,⟨as,kp _ _ h3 g.tr.symm,h4.keep fun b xs e=>kp b _ e (zA e h2 nofun)⟩,kp _ _ g.marks g.tm.symm,g.tr,g.tm,g.rm⟩
theorem GS.put (g:GS K H p c rs k) {x:Addr} (hx:H x=none) {op:Str} {v:V} {as:List Addr} (h3:H p.r=some (.lst (as.map V.ref))) (h4:zV H as rs) {l:Int}:
  Step K H (upd (upd H x (.tup [.str op,v,.int l])) p.r (.lst (as.map V.ref++[.ref x]))) p c rs k c [⟨op,v,l⟩] k 1:=by
 obtain ⟨cells,h1,h2⟩:=g.town
 have nr:∀b o,H b=some o→b≠x:=fun b o e=>ze e hx
 have kp:∀b o,H b=some o→b≠p.r→(upd (upd H x (.tup [.str op,v,.int l])) p.r (.lst (as.map V.ref++[.ref x]))) b=some o:=fun b o e hb=>by rw [zf hb,zf (nr b o e)];exact e
 have xr:x≠p.r:=(nr _ _ h3).symm
 refine ⟨⟨g.scr.keep fun o u e=>kp _ _ e (zA e h3 nofun),g.nsl,⟨cells,h1,kp _ _ h2 g.tr⟩,⟨as++[x],by rw [kN];exact zb,?_⟩,kp _ _ g.marks g.rm.symm,g.tr,g.tm,g.rm⟩,kh _,by lia,by simp,kh _,by lia,fun b o e _ h2 _=>kp b o e h2⟩
 refine zV.append (h4.keep fun b xs e=>kp b _ e (zA e h3 nofun)) (.cons ?_ .nil)
 rw [zf xr,zb]
 rfl
theorem GS.mk' (g:GS K H p c rs k):Step K H (upd H p.m (.lst (Zc (k+1)))) p c rs k c [] (k+1) 1:=by
 obtain ⟨cells,h1,h2⟩:=g.town
 obtain ⟨as,h3,h4⟩:=g.rows
 have kp:∀b o,H b=some o→b≠p.m→(upd H p.m (.lst (Zc (k+1)))) b=some o:=fun b o e hb=>by rw [zf hb];exact e
 refine ⟨?_,kh _,by lia,by simp,by lia,kh _,fun b o e _ _ h3=>kp b o e h3⟩
 rw [kZ]
 exact ⟨g.scr.keep fun o u e=>kp _ _ e (zA e g.marks nofun),g.nsl,⟨cells,h1,kp _ _ h2 g.tm⟩,⟨as,kp _ _ h3 g.rm,h4.keep fun b xs e=>kp b _ e (zA e g.marks nofun)⟩,zb,g.tr,g.tm,g.rm⟩
theorem jt (g:GS K H p c rs k) (hc:c≤100000) {many:Int} (h1:1≤many) (h2:many≤1000) {Q:VK} {E:XK} (h:∀i H',0≤i→i < many→Step K H H' p c rs k (c+1) [] k 1→Q (.int i) H'):z1y K [.ref p.a,.ref p.t,.int many] H Q E:=by
 obtain ⟨cells,e1,e2⟩:=g.town
 exact ⟨p.a,p.t,p.ns,c,cells,many,rfl,g.scr,g.nsl,e1,e2,hc,h1,h2,fun i cells' H' a b l t kp=>h i H' a b (g.draw l t kp)⟩
theorem js (g:GS K H p c rs k) (hc:c≤100000) {q:Addr} (hq:H q=none) {xs:List V} (h1:1≤xs.length) (h2:xs.length≤1000) {Q:VK} {E:XK} (h:∀v H',v∈xs→Step K H H' p c rs k (c+1) [] k 1→Q v H'):
  z02 K [.ref p.a,.ref p.t,.ref q] (upd H q (.lst xs)) Q E:=by
 have s1:=zh hq (.lst xs)
 have g1:=g.same s1
 obtain ⟨cells,e1,e2⟩:=g1.town
 obtain ⟨cells0,_,e20⟩:=g.town
 exact ⟨p.a,p.t,q,p.ns,c,cells,xs,rfl,g1.scr,g1.nsl,e1,e2,hc,zb,(ze e20 hq).symm,h1,h2,fun v cells' H' hv l t kp=>h v H' hv (g.draw l t fun b o e hb=>kp b o (s1 _ _ e) hb)⟩
theorem z4B (g:GS K H p c rs k) (hc:c≤100000) {Q:VK} {E:XK} (h:∀v H',jN v=true→okV v=true→Step K H H' p c rs k (c+1) [] k 1→Q v H'):z11 K [.ref p.a,.ref p.t] H Q E:=by
 obtain ⟨cells,e1,e2⟩:=g.town
 exact ⟨p.a,p.t,p.ns,c,cells,rfl,g.scr,g.nsl,e1,e2,hc,fun v cells' H' hv ho l t kp=>h v H' hv ho (g.draw l t kp)⟩
theorem zY (g:GS K H p c rs k) (hl:rs.length≤100000) {op:Str} {v:V} {Q:VK} {E:XK} (h:∀H',Step K H H' p c rs k c [⟨op,v,10+(rs.length:Int) / 2⟩] k 1→Q .non H'):z0X [.ref p.r,.str op,v] H Q E:=by
 obtain ⟨as,h3,h4⟩:=g.rows
 have e:(as.map V.ref).length=rs.length:=by rw [km];exact h4.len
 refine ⟨p.r,op,v,_,rfl,h3,by lia,fun x hx=>?_⟩
 rw [e]
 exact h _ (g.put hx h3 h4)
theorem Ju (g:GS K H p c rs k) (hk:k≤100000) {Q:VK} {E:XK} (h:∀H',Step K H H' p c rs k c [] (k+1) 1→Q (.int (k:Int)) H'):spMk [.ref p.m] H Q E:=⟨p.m,k,rfl,g.marks,hk,h _ g.mk'⟩
end
def PokR (op:Str) (v:V):Prop:=(op="push"→okV v=true)∧(op="store"→v∈([.str "a",.str "b",.str "c"]:List V))
def RowG (r:Row):Prop:=∃s,zX r.op=some s∧0≤r.line∧r.line≤9999∧PokR r.op r.arg∧((s="mark"∧∃m:Nat,r.arg=.int (m:Int))∨(s≠"mark"∧qU s r.arg=true))
noncomputable def JL (m:Nat) (r:Row):Bool:=decide (r.op="label")&&decide (r.arg=.int (m:Int))
noncomputable def JK (m:Nat) (r:Row):Bool:=decide (zX r.op=some ("mark":Str))&&decide (r.op≠"label")&&decide (r.arg=.int (m:Int))
noncomputable def lab (m:Nat) (l:List Row):Nat:=l.countP (JL m)
noncomputable def use (m:Nat) (l:List Row):Nat:=l.countP (JK m)
theorem zS (m:Nat) (a b:List Row):lab m (a++b)=lab m a+lab m b:=List.countP_append
theorem Zf (m:Nat) (a b:List Row):use m (a++b)=use m a+use m b:=List.countP_append
structure Good (k k':Nat) (l:List Row):Prop where
 row:∀r∈l,RowG r
 lab1:∀m,lab m l≤1
 labI:∀m,lab m l≠0→k≤m∧m < k'
 useI:∀m,use m l≠0→lab m l≠0
 labA:∀m,k≤m→m < k'→lab m l≠0
theorem Good.nil (k:Nat):Good k k []:=⟨(fun _ h=>by cases h),fun _=>Nat.zero_le _,fun _ h=>absurd rfl h,fun _ h=>absurd rfl h,fun _ _ _=>by lia⟩
theorem Good.app {k k1 k2:Nat} {a b:List Row} (x:Good k k1 a) (y:Good k1 k2 b) (h1:k≤k1) (h2:k1≤k2):Good k k2 (a++b):=by
 refine ⟨fun r hr=>(kX.mp hr).elim (x.row r) (y.row r),fun m=>?_,fun m h=>?_,fun m h=>?_,fun m ha hb=>?_⟩
 ·have:=x.lab1 m;have:=y.lab1 m;have:=x.labI m;have:=y.labI m
  rw [zS];lia
 ·have:=x.labI m;have:=y.labI m
  rw [zS] at h;lia
 ·have:=x.useI m;have:=y.useI m
  rw [Zf] at h
  rw [zS];lia
 ·have:=x.labA m;have:=y.labA m
  rw [zS];lia
def Bare (op:Str) (v:V):Prop:=∃s,zX op=some s∧s≠"mark"∧qU s v=true∧PokR op v
theorem Bare.noLab {op:Str} {v:V} (h:Bare op v) (m:Nat) (l:Int):lab m [⟨op,v,l⟩]=0:=by
 obtain ⟨s,hs,hm,_⟩:=h
 have:op≠"label":=fun z=>hm (by rw [z,Z4] at hs;exact (kF hs).symm)
 unfold lab
 rw [List.countP_singleton]
 have:JL m ⟨op,v,l⟩=false:=by unfold JL;simp [this]
 rw [this]
 rfl
theorem Bare.noUse {op:Str} {v:V} (h:Bare op v) (m:Nat) (l:Int):use m [⟨op,v,l⟩]=0:=by
 obtain ⟨s,hs,hm,_⟩:=h
 unfold use
 rw [List.countP_singleton]
 have:JK m ⟨op,v,l⟩=false:=by
  unfold JK
  rw [hs]
  have:¬(some s=some ("mark":Str)):=fun z=>hm (kF z)
  simp [this]
 rw [this]
 rfl
theorem Bare.rowG {op:Str} {v:V} (h:Bare op v) {l:Int} (h0:0≤l) (h1:l≤9999):RowG ⟨op,v,l⟩:=by
 obtain ⟨s,hs,hm,hf,hp⟩:=h
 exact ⟨s,hs,h0,h1,hp,.inr ⟨hm,hf⟩⟩
theorem Bare.good {op:Str} {v:V} (h:Bare op v) {l:Int} (h0:0≤l) (h1:l≤9999) (k:Nat):Good k k [⟨op,v,l⟩]:=
 ⟨fun r hr=>by rw [ku.mp hr];exact h.rowG h0 h1,fun m=>by rw [h.noLab];exact Nat.zero_le _,fun m z=>absurd (h.noLab m l) z,fun m z=>absurd (h.noUse m l) z,fun m _ _=>by lia⟩
def Uses (op:Str):Prop:=zX op=some ("mark":Str)∧op≠"label"
theorem Uses.noLab {op:Str} (h:Uses op) (m:Nat) (v:V) (l:Int):lab m [⟨op,v,l⟩]=0:=by
 unfold lab
 rw [List.countP_singleton]
 have:JL m ⟨op,v,l⟩=false:=by unfold JL;simp [h.2]
 rw [this]
 rfl
noncomputable def ind (m j:Nat):Nat:=if m=j then 1 else 0
theorem qd (m j:Nat):(m=j∧ind m j=1)∨(m≠j∧ind m j=0):=by
 unfold ind
 by_cases e:m=j <;> simp [e]
theorem Uses.use {op:Str} (h:Uses op) (m j:Nat) (l:Int):use m [⟨op,.int (j:Int),l⟩]=ind m j:=by
 unfold My.use ind
 rw [List.countP_singleton]
 have:JK m ⟨op,.int (j:Int),l⟩=decide (m=j):=by
  unfold JK
  rw [h.1]
  have:(V.int (j:Int)=V.int (m:Int))↔m=j:=⟨fun z=>by injection z with z;lia,fun z=>by rw [z]⟩
  simp [h.2,this]
 rw [this]
 by_cases e:m=j <;> simp [e]
theorem Uses.rowG {op:Str} (h:Uses op) {j:Nat} {l:Int} (h0:0≤l) (h1:l≤9999):RowG ⟨op,.int (j:Int),l⟩:=⟨"mark",h.1,h0,h1,⟨fun z=>absurd (show zX "push"=some ("mark":Str) from (show op="push" from z)▸h.1) (by trivial),fun z=>absurd (show zX "store"=some ("mark":Str) from (show op="store" from z)▸h.1) (by trivial)⟩,.inl ⟨rfl,j,rfl⟩⟩
theorem qf (m j:Nat) (l:Int):lab m [⟨"label",.int (j:Int),l⟩]=ind m j:=by
 unfold lab ind
 rw [List.countP_singleton]
 have:JL m ⟨"label",.int (j:Int),l⟩=decide (m=j):=by
  unfold JL
  have:(V.int (j:Int)=V.int (m:Int))↔m=j:=⟨fun z=>by injection z with z;lia,fun z=>by rw [z]⟩
  simp [this]
 rw [this]
 by_cases e:m=j <;> simp [e]
theorem ZU (m:Nat) (v:V) (l:Int):use m [⟨"label",v,l⟩]=0:=by
 unfold use
 rw [List.countP_singleton]
 have:JK m ⟨"label",v,l⟩=false:=by unfold JK;simp
 rw [this]
 rfl
theorem qR {j:Nat} {l:Int} (h0:0≤l) (h1:l≤9999):RowG ⟨"label",.int (j:Int),l⟩:=⟨"mark",Z4,h0,h1,⟨fun z=>absurd z (show ("label":Str)≠"push" by trivial),fun z=>absurd z (show ("label":Str)≠"store" by trivial)⟩,.inl ⟨rfl,j,rfl⟩⟩
theorem Ty.cast {δ δ':Int} {su:Bool} {k k':Nat} {l:List Row} (x:Ty δ su k k' l) (h:δ=δ'):Ty δ' su k k' l:=h▸x
noncomputable def bV:Nat→Nat
 | 0=>3
 | d+1=>2 * bV d+25
theorem Jp:∀d,3≤bV d
 | 0=>kh _
 | d+1=>by have:=Jp d;show 3≤2 * bV d+25;lia
theorem qe (m:Nat):lab m []=0:=rfl
theorem ZT (m:Nat):use m []=0:=rfl
def AllG (l:List Row):Prop:=∀r∈l,RowG r
theorem AllG.nil:AllG []:=fun _ h=>by cases h
theorem AllG.app {a b:List Row} (x:AllG a) (y:AllG b):AllG (a++b):=fun r hr=>(kX.mp hr).elim (x r) (y r)
theorem AllG.one {r:Row} (h:RowG r):AllG [r]:=fun x hx=>by rw [ku.mp hx];exact h
theorem Qj:Uses "try":=⟨by trivial,by trivial⟩
theorem qj:Uses "jump":=⟨by trivial,by trivial⟩
theorem z0Q:Uses "iffalse":=⟨by trivial,by trivial⟩
theorem z9h:Uses "iftrue":=⟨by trivial,by trivial⟩
theorem z9f:Uses "ortrue":=⟨by trivial,by trivial⟩
theorem z9g:Uses "orfalse":=⟨by trivial,by trivial⟩
theorem ZR {op:Str} (h:zX op=some ("none":Str)):Bare op .non:=⟨"none",h,by trivial,by trivial,fun _=>rfl,fun z=>absurd (show zX "store"=some ("none":Str) from z▸h) (by trivial)⟩
theorem Qq:Bare "endtry" .non:=ZR (by trivial)
theorem z4h:Bare "drop" .non:=ZR (by trivial)
theorem z4f:Bare "tell" .non:=ZR (by trivial)
theorem z99:Bare "same" .non:=ZR (by trivial)
theorem z4g:Bare "raise" .non:=ZR (by trivial)
theorem z20:Bare "return" .non:=ZR (by trivial)
theorem z9a {v:V} (h:jN v=true) (ho:okV v=true):Bare "push" v:=⟨"value",by trivial,by trivial,by unfold qU;rw [kE rfl];exact h,fun _=>ho,fun z=>absurd z (by trivial)⟩
theorem z68 {v:V} (h:v∈([.str "a",.str "b",.str "c"]:List V)):Bare "load" v:=⟨"name",by trivial,by trivial,by revert v;decide+kernel,fun z=>absurd z (by trivial),fun z=>absurd z (by trivial)⟩
theorem z7x {v:V} (h:v∈([.str "a",.str "b",.str "c"]:List V)):Bare "store" v:=⟨"name",by trivial,by trivial,by revert v;decide+kernel,fun z=>absurd z (by trivial),fun _=>h⟩
theorem z7y {v:V} (h:v∈([.str "b",.str "c"]:List V)):Bare "clear" v:=⟨"name",by trivial,by trivial,by revert v;decide+kernel,fun z=>absurd z (by trivial),fun z=>absurd z (by trivial)⟩
theorem Zp {s:Str} {i lo hi:Int} (h:∀x,qU s x=qK x lo hi) (h0:lo≤i) (h1:i≤hi):qU s (.int i)=true:=by
 rw [h]
 show (decide (lo≤i)&&decide (i≤hi))=true
 rw [kl h0,kl h1]
 rfl
theorem z98 {i:Int} (h0:2≤i) (h1:i≤9):Bare "swap" (.int i):=⟨"swapped",by trivial,by trivial,Zp (fun x=>by
 unfold qU;rw [kD (by trivial),kD (by trivial),kD (by trivial),kE rfl];rfl) h0 h1,fun z=>absurd z (by trivial),fun z=>absurd z (by trivial)⟩
theorem z9b {i:Int} (h0:1≤i) (h1:i≤9):Bare "copy" (.int i):=⟨"copied",by trivial,by trivial,Zp (fun x=>by
 unfold qU;rw [kD (by trivial),kD (by trivial),kE rfl];rfl) h0 h1,fun z=>absurd z (by trivial),fun z=>absurd z (by trivial)⟩
section
variable {K:kC} {H H' H1 H2:Hp} {p:Pl} {c c1 c2 k k1 k2 B B1 B2:Nat} {rs n1 n2:List Row}
theorem Step.tick (s:Step K H H1 p c rs k c1 n1 k1 B1) (u:Step K H1 H2 p c1 (rs++n1) k1 c2 [] k2 B2):Step K H H2 p c rs k c2 n1 k2 (B1+B2):=by
 have:=s.trans u
 rw [kZ] at this
 exact this
theorem Step.len (s:Step K H H1 p c rs k c1 n1 k1 B1):(rs++n1).length≤rs.length+B1:=by
 have:=s.n
 rw [ko]
 lia
end
def qB (K:kC) (C:Int→Nat→Prop) (δ:Int) (su:Bool):Sp:=fun vs H Q _=>∃(p:Pl) (c:Nat) (rs:List Row) (k:Nat) (e:Int) (B:Nat),vs=[.ref p.a,.ref p.t,.ref p.r,.ref p.m,.int e]∧C e B∧GS K H p c rs k∧c+B≤15000∧rs.length+B≤15000∧k+B≤15000∧
 ∀c' new k' H',Step K H H' p c rs k c' new k' B→Good k k' new→Ty δ su k k' new→Q .non H'
theorem ja {K:kC} {C:Int→Nat→Prop} {δ:Int} {su:Bool} (vs:List V) (H:Hp) (Q:VK) (E:XK) (h:qB K C δ su vs H Q E):vs.length=5:=by
 obtain ⟨p,c,rs,k,e,B,rfl,_⟩:=h
 rfl
def CV (n:Nat) (e:Int) (B:Nat):Prop:=∃d:Nat,e=(d:Int)∧d < n∧B=bV d
def CTV (n:Nat) (e:Int) (B:Nat):Prop:=∃d:Nat,e=(d:Int)+1∧d < n∧B=bV d+7
def CMV (n:Nat) (_:Int) (B:Nat):Prop:=0 < n∧B=30
noncomputable abbrev gps:List Str:=["_law_script","_law_town_here","_law_rows","_law_marks","_law_deep"]
theorem zF {n:Nat} (h:n≤15000):(0:Int)≤10+(n:Int) / 2∧10+(n:Int) / 2≤9999:=by lia
section
structure jD (P:Program) (w:World) (K:kC) (mg:Str→Option Value) (base:Heap):Prop where
 draw:FN P w K mg base 1 "_law_draw" ["_law_script","_law_town_here","_law_many"] (z1y K)
 pick:FN P w K mg base 2 "_law_pick" ["_law_script","_law_town_here","_law_some"] (z02 K)
 const:FN P w K mg base 3 "_law_const" ["_law_script","_law_town_here"] (z11 K)
 put3:FNd P w K mg base 1 "_law_put" ["_law_rows","_law_op","_law_arg"] [] z0X
 put2:FNd P w K mg base 1 "_law_put" ["_law_rows","_law_op","_law_arg"] [.non] z0X
 mark:FN P w K mg base 1 "_law_mark" ["_law_marks"] spMk
theorem z6x:zi ["_law_script","_law_town_here","_law_rows","_law_marks","_law_deep","_law_mark_here","_law_end"] gps (zc (top 105)):=fsM
theorem la31 {k ka kb kc m a b c i j:Nat} (a1:a≤1) (aI:a≠0→k+1+1≤m∧m < ka) (b1:b≤1) (bI:b≠0→ka≤m∧m < kb) (c1:c≤1) (cI:c≠0→kb≤m∧m < kc) (hi:m=k∧i=1∨m≠k∧i=0) (hj:m=k+1∧j=1∨m≠k+1∧j=0) (ha:k+1+1≤ka) (hb:ka≤kb):0+a+b+i+c+j≤1:=by lia
theorem la32 {k ka kb kc m a b c i j:Nat} (h:0+a+b+i+c+j≠0) (aI:a≠0→k+1+1≤m∧m < ka) (bI:b≠0→ka≤m∧m < kb) (cI:c≠0→kb≤m∧m < kc) (hi:m=k∧i=1∨m≠k∧i=0) (hj:m=k+1∧j=1∨m≠k+1∧j=0) (ha:k+1+1≤ka) (hb:ka≤kb) (hc:kb≤kc):k≤m∧m < kc:=by lia
theorem la34 {k ka kb kc m a b c i j:Nat} (h1:k≤m) (h2:m < kc) (aA:k+1+1≤m→m < ka→a≠0) (bA:ka≤m→m < kb→b≠0) (cA:kb≤m→m < kc→c≠0) (hi:m=k∧i=1∨m≠k∧i=0) (hj:m=k+1∧j=1∨m≠k+1∧j=0):0+a+b+i+c+j≠0:=by lia
theorem z9Q {n:Nat} (D:zn K mg "_law_tried_value" (top 105)) (S:jD P w K mg base) (FV:FN P w K mg base (3+2 * n) "_law_value" gps (qB K (CV n) 1 true)):FN P w K mg base (4+2 * n) "_law_tried_value" gps (qB K (CTV n) 1 true):=by
 have:=FN.of (k:=3+2 * n) (sp:=qB K (CTV n) 1 true) (P:=P) (w:=w) (base:=base) D z6x (fun _ _ _ _ _ _=>zU5 fun _ _ _ _ _=>rfl) ja (fun f cdv A outer s H vs Q E hr h=>?_)
 ·exact this.mono (by lia)
 obtain ⟨p,c,rs,k,e,B,rfl,⟨d,he,hd,hB⟩,g,bc,br,bk,q⟩:=h
 have hr1:=hr.mono (show 1≤3+2 * n by lia)
 refine ⟨_,z8 (zG (i:=5) z6x.nd rfl (Or.inl rfl) (zo S.mark hr1 rfl (z6 (pv 3) z7)))
  (z8 (zG (i:=6) z6x.nd rfl (Or.inl rfl) (zo S.mark hr1 rfl (z6 (pv 3) z7)))
  (z8 (zj (q0 S.put3 hr1 rfl (z6 (pv 2) (z6 zk (z6 (pv 5) z7)))))
  (z8 (zj (zo FV hr rfl (z6 (pv 0) (z6 (pv 1) (z6 (pv 2) (z6 (pv 3) (z6 (zO j4 (pv 4) zg) z7)))))))
  (z8 (zj (q0 S.put2 hr1 rfl (z6 (pv 2) (z6 zk z7))))
  (z8 (zj (q0 S.put3 hr1 rfl (z6 (pv 2) (z6 zk (z6 (pv 6) z7)))))
  (z8 (zj (q0 S.put3 hr1 rfl (z6 (pv 2) (z6 zk (z6 (pv 5) z7)))))
  (zd (zj (q0 S.put3 hr1 rfl (z6 (pv 2) (z6 zk (z6 (pv 6) z7)))))))))))),?_⟩
 try dsimp only [L2.cxOf,L2.Cx.nox]
 refine ⟨_,rfl,Ju g (by lia) fun H1 s1=>?_⟩
 refine ⟨_,rfl,Ju s1.gs (by lia) fun H2 s2=>?_⟩
 have t2:=s1.trans s2
 refine ⟨_,rfl,_,rfl,zY t2.gs (by have:=t2.n;rw [ko];lia) fun H3 s3=>?_⟩
 have t3:=t2.trans s3
 refine ⟨_,rfl,_,rfl,_,rfl,_,rfl,_,rfl,_,_,rfl,rfl,p,_,_,_,_,bV d,rfl,⟨d,(by show e - 1=_;lia),hd,rfl⟩,t3.gs,(by have:=t3.c2;lia),(by have:=t3.n;rw [ko];lia),(by have:=t3.k2;lia),fun c4 n4 k4 H4 s4 g4 y4=>?_⟩
 have t4:=t3.trans s4
 refine ⟨_,rfl,zY t4.gs (by have:=t4.n;rw [ko];lia) fun H5 s5=>?_⟩
 have t5:=t4.trans s5
 refine ⟨_,rfl,_,rfl,zY t5.gs (by have:=t5.n;rw [ko];lia) fun H6 s6=>?_⟩
 have t6:=t5.trans s6
 refine ⟨_,rfl,_,rfl,zY t6.gs (by have:=t6.n;rw [ko];lia) fun H7 s7=>?_⟩
 have t7:=t6.trans s7
 refine ⟨_,rfl,_,rfl,zY t7.gs (by have:=t7.n;rw [ko];lia) fun H8 s8=>?_⟩
 have t8:=t7.trans s8
 have L2:=zF (n:=(rs++([]++[])).length) (by simp;lia)
 have L4:=zF (kz t4.len (by lia))
 have L5:=zF (kz t5.len (by lia))
 have L6:=zF (kz t6.len (by lia))
 have L7:=zF (kz t7.len (by lia))
 refine q _ _ _ _ (t8.more (by lia)) ⟨(((((((AllG.nil.app AllG.nil).app (AllG.one (Qj.rowG L2.1 L2.2))).app g4.row).app (AllG.one (Qq.rowG L4.1 L4.2))).app (AllG.one (qj.rowG L5.1 L5.2))).app (AllG.one (qR L6.1 L6.2))).app (AllG.one (qR L7.1 L7.2))),fun m=>?_,fun m h=>?_,fun m h=>?_,fun m ha hb=>?_⟩ (Ty.triedv y4 s4.k1 _ _ _ _ _)
 ·simp only [zS,qe,qf,Qj.noLab,Qq.noLab,qj.noLab]
  exact la31 (b:=0) (c:=0) (kb:=k4) (kc:=k4) (g4.lab1 m) (g4.labI m) (Nat.zero_le 1) (fun z=>absurd rfl z) (Nat.zero_le 1) (fun z=>absurd rfl z) (qd m k) (qd m (k+1)) s4.k1 (kh _)
 ·simp only [zS,qe,qf,Qj.noLab,Qq.noLab,qj.noLab] at h
  exact la32 (b:=0) (c:=0) (kb:=k4) h (g4.labI m) (fun z=>absurd rfl z) (fun z=>absurd rfl z) (qd m k) (qd m (k+1)) s4.k1 (kh _) (kh _)
 ·simp only [Zf,ZT,ZU,Qj.use,Qq.noUse,qj.use] at h
  simp only [zS,qe,qf,Qj.noLab,Qq.noLab,qj.noLab]
  have:=g4.useI m
  lia
 ·simp only [zS,qe,qf,Qj.noLab,Qq.noLab,qj.noLab]
  exact la34 (b:=0) (c:=0) (kb:=k4) ha hb (g4.labA m) (fun x y=>absurd y (Nat.not_lt.mpr x)) (fun x y=>absurd y (Nat.not_lt.mpr x)) (qd m k) (qd m (k+1))
end
set_option maxHeartbeats 8000000
section
variable {k k1:Nat} {n1:List Row}
theorem Good.put (g:Good k k1 n1) (hk:k≤k1) {op:Str} {v:V} (h:Bare op v) {l:Int} (h0:0≤l) (h1:l≤9999):Good k k1 (n1++[⟨op,v,l⟩]):=g.app (h.good h0 h1 k1) hk (kh _)
end
section
theorem z39:zi ["_law_script","_law_town_here","_law_rows","_law_marks","_law_deep","_law_many","_law_k"] gps (zc (top 106)):=fsM
theorem z2d {v:V} (h:v∈([.str "drop",.str "tell",.str "same"]:List V)):∃op,v=.str op∧Bare op .non∧(Zu op 1 0∨Zu op 2 1):=by
 rcases kH.mp h with e | h
 ·exact ⟨_,e,z4h,.inl (Zj _ (by simp))⟩
 ·rcases kH.mp h with e | h
  ·exact ⟨_,e,z4f,.inl (Zj _ (by simp))⟩
  ·exact ⟨_,ku.mp h,z99,.inr (z5Y _ (by simp))⟩
theorem z9U {n:Nat} (D:zn K mg "_law_moved_value" (top 106)) (G:Glo mg) (S:jD P w K mg base) (FV:FN P w K mg base (3+2 * n) "_law_value" gps (qB K (CV n) 1 true)):FN P w K mg base (4+2 * n) "_law_moved_value" gps (qB K (CMV n) 1 true):=by
 have:=FN.of (k:=3+2 * n) (sp:=qB K (CMV n) 1 true) (P:=P) (w:=w) (base:=base) D z39 (fun _ _ _ _ _ _=>zU5 fun _ _ _ _ _=>rfl) ja (fun f cdv A outer s H vs Q E hr h=>?_)
 ·exact this.mono (by lia)
 obtain ⟨p,c,rs,k,e,B,rfl,⟨hn,hB⟩,g,bc,br,bk,q⟩:=h
 have hr1:=hr.mono (show 1≤3+2 * n by lia)
 have hr2:=hr.mono (show 2≤3+2 * n by lia)
 refine ⟨_,z8 (zG (i:=5) z39.nd rfl (Or.inl rfl) (zO je zg (zo S.draw hr1 rfl (z6 (pv 0) (z6 (pv 1) (z6 zg z7))))))
  (z8 (Zb PassesOwn.never rfl (jO rfl G.range (z6 (pv 5) z7)) (zu (i:=6) z39.nd rfl (Or.inl rfl)) (zd (zj (zo FV hr rfl (z6 (pv 0) (z6 (pv 1) (z6 (pv 2) (z6 (pv 3) (z6 zg z7)))))))))
  (z8 (Zb PassesOwn.never rfl (jO rfl G.range (z6 (zo S.draw hr1 rfl (z6 (pv 0) (z6 (pv 1) (z6 zg z7)))) z7)) (zu (i:=6) z39.nd rfl (Or.inl rfl))
   (zd (zj (q0 S.put3 hr1 rfl (z6 (pv 2) (z6 zk (z6 (zO je zg (zo S.draw hr1 rfl (z6 (pv 0) (z6 (pv 1) (z6 (zO j4 (pv 5) zg) z7))))) z7)))))))
  (z8 (zJ (zm qJ (zo S.draw hr1 rfl (z6 (pv 0) (z6 (pv 1) (z6 zg z7)))) zg (zq _))
   (z8 (zj (q0 S.put3 hr1 rfl (z6 (pv 2) (z6 zk (z6 (zO je zg (zo S.draw hr1 rfl (z6 (pv 0) (z6 (pv 1) (z6 (pv 5) z7))))) z7)))))
    (zd (zj (q0 S.put2 hr1 rfl (z6 (pv 2) (z6 zk z7)))))) zw)
  (zd (Zb PassesOwn.never rfl (jO rfl G.range (z6 (zO j4 (pv 5) zg) z7)) (zu (i:=6) z39.nd rfl (Or.inl rfl))
   (zd (zj (q0 S.put2 hr1 rfl (z6 (pv 2) (z6 (zo S.pick hr2 rfl (z6 (pv 0) (z6 (pv 1) (z6 (qq (z6 zk (z6 zk (z6 zk z7)))) z7)))) z7)))))))))),?_⟩
 try dsimp only [L2.cxOf,L2.Cx.nox]
 refine ⟨_,rfl,_,rfl,jt g (by lia) (by decide) (by decide) fun i0 H1 i00 i01 s1=>?_⟩
 refine ⟨_,_,rfl,rfl,?_⟩
 have hm0:2≤2+i0∧2+i0≤4:=⟨by lia,by lia⟩
 show tSeq _ _ _ [some (.ref p.a),some (.ref p.t),some (.ref p.r),some (.ref p.m),some (.int e),some (.int (2+i0)),none] H1
 generalize (2+i0:Int)=many at *
 refine ⟨_,rfl,many,rfl,by lia,by lia,jU (lo:=0) (n:=many.toNat) (fun i σ H2=>∃v c' new k',σ=[some (.ref p.a),some (.ref p.t),some (.ref p.r),some (.ref p.m),some (.int e),some (.int many),v]∧Step K H H2 p c rs k c' new k' (1+3 * i)∧Good k k' new∧Ty (i:Int) true k k' new)
  ⟨none,_,_,_,rfl,s1,Good.nil k,Ty.nil k⟩ ?_ ?_⟩
 ·rintro i σ H2 hi ⟨v,c',new,k',rfl,st,gd,ty⟩
  have l:=st.len
  refine ⟨_,rfl,_,rfl,_,rfl,_,rfl,p,_,_,_,_,3,rfl,⟨0,rfl,hn,rfl⟩,st.gs,(by have:=st.c2;lia),(by lia),(by have:=st.k2;lia),fun c4 n4 k4 H4 s4 g4 y4=>?_⟩
  exact ⟨_,c4,new++n4,k4,rfl,(st.trans s4).more (by lia),gd.app g4 st.k1 s4.k1,(ty.app y4 st.k1 s4.k1 (by lia)).cast (by lia)⟩
 rintro σ H2 ⟨v,c2,n2,k2,rfl,t2,g2,y2⟩
 have y2:=y2.cast (show ((many.toNat:Nat):Int)=many by lia)
 have t2:=t2.more (show _≤13 by lia)
 have l2:=t2.len
 refine ⟨_,rfl,_,rfl,jt t2.gs (kz t2.c2 (by lia)) (by decide) (by decide) fun j0 H3 j00 j01 s3=>?_⟩
 have t3:=t2.tick s3
 refine ⟨j0,rfl,by lia,by lia,jU (lo:=0) (n:=j0.toNat) (fun i σ H2=>∃v c' new k',σ=[some (.ref p.a),some (.ref p.t),some (.ref p.r),some (.ref p.m),some (.int e),some (.int many),v]∧Step K H H2 p c rs k c' new k' (14+2 * i)∧Good k k' new∧Ty many true k k' new)
  ⟨v,_,_,_,rfl,t3,g2,y2⟩ ?_ ?_⟩
 ·rintro i σ H2 hi ⟨v,c',new,k',rfl,st,gd,ty⟩
  have l:=st.len
  refine ⟨_,rfl,_,rfl,_,rfl,_,rfl,_,_,rfl,rfl,jt st.gs (kz st.c2 (by lia)) (by show 1≤many - 1;lia) (by show many - 1≤1000;lia) fun x H4 x0 x1 s4=>?_⟩
  have x1:x < many - 1:=x1
  have t4:=st.tick s4
  have l4:=t4.len
  refine ⟨_,_,rfl,rfl,zY t4.gs (by lia) fun H5 s5=>?_⟩
  have L:=zF (show (rs++new).length≤15000 by lia)
  exact ⟨_,_,_,_,rfl,(t4.trans s5).more (by lia),gd.put st.k1 (z98 (by lia) (by lia)) L.1 L.2,(ty.deep z7q (n:=2+x) (by lia) _).cast (by lia)⟩
 rintro σ H4 ⟨v4,c4,n4,k4,rfl,t4,g4,y4⟩
 have t4:=t4.more (show _≤20 by lia)
 have l4:=t4.len
 have last:∀{v5:Option V} {c5:Nat} {n5:List Row} {k5:Nat} {H5:Hp},Step K H H5 p c rs k c5 n5 k5 24→Good k k5 n5→Ty many true k k5 n5→
   tFor (z8I (jE (tOp (rI0 fun i j=>.int (i - j)) (tVar 5) (tC (.int 1))) tNil)) (z3F 6) (z7P (z2N z0X [.non] E0 (jE (tVar 2) (jE (z2N (z02 K) [] E0 (jE (tVar 0) (jE (tVar 1) (jE (tLst (jE (tC (.str "drop")) (jE (tC (.str "tell")) (jE (tC (.str "same")) tNil)))) tNil)))) tNil))))
    { nx:=fun _ H'=>Q .non H',rt:=Q } [some (.ref p.a),some (.ref p.t),some (.ref p.r),some (.ref p.m),some (.int e),some (.int many),v5] H5:=by
  intro v5 c5 n5 k5 H5 t5 g5 y5
  refine ⟨_,rfl,_,_,rfl,rfl,many - 1,rfl,by lia,by lia,jU (lo:=0) (n:=(many - 1).toNat) (fun i σ H2=>∃v c' new k',σ=[some (.ref p.a),some (.ref p.t),some (.ref p.r),some (.ref p.m),some (.int e),some (.int many),v]∧Step K H H2 p c rs k c' new k' (24+2 * i)∧Good k k' new∧Ty (many - i) true k k' new)
   ⟨v5,_,_,_,rfl,t5,g5,y5.cast (by lia)⟩ ?_ ?_⟩
  ·rintro i σ H2 hi ⟨v,c',new,k',rfl,st,gd,ty⟩
   have l:=st.len
   refine ⟨_,rfl,_,rfl,_,rfl,by show 3≤sizeLine;decide,fun x hx=>?_⟩
   refine js st.gs (kz st.c2 (by lia)) hx (by show 1≤3;decide) (by show 3≤1000;decide) fun y H6 hy s6=>?_
   obtain ⟨op,rfl,hb,hpl⟩:=z2d hy
   have t6:=st.tick s6
   have l6:=t6.len
   refine zY t6.gs (by lia) fun H7 s7=>?_
   have L:=zF (show (rs++new).length≤15000 by lia)
   exact ⟨_,_,_,_,rfl,(t6.trans s7).more (by lia),gd.put st.k1 hb L.1 L.2,hpl.elim (fun z=>(ty.row z (by lia) _ _).cast (by lia)) (fun z=>(ty.row z (by lia) _ _).cast (by lia))⟩
  ·rintro σ H2 ⟨v,c',new,k',rfl,st,gd,ty⟩
   exact q _ _ _ _ (st.more (by lia)) gd (ty.cast (by lia))
 refine ⟨_,rfl,_,rfl,jt t4.gs (kz t4.c2 (by lia)) (by decide) (by decide) fun y0 H5 y00 y01 s5=>?_⟩
 have t5:=t4.tick s5
 have l5:=t5.len
 refine ⟨rfl,_,rfl,?_⟩
 refine ite2 (fun _=>?_) (fun _=>last (t5.more (by lia)) g4 y4)
 refine ⟨_,rfl,_,rfl,_,rfl,_,rfl,jt t5.gs (kz t5.c2 (by lia)) (by lia) (by lia) fun z H6 z0 z1 s6=>?_⟩
 have t6:=t5.tick s6
 have l6:=t6.len
 refine ⟨_,_,rfl,rfl,zY t6.gs (by lia) fun H7 s7=>?_⟩
 have t7:=t6.trans s7
 have l7:=t7.len
 refine ⟨_,rfl,zY t7.gs (by lia) fun H8 s8=>?_⟩
 have L6:=zF (show (rs++n4).length≤15000 by lia)
 have L7:=zF (kz t7.len (show _≤15000 by lia))
 exact last ((t7.trans s8).more (by lia)) ((g4.put t4.k1 (z9b (by lia) (by lia)) L6.1 L6.2).put t4.k1 z4h L7.1 L7.2) (((y4.deep z7r (n:=1+z) (by lia) _).row (Zj _ (by simp)) (by lia) _ _).cast (by lia))
end
section
theorem z6y:zi ["_law_script","_law_town_here","_law_rows","_law_marks","_law_deep","_law_way","_law_mark_here"] gps (zc (top 104)):=fsM
theorem QK {v:V} {a b:Str} (h:v∈([.str a,.str b]:List V)) {R:Str→Prop} (ha:R a) (hb:R b):∃op,v=.str op∧R op∧op∈[a,b]:=by
 rcases kH.mp h with e | h
 ·exact ⟨_,e,ha,by simp⟩
 ·exact ⟨_,ku.mp h,hb,by simp⟩
theorem z2b {v:V} (h:v∈([.str "add",.str "sub",.str "mul",.str "div",.str "rest",.str "less",.str "same"]:List V)):∃op,v=.str op∧Bare op .non∧Zu op 2 1:=by
 have all:∀v∈([.str "add",.str "sub",.str "mul",.str "div",.str "rest",.str "less",.str "same"]:List V),∃op,v=.str op∧zX op=some ("none":Str)∧Zu op 2 1:=by
  intro v h
  simp only [kH,ky,or_false] at h
  rcases h with rfl | rfl | rfl | rfl | rfl | rfl | rfl
  all_goals exact ⟨_,rfl,by trivial,z5Y _ (by simp)⟩
 obtain ⟨op,e,hs,hp⟩:=all v h
 exact ⟨op,e,ZR hs,hp⟩
theorem fn_v {n:Nat} (D:zn K mg "_law_value" (top 104)) (S:jD P w K mg base) (FV:FN P w K mg base (3+2 * n) "_law_value" gps (qB K (CV n) 1 true)) (FT:FN P w K mg base (4+2 * n) "_law_tried_value" gps (qB K (CTV n) 1 true))
  (FM:FN P w K mg base (4+2 * n) "_law_moved_value" gps (qB K (CMV n) 1 true)):FN P w K mg base (3+2 * (n+1)) "_law_value" gps (qB K (CV (n+1)) 1 true):=by
 have:=FN.of (k:=4+2 * n) (sp:=qB K (CV (n+1)) 1 true) (P:=P) (w:=w) (base:=base) D z6y (fun _ _ _ _ _ _=>zU5 fun _ _ _ _ _=>rfl) ja (fun f cdv A outer s H vs Q E hr h=>?_)
 ·exact this.mono (by lia)
 obtain ⟨p,c,rs,k,e,B,rfl,⟨d,he,hd,hB⟩,g,bc,br,bk,q⟩:=h
 have hr1:=hr.mono (show 1≤4+2 * n by lia)
 have hr2:=hr.mono (show 2≤4+2 * n by lia)
 have hr3:=hr.mono (show 3≤4+2 * n by lia)
 have hrV:=hr.mono (show 3+2 * n≤4+2 * n by lia)
 have hb3:=Jp d
 refine ⟨_,z8 (zG (i:=5) z6y.nd rfl (Or.inl rfl) (jh (zm JD (pv 4) zg (zq _)) (zo S.draw hr1 rfl (z6 (pv 0) (z6 (pv 1) (z6 zg z7)))) (zo S.draw hr1 rfl (z6 (pv 0) (z6 (pv 1) (z6 zg z7))))))
  (zd (zJ (zm J4 (pv 5) zg (zq _)) (zd (zj (q0 S.put3 hr1 rfl (z6 (pv 2) (z6 zk (z6 (zo S.const hr3 rfl (z6 (pv 0) (z6 (pv 1) z7))) z7))))))
  (zd (zJ (zm J4 (pv 5) zg (zq _)) (zd (zj (q0 S.put3 hr1 rfl (z6 (pv 2) (z6 zk (z6 (zo S.pick hr2 rfl (z6 (pv 0) (z6 (pv 1) (z6 (qq (z6 zk (z6 zk (z6 zk z7)))) z7)))) z7))))))
  (zd (zJ (zm J4 (pv 5) zg (zq _))
   (z8 (zj (zo FV hrV rfl (z6 (pv 0) (z6 (pv 1) (z6 (pv 2) (z6 (pv 3) (z6 (zO j4 (pv 4) zg) z7)))))))
   (z8 (zj (zo FV hrV rfl (z6 (pv 0) (z6 (pv 1) (z6 (pv 2) (z6 (pv 3) (z6 (zO j4 (pv 4) zg) z7)))))))
   (zd (zj (q0 S.put2 hr1 rfl (z6 (pv 2) (z6 (zo S.pick hr2 rfl (z6 (pv 0) (z6 (pv 1) (z6 (qq (z6 zk (z6 zk (z6 zk (z6 zk (z6 zk (z6 zk (z6 zk z7)))))))) z7)))) z7)))))))
  (zd (zJ (zm qJ (pv 5) zg (zq _))
   (z8 (zj (zo FV hrV rfl (z6 (pv 0) (z6 (pv 1) (z6 (pv 2) (z6 (pv 3) (z6 (zO j4 (pv 4) zg) z7)))))))
   (zd (zj (q0 S.put2 hr1 rfl (z6 (pv 2) (z6 (zo S.pick hr2 rfl (z6 (pv 0) (z6 (pv 1) (z6 (qq (z6 zk (z6 zk z7))) z7)))) z7))))))
  (zd (zJ (zm qJ (pv 5) zg (zq _))
   (z8 (zG (i:=6) z6y.nd rfl (Or.inl rfl) (zo S.mark hr1 rfl (z6 (pv 3) z7)))
   (z8 (zj (zo FV hrV rfl (z6 (pv 0) (z6 (pv 1) (z6 (pv 2) (z6 (pv 3) (z6 (zO j4 (pv 4) zg) z7)))))))
   (z8 (zj (q0 S.put3 hr1 rfl (z6 (pv 2) (z6 (zo S.pick hr2 rfl (z6 (pv 0) (z6 (pv 1) (z6 (qq (z6 zk (z6 zk z7))) z7)))) (z6 (pv 6) z7)))))
   (z8 (zj (zo FV hrV rfl (z6 (pv 0) (z6 (pv 1) (z6 (pv 2) (z6 (pv 3) (z6 (zO j4 (pv 4) zg) z7)))))))
   (zd (zj (q0 S.put3 hr1 rfl (z6 (pv 2) (z6 zk (z6 (pv 6) z7))))))))))
  (zd (zJ (zm qJ (pv 5) zg (zq _))
   (zd (zj (zo FT hr rfl (z6 (pv 0) (z6 (pv 1) (z6 (pv 2) (z6 (pv 3) (z6 (pv 4) z7))))))))
   (zd (zj (zo FM hr rfl (z6 (pv 0) (z6 (pv 1) (z6 (pv 2) (z6 (pv 3) (z6 (pv 4) z7)))))))))))))))))))) ,?_⟩
 try dsimp only [L2.cxOf,L2.Cx.nox]
 refine ⟨_,rfl,_,_,rfl,rfl,_,rfl,?_⟩
 refine ite2 (fun c0=>?_) (fun c0=>?_)
 all_goals
  refine ⟨_,rfl,_,rfl,jt g (by lia) (by decide) (by decide) fun i H1 i0 i1 s1=>?_⟩
  have i12:i < 12:=by lia
  have i4:e≤0→i < 4:=fun z=>by
   first
    | exact i1
    | (have:=kG c0;lia)
  have l1:=s1.len
  refine ⟨_,rfl,_,_,rfl,rfl,_,rfl,?_⟩
  refine ite2 (fun c1=>?_) (fun c1=>?_)
  ·refine ⟨_,rfl,_,rfl,_,rfl,z4B s1.gs (kz s1.c2 (by lia)) fun v H2 hv hvo s2=>?_⟩
   have t2:=s1.tick s2
   have l2:=t2.len
   refine zY t2.gs (by lia) fun H3 s3=>?_
   have L:=zF (kz t2.len (show _≤15000 by lia))
   exact q _ _ _ _ ((t2.trans s3).more (by lia)) ((Good.nil k).put (kh _) (z9a hv hvo) L.1 L.2) (((Ty.nil k).row z6C (by decide) _ _).cast (by decide))
  ·refine ⟨_,rfl,_,_,rfl,rfl,_,rfl,?_⟩
   refine ite2 (fun c2=>?_) (fun c2=>?_)
   ·refine ⟨_,rfl,_,rfl,_,rfl,by show 3≤sizeLine;decide,fun x hx=>?_⟩
    refine js s1.gs (kz s1.c2 (by lia)) hx (by show 1≤3;decide) (by show 3≤1000;decide) fun v H2 hv s2=>?_
    have t2:=s1.tick s2
    have l2:=t2.len
    refine zY t2.gs (by lia) fun H3 s3=>?_
    have L:=zF (kz t2.len (show _≤15000 by lia))
    exact q _ _ _ _ ((t2.trans s3).more (by lia)) ((Good.nil k).put (kh _) (z68 hv) L.1 L.2) (((Ty.nil k).row z3f (by decide) _ _).cast (by decide))
   ·have c2:¬i < 4:=fun z=>c2 (kl z)
    have e0:¬e≤0:=fun z=>c2 (i4 z)
    obtain ⟨d',rfl⟩:∃d',d=d'+1:=⟨d - 1,by lia⟩
    have eB:bV (d'+1)=2 * bV d'+25:=rfl
    have cv:CV n (e - 1) (bV d'):=⟨d',by lia,by lia,rfl⟩
    refine ⟨_,rfl,_,_,rfl,rfl,_,rfl,?_⟩
    refine ite2 (fun c3=>?_) (fun c3=>?_)
    ·refine ⟨_,rfl,_,rfl,_,rfl,_,rfl,_,rfl,_,_,rfl,rfl,p,_,_,_,_,bV d',rfl,cv,s1.gs,(by have:=s1.c2;lia),(by lia),(by have:=s1.k2;lia),fun c4 n4 k4 H4 s4 g4 y4=>?_⟩
     have t4:=s1.trans s4
     have l4:=t4.len
     refine ⟨_,rfl,_,rfl,_,rfl,_,rfl,_,rfl,_,_,rfl,rfl,p,_,_,_,_,bV d',rfl,cv,t4.gs,(by have:=t4.c2;lia),(by lia),(by have:=t4.k2;lia),fun c5 n5 k5 H5 s5 g5 y5=>?_⟩
     have t5:=t4.trans s5
     have l5:=t5.len
     refine ⟨_,rfl,_,rfl,_,rfl,by show 7≤sizeLine;decide,fun x hx=>?_⟩
     refine js t5.gs (kz t5.c2 (by lia)) hx (by show 1≤7;decide) (by show 7≤1000;decide) fun v H6 hv s6=>?_
     obtain ⟨op,rfl,hb,hpl⟩:=z2b hv
     have t6:=t5.tick s6
     refine zY t6.gs (kz t6.len (by lia)) fun H7 s7=>?_
     have L:=zF (kz t6.len (show _≤15000 by lia))
     exact q _ _ _ _ ((t6.trans s7).more (by lia)) ((((Good.nil k).app g4 (kh _) s4.k1).app g5 s4.k1 s5.k1).put t5.k1 hb L.1 L.2) (((y4.app y5 s4.k1 s5.k1 (by decide)).row hpl (by decide) _ _).cast (by decide))
    ·refine ⟨_,rfl,rfl,_,rfl,?_⟩
     refine ite2 (fun c4=>?_) (fun c4=>?_)
     ·refine ⟨_,rfl,_,rfl,_,rfl,_,rfl,_,rfl,_,_,rfl,rfl,p,_,_,_,_,bV d',rfl,cv,s1.gs,(by have:=s1.c2;lia),(by lia),(by have:=s1.k2;lia),fun c4 n4 k4 H4 s4 g4 y4=>?_⟩
      have t4:=s1.trans s4
      have l4:=t4.len
      refine ⟨_,rfl,_,rfl,_,rfl,by show 2≤sizeLine;decide,fun x hx=>?_⟩
      refine js t4.gs (kz t4.c2 (by lia)) hx (by show 1≤2;decide) (by show 2≤1000;decide) fun v H6 hv s6=>?_
      obtain ⟨op,rfl,hb,hmem⟩:=QK hv (R:=fun op=>Bare op .non) (ZR (by trivial)) (ZR (by trivial))
      have t6:=t4.tick s6
      refine zY t6.gs (kz t6.len (by lia)) fun H7 s7=>?_
      have L:=zF (kz t6.len (show _≤15000 by lia))
      exact q _ _ _ _ ((t6.trans s7).more (by lia)) (((Good.nil k).app g4 (kh _) s4.k1).put t4.k1 hb L.1 L.2) ((y4.row (z8j _ hmem) (by decide) _ _).cast (by decide))
     ·refine ⟨_,rfl,rfl,_,rfl,?_⟩
      refine ite2 (fun c5=>?_) (fun c5=>?_)
      ·refine ⟨_,rfl,Ju s1.gs (kz s1.k2 (by lia)) fun H2 s2=>?_⟩
       have t2:=s1.tick s2
       refine ⟨_,rfl,_,rfl,_,rfl,_,rfl,_,rfl,_,_,rfl,rfl,p,_,_,_,_,bV d',rfl,cv,t2.gs,(kz (Nat.add_le_add_right t2.c2 _) (by lia)),(kz (Nat.add_le_add_right t2.len _) (by lia)),(kz (Nat.add_le_add_right t2.k2 _) (by lia)),fun c4 n4 k4 H4 s4 g4 y4=>?_⟩
       have t4:=t2.trans s4
       refine ⟨_,rfl,_,rfl,_,rfl,by show 2≤sizeLine;decide,fun x hx=>?_⟩
       refine js t4.gs (kz t4.c2 (by lia)) hx (by show 1≤2;decide) (by show 2≤1000;decide) fun v H5 hv s5=>?_
       obtain ⟨op,rfl,hb,hmem⟩:=QK hv (R:=Uses) z9f z9g
       have t5:=t4.tick s5
       refine ⟨_,rfl,zY t5.gs (kz t5.len (by lia)) fun H6 s6=>?_⟩
       have t6:=t5.trans s6
       refine ⟨_,rfl,_,rfl,_,rfl,_,rfl,_,rfl,_,_,rfl,rfl,p,_,_,_,_,bV d',rfl,cv,t6.gs,(kz (Nat.add_le_add_right t6.c2 _) (by lia)),(kz (Nat.add_le_add_right t6.len _) (by lia)),(kz (Nat.add_le_add_right t6.k2 _) (by lia)),fun c7 n7 k7 H7 s7 g7 y7=>?_⟩
       have t7:=t6.trans s7
       refine ⟨_,rfl,_,rfl,zY t7.gs (kz t7.len (by lia)) fun H8 s8=>?_⟩
       have L5:=zF (kz t5.len (show _≤15000 by lia))
       have L7:=zF (kz t7.len (show _≤15000 by lia))
       refine q _ _ _ _ ((t7.trans s8).more (by lia)) ⟨((((AllG.nil.app g4.row).app (AllG.one (hb.rowG L5.1 L5.2))).app g7.row).app (AllG.one (qR L7.1 L7.2))),fun m=>?_,fun m h=>?_,fun m h=>?_,fun m ha hb'=>?_⟩ (Ty.orv y4 y7 s4.k1 s7.k1 hmem _ _)
       ·simp only [zS,qe,qf,hb.noLab]
        have:=g4.lab1 m;have:=g4.labI m;have:=g7.lab1 m;have:=g7.labI m;have:=qd m k;have:=s4.k1
        lia
       ·simp only [zS,qe,qf,hb.noLab] at h
        have:=g4.labI m;have:=g7.labI m;have:=qd m k;have:=s4.k1;have:=s7.k1
        lia
       ·simp only [Zf,ZT,ZU,hb.use] at h
        simp only [zS,qe,qf,hb.noLab]
        have:=g4.useI m;have:=g7.useI m
        lia
       ·simp only [zS,qe,qf,hb.noLab]
        have:=g4.labA m;have:=g7.labA m;have:=qd m k
        lia
      ·refine ⟨_,rfl,rfl,_,rfl,?_⟩
       refine ite2 (fun c6=>?_) (fun c6=>?_)
       ·refine ⟨_,rfl,_,rfl,_,rfl,_,rfl,_,rfl,p,_,_,_,_,bV d'+7,rfl,⟨d',by lia,by lia,rfl⟩,s1.gs,(by have:=s1.c2;lia),(by lia),(by have:=s1.k2;lia),fun c4 n4 k4 H4 s4 g4 y4=>?_⟩
        exact q _ _ _ _ ((s1.trans s4).more (by lia)) ((Good.nil k).app g4 (kh _) s4.k1) y4
       ·refine ⟨_,rfl,_,rfl,_,rfl,_,rfl,_,rfl,p,_,_,_,_,30,rfl,⟨by lia,rfl⟩,s1.gs,(by have:=s1.c2;have:=Jp d';lia),(by have:=Jp d';lia),(by have:=s1.k2;have:=Jp d';lia),fun c4 n4 k4 H4 s4 g4 y4=>?_⟩
        exact q _ _ _ _ ((s1.trans s4).more (by have:=Jp d';lia)) ((Good.nil k).app g4 (kh _) s4.k1) y4
theorem z1T {name:Str} {st:Stmt} {k:Nat} {C:Int→Nat→Prop} {δ:Int} {su:Bool} (D:zn K mg name st) (hb:∀(kV doc pm:Value) (an:Option Addr) (cdv ct:Value) (us:List Value),us.length=gps.length→bindArgs (PySem.W.fnOf name name (qr st) (zK st) (zc st) .none kV doc pm an cdv ct) ⟨us,[]⟩=pure (gps.zip us))
  (no:∀e B,¬C e B):FN P w K mg base k name gps (qB K C δ su):=by
 obtain ⟨f,fd,F,m⟩:=D
 have no':∀vs H Q E,¬qB K C δ su vs H Q E:=fun vs H Q E h=>by
  obtain ⟨_,_,_,_,e,B,_,hc,_⟩:=h
  exact no e B hc
 exact ⟨f,fd,m,F.kp,F.binds hb,⟨fun vs H Q E h=>absurd h (no' vs H Q E),fun A outer s H args us vs Q E _ _ _ _ h=>absurd h (no' vs H Q E)⟩⟩
theorem z0u (DV:zn K mg "_law_value" (top 104)) (DT:zn K mg "_law_tried_value" (top 105)) (DM:zn K mg "_law_moved_value" (top 106)) (G:Glo mg) (S:jD P w K mg base):∀n,FN P w K mg base (3+2 * n) "_law_value" gps (qB K (CV n) 1 true)
 | 0=>z1T DV (fun _ _ _ _ _ _=>zU5 fun _ _ _ _ _=>rfl) fun e B ⟨d,_,h,_⟩=>absurd h (Nat.not_lt_zero _)
 | n+1=>by
  have ih:=z0u DV DT DM G S n
  exact fn_v DV S ih (z9Q DT S ih) (z9U DM G S ih)
end
noncomputable def bD:Nat→Nat
 | 0=>92
 | d+1=>2 * bD d+200
theorem z0N:∀d,92≤bD d
 | 0=>kh _
 | d+1=>by have:=z0N d;show 92≤2 * bD d+200;lia
def CD (n:Nat) (e:Int) (B:Nat):Prop:=∃d:Nat,e=(d:Int)∧d < n∧B=bD d
def CC (n:Nat) (e:Int) (B:Nat):Prop:=∃d:Nat,e=(d:Int)+1∧d < n∧B=2 * bD d+150
theorem Ty.choice0 {k k1 k2:Nat} {l1 l2:List Row} {s2:Bool} (x:Ty 1 true (k+2) k1 l1) (y:Ty 0 s2 k1 k2 l2) (h1:k+2≤k1) (h2:k1≤k2) {op:Str} (ho:op∈(["iftrue","iffalse"]:List Str)) (a b c e:Int):
  Ty 0 true k k2 (l1++[⟨op,.int (k:Int),a⟩]++l2++[⟨"jump",.int ((k+1:Nat):Int),b⟩]++[⟨"label",.int (k:Int),c⟩]++[⟨"label",.int ((k+1:Nat):Int),e⟩]):=by
 have:=Ty.choice x y (Ty.nil k2) h1 h2 (kh _) ho a b c e
 rw [kZ] at this
 exact this
theorem cv1:CV 3 1 31:=⟨1,rfl,by decide,rfl⟩
theorem cv2:CV 3 2 87:=⟨2,rfl,by decide,rfl⟩
theorem cv0:CV 3 0 3:=⟨0,rfl,by decide,rfl⟩
section
theorem z87:zi ["_law_script","_law_town_here","_law_rows","_law_marks","_law_deep","_law_other","_law_end"] gps (zc (top 108)):=fsM
theorem z3M {n:Nat} (D:zn K mg "_law_choice" (top 108)) (S:jD P w K mg base) (FV:FN P w K mg base 9 "_law_value" gps (qB K (CV 3) 1 true)) (FD:FN P w K mg base (10+2 * n) "_law_deed" gps (qB K (CD n) 0 false)):FN P w K mg base (11+2 * n) "_law_choice" gps (qB K (CC n) 0 false):=by
 have:=FN.of (k:=10+2 * n) (sp:=qB K (CC n) 0 false) (P:=P) (w:=w) (base:=base) D z87 (fun _ _ _ _ _ _=>zU5 fun _ _ _ _ _=>rfl) ja (fun f cdv A outer s H vs Q E hr h=>?_)
 ·exact this.mono (by lia)
 obtain ⟨p,c,rs,k,e,B,rfl,⟨d,he,hd,hB⟩,g,bc,br,bk,q⟩:=h
 have hr1:=hr.mono (show 1≤10+2 * n by lia)
 have hr2:=hr.mono (show 2≤10+2 * n by lia)
 have hr9:=hr.mono (show 9≤10+2 * n by lia)
 have bp:=z0N d
 have cd:CD n (e - 1) (bD d):=⟨d,by lia,hd,rfl⟩
 refine ⟨_,z8 (Qb (i:=5) (j:=6) rfl z87.nd rfl rfl (by decide) rfl rfl (z6 (zo S.mark hr1 rfl (z6 (pv 3) z7)) (z6 (zo S.mark hr1 rfl (z6 (pv 3) z7)) z7)) rfl)
  (z8 (zj (zo FV hr9 rfl (z6 (pv 0) (z6 (pv 1) (z6 (pv 2) (z6 (pv 3) (z6 zg z7)))))))
  (z8 (zj (q0 S.put3 hr1 rfl (z6 (pv 2) (z6 (zo S.pick hr2 rfl (z6 (pv 0) (z6 (pv 1) (z6 (qq (z6 zk (z6 zk z7))) z7)))) (z6 (pv 5) z7)))))
  (z8 (zj (zo FD hr rfl (z6 (pv 0) (z6 (pv 1) (z6 (pv 2) (z6 (pv 3) (z6 (zO j4 (pv 4) zg) z7)))))))
  (z8 (zj (q0 S.put3 hr1 rfl (z6 (pv 2) (z6 zk (z6 (pv 6) z7)))))
  (z8 (zj (q0 S.put3 hr1 rfl (z6 (pv 2) (z6 zk (z6 (pv 5) z7)))))
  (z8 (zJ (zm qJ (zo S.draw hr1 rfl (z6 (pv 0) (z6 (pv 1) (z6 zg z7)))) zg (zq _))
   (zd (zj (zo FD hr rfl (z6 (pv 0) (z6 (pv 1) (z6 (pv 2) (z6 (pv 3) (z6 (zO j4 (pv 4) zg) z7)))))))) zw)
  (zd (zj (q0 S.put3 hr1 rfl (z6 (pv 2) (z6 zk (z6 (pv 6) z7)))))))))))) ,?_⟩
 try dsimp only [L2.cxOf,L2.Cx.nox]
 refine ⟨_,rfl,Ju g (by lia) fun H1 s1=>?_⟩
 refine ⟨_,rfl,Ju s1.gs (kz s1.k2 (by lia)) fun H2 s2=>?_⟩
 refine ⟨_,_,rfl,?_⟩
 have t2:=s1.tick s2
 refine ⟨_,rfl,_,rfl,_,rfl,_,rfl,p,_,_,_,_,31,rfl,cv1,t2.gs,(kz (Nat.add_le_add_right t2.c2 _) (by lia)),(kz (Nat.add_le_add_right t2.len _) (by lia)),(kz (Nat.add_le_add_right t2.k2 _) (by lia)),fun c3 n3 k3 H3 s3 g3 y3=>?_⟩
 have t3:=t2.trans s3
 refine ⟨_,rfl,_,rfl,_,rfl,by show 2≤sizeLine;decide,fun x hx=>?_⟩
 refine js t3.gs (kz t3.c2 (by lia)) hx (by show 1≤2;decide) (by show 2≤1000;decide) fun v H4 hv s4=>?_
 obtain ⟨op,rfl,hb,hmem⟩:=QK hv (R:=Uses) z0Q z9h
 have hmem:op∈(["iftrue","iffalse"]:List Str):=by
  rcases kH.mp hmem with z | z
  ·rw [z];decide+kernel
  ·rw [ku.mp z];decide+kernel
 have t4:=t3.tick s4
 refine ⟨_,rfl,zY t4.gs (kz t4.len (by lia)) fun H5 s5=>?_⟩
 have t5:=t4.trans s5
 refine ⟨_,rfl,_,rfl,_,rfl,_,rfl,_,rfl,_,_,rfl,rfl,p,_,_,_,_,bD d,rfl,cd,t5.gs,(kz (Nat.add_le_add_right t5.c2 _) (by lia)),(kz (Nat.add_le_add_right t5.len _) (by lia)),(kz (Nat.add_le_add_right t5.k2 _) (by lia)),fun c6 n6 k6 H6 s6 g6 y6=>?_⟩
 have t6:=t5.trans s6
 refine ⟨_,rfl,_,rfl,zY t6.gs (kz t6.len (by lia)) fun H7 s7=>?_⟩
 have t7:=t6.trans s7
 refine ⟨_,rfl,_,rfl,zY t7.gs (kz t7.len (by lia)) fun H8 s8=>?_⟩
 have t8:=t7.trans s8
 refine ⟨_,rfl,_,rfl,jt t8.gs (kz t8.c2 (by lia)) (by decide) (by decide) fun y0 H9 y00 y01 s9=>?_⟩
 have t9:=t8.tick s9
 have L4:=zF (kz t4.len (show _≤15000 by lia))
 have L6:=zF (kz t6.len (show _≤15000 by lia))
 have L7:=zF (kz t7.len (show _≤15000 by lia))
 have all9:=((((AllG.nil.app g3.row).app (AllG.one (hb.rowG (j:=k) L4.1 L4.2))).app g6.row).app (AllG.one (qj.rowG (j:=k+1) L6.1 L6.2))).app (AllG.one (qR (j:=k) L7.1 L7.2))
 refine ⟨rfl,_,rfl,?_⟩
 refine ite2 (fun _=>?_) (fun _=>?_)
 ·refine ⟨_,rfl,_,rfl,_,rfl,_,rfl,_,rfl,_,_,rfl,rfl,p,_,_,_,_,bD d,rfl,cd,t9.gs,(kz (Nat.add_le_add_right t9.c2 _) (by lia)),(kz (Nat.add_le_add_right t9.len _) (by lia)),(kz (Nat.add_le_add_right t9.k2 _) (by lia)),fun cA nA kA HA sA gA yA=>?_⟩
  have tA:=t9.trans sA
  refine ⟨_,rfl,_,rfl,zY tA.gs (kz tA.len (by lia)) fun HB sB=>?_⟩
  have LA:=zF (kz tA.len (show _≤15000 by lia))
  refine q _ _ _ _ ((tA.trans sB).more (by lia)) ⟨(all9.app gA.row).app (AllG.one (qR LA.1 LA.2)),fun m=>?_,fun m h=>?_,fun m h=>?_,fun m ha hb'=>?_⟩ (Ty.choice y3 y6 yA s3.k1 s6.k1 sA.k1 hmem _ _ _ _).weak
  ·simp only [zS,qe,qf,hb.noLab,qj.noLab]
   exact la31 (g3.lab1 m) (g3.labI m) (g6.lab1 m) (g6.labI m) (gA.lab1 m) (gA.labI m) (qd m k) (qd m (k+1)) s3.k1 s6.k1
  ·simp only [zS,qe,qf,hb.noLab,qj.noLab] at h
   exact la32 h (g3.labI m) (g6.labI m) (gA.labI m) (qd m k) (qd m (k+1)) s3.k1 s6.k1 sA.k1
  ·simp only [Zf,ZT,ZU,hb.use,qj.use] at h
   simp only [zS,qe,qf,hb.noLab,qj.noLab]
   have:=g3.useI m;have:=g6.useI m;have:=gA.useI m
   lia
  ·simp only [zS,qe,qf,hb.noLab,qj.noLab]
   exact la34 ha hb' (g3.labA m) (g6.labA m) (gA.labA m) (qd m k) (qd m (k+1))
 ·refine ⟨_,rfl,_,rfl,zY t9.gs (kz t9.len (by lia)) fun HB sB=>?_⟩
  have LA:=zF (kz t9.len (show _≤15000 by lia))
  refine q _ _ _ _ ((t9.trans sB).more (by lia)) ⟨all9.app (AllG.one (qR LA.1 LA.2)),fun m=>?_,fun m h=>?_,fun m h=>?_,fun m ha hb'=>?_⟩ (Ty.choice0 y3 y6 s3.k1 s6.k1 hmem _ _ _ _).weak
  ·simp only [zS,qe,qf,hb.noLab,qj.noLab]
   exact la31 (c:=0) (kc:=k6) (g3.lab1 m) (g3.labI m) (g6.lab1 m) (g6.labI m) (Nat.zero_le 1) (fun z=>absurd rfl z) (qd m k) (qd m (k+1)) s3.k1 s6.k1
  ·simp only [zS,qe,qf,hb.noLab,qj.noLab] at h
   exact la32 (c:=0) h (g3.labI m) (g6.labI m) (fun z=>absurd rfl z) (qd m k) (qd m (k+1)) s3.k1 s6.k1 (kh _)
  ·simp only [Zf,ZT,ZU,hb.use,qj.use] at h
   simp only [zS,qe,qf,hb.noLab,qj.noLab]
   have:=g3.useI m;have:=g6.useI m
   lia
  ·simp only [zS,qe,qf,hb.noLab,qj.noLab]
   exact la34 (c:=0) ha hb' (g3.labA m) (g6.labA m) (fun x y=>absurd y (Nat.not_lt.mpr x)) (qd m k) (qd m (k+1))
theorem z86:zi ["_law_script","_law_town_here","_law_rows","_law_marks","_law_deep","_law_begin","_law_end"] gps (zc (top 109)):=fsM
theorem z5b {n:Nat} (D:zn K mg "_law_round" (top 109)) (S:jD P w K mg base) (FV:FN P w K mg base 9 "_law_value" gps (qB K (CV 3) 1 true)) (FD:FN P w K mg base (10+2 * n) "_law_deed" gps (qB K (CD n) 0 false)):FN P w K mg base (11+2 * n) "_law_round" gps (qB K (CC n) 0 false):=by
 have:=FN.of (k:=10+2 * n) (sp:=qB K (CC n) 0 false) (P:=P) (w:=w) (base:=base) D z86 (fun _ _ _ _ _ _=>zU5 fun _ _ _ _ _=>rfl) ja (fun f cdv A outer s H vs Q E hr h=>?_)
 ·exact this.mono (by lia)
 obtain ⟨p,c,rs,k,e,B,rfl,⟨d,he,hd,hB⟩,g,bc,br,bk,q⟩:=h
 have hr1:=hr.mono (show 1≤10+2 * n by lia)
 have hr9:=hr.mono (show 9≤10+2 * n by lia)
 have bp:=z0N d
 have cd:CD n (e - 1) (bD d):=⟨d,by lia,hd,rfl⟩
 refine ⟨_,z8 (Qb (i:=5) (j:=6) rfl z86.nd rfl rfl (by decide) rfl rfl (z6 (zo S.mark hr1 rfl (z6 (pv 3) z7)) (z6 (zo S.mark hr1 rfl (z6 (pv 3) z7)) z7)) rfl)
  (z8 (zj (q0 S.put3 hr1 rfl (z6 (pv 2) (z6 zk (z6 (pv 5) z7)))))
  (z8 (zj (zo FV hr9 rfl (z6 (pv 0) (z6 (pv 1) (z6 (pv 2) (z6 (pv 3) (z6 zg z7)))))))
  (z8 (zj (q0 S.put3 hr1 rfl (z6 (pv 2) (z6 zk (z6 (pv 6) z7)))))
  (z8 (zj (zo FD hr rfl (z6 (pv 0) (z6 (pv 1) (z6 (pv 2) (z6 (pv 3) (z6 (zO j4 (pv 4) zg) z7)))))))
  (z8 (zj (q0 S.put3 hr1 rfl (z6 (pv 2) (z6 zk (z6 (pv 5) z7)))))
  (zd (zj (q0 S.put3 hr1 rfl (z6 (pv 2) (z6 zk (z6 (pv 6) z7))))))))))),?_⟩
 try dsimp only [L2.cxOf,L2.Cx.nox]
 refine ⟨_,rfl,Ju g (by lia) fun H1 s1=>?_⟩
 refine ⟨_,rfl,Ju s1.gs (kz s1.k2 (by lia)) fun H2 s2=>?_⟩
 refine ⟨_,_,rfl,?_⟩
 have t2:=s1.tick s2
 refine ⟨_,rfl,_,rfl,zY t2.gs (kz t2.len (by lia)) fun H3 s3=>?_⟩
 have t3:=t2.trans s3
 refine ⟨_,rfl,_,rfl,_,rfl,_,rfl,p,_,_,_,_,31,rfl,cv1,t3.gs,(kz (Nat.add_le_add_right t3.c2 _) (by lia)),(kz (Nat.add_le_add_right t3.len _) (by lia)),(kz (Nat.add_le_add_right t3.k2 _) (by lia)),fun c4 n4 k4 H4 s4 g4 y4=>?_⟩
 have t4:=t3.trans s4
 refine ⟨_,rfl,_,rfl,zY t4.gs (kz t4.len (by lia)) fun H5 s5=>?_⟩
 have t5:=t4.trans s5
 refine ⟨_,rfl,_,rfl,_,rfl,_,rfl,_,rfl,_,_,rfl,rfl,p,_,_,_,_,bD d,rfl,cd,t5.gs,(kz (Nat.add_le_add_right t5.c2 _) (by lia)),(kz (Nat.add_le_add_right t5.len _) (by lia)),(kz (Nat.add_le_add_right t5.k2 _) (by lia)),fun c6 n6 k6 H6 s6 g6 y6=>?_⟩
 have t6:=t5.trans s6
 refine ⟨_,rfl,_,rfl,zY t6.gs (kz t6.len (by lia)) fun H7 s7=>?_⟩
 have t7:=t6.trans s7
 refine ⟨_,rfl,_,rfl,zY t7.gs (kz t7.len (by lia)) fun H8 s8=>?_⟩
 have L2:=zF (kz t2.len (show _≤15000 by lia))
 have L4:=zF (kz t4.len (show _≤15000 by lia))
 have L6:=zF (kz t6.len (show _≤15000 by lia))
 have L7:=zF (kz t7.len (show _≤15000 by lia))
 refine q _ _ _ _ ((t7.trans s8).more (by lia)) ⟨((((((AllG.nil.app (AllG.one (qR L2.1 L2.2))).app g4.row).app (AllG.one (z0Q.rowG L4.1 L4.2))).app g6.row).app (AllG.one (qj.rowG L6.1 L6.2))).app (AllG.one (qR L7.1 L7.2))),fun m=>?_,fun m h=>?_,fun m h=>?_,fun m ha hb'=>?_⟩ (Ty.round y4 y6 s4.k1 s6.k1 _ _ _ _).weak
 ·simp only [zS,qe,qf,z0Q.noLab,qj.noLab]
  have:=g4.lab1 m;have:=g4.labI m;have:=g6.lab1 m;have:=g6.labI m;have:=qd m k;have:=qd m (k+1);have:=s4.k1
  lia
 ·simp only [zS,qe,qf,z0Q.noLab,qj.noLab] at h
  have:=g4.labI m;have:=g6.labI m;have:=qd m k;have:=qd m (k+1);have:=s4.k1;have:=s6.k1
  lia
 ·simp only [Zf,ZT,ZU,z0Q.use,qj.use] at h
  simp only [zS,qe,qf,z0Q.noLab,qj.noLab]
  have:=g4.useI m;have:=g6.useI m
  lia
 ·simp only [zS,qe,qf,z0Q.noLab,qj.noLab]
  have:=g4.labA m;have:=g6.labA m;have:=qd m k;have:=qd m (k+1)
  lia
theorem z85:zi ["_law_script","_law_town_here","_law_rows","_law_marks","_law_deep","_law_hand","_law_end"] gps (zc (top 110)):=fsM
theorem z3g {v:V} (h:v∈([.str "drop",.str "tell",.str "raise"]:List V)):∃op,v=.str op∧Bare op .non∧op∈(["drop","tell","raise"]:List Str):=by
 rcases kH.mp h with e | h
 ·exact ⟨_,e,z4h,by simp⟩
 ·rcases kH.mp h with e | h
  ·exact ⟨_,e,z4f,by simp⟩
  ·exact ⟨_,ku.mp h,z4g,by simp⟩
theorem z59 {n:Nat} (D:zn K mg "_law_tried" (top 110)) (S:jD P w K mg base) (FD:FN P w K mg base (10+2 * n) "_law_deed" gps (qB K (CD n) 0 false)):FN P w K mg base (11+2 * n) "_law_tried" gps (qB K (CC n) 0 false):=by
 have:=FN.of (k:=10+2 * n) (sp:=qB K (CC n) 0 false) (P:=P) (w:=w) (base:=base) D z85 (fun _ _ _ _ _ _=>zU5 fun _ _ _ _ _=>rfl) ja (fun f cdv A outer s H vs Q E hr h=>?_)
 ·exact this.mono (by lia)
 obtain ⟨p,c,rs,k,e,B,rfl,⟨d,he,hd,hB⟩,g,bc,br,bk,q⟩:=h
 have hr1:=hr.mono (show 1≤10+2 * n by lia)
 have hr2:=hr.mono (show 2≤10+2 * n by lia)
 have bp:=z0N d
 have cd:CD n (e - 1) (bD d):=⟨d,by lia,hd,rfl⟩
 have cd0:CD n 0 92:=⟨0,rfl,by lia,rfl⟩
 refine ⟨_,z8 (Qb (i:=5) (j:=6) rfl z85.nd rfl rfl (by decide) rfl rfl (z6 (zo S.mark hr1 rfl (z6 (pv 3) z7)) (z6 (zo S.mark hr1 rfl (z6 (pv 3) z7)) z7)) rfl)
  (z8 (zj (q0 S.put3 hr1 rfl (z6 (pv 2) (z6 zk (z6 (pv 5) z7)))))
  (z8 (zj (zo FD hr rfl (z6 (pv 0) (z6 (pv 1) (z6 (pv 2) (z6 (pv 3) (z6 (zO j4 (pv 4) zg) z7)))))))
  (z8 (zj (zo FD hr rfl (z6 (pv 0) (z6 (pv 1) (z6 (pv 2) (z6 (pv 3) (z6 zg z7)))))))
  (z8 (zj (q0 S.put2 hr1 rfl (z6 (pv 2) (z6 zk z7))))
  (z8 (zj (q0 S.put3 hr1 rfl (z6 (pv 2) (z6 zk (z6 (pv 6) z7)))))
  (z8 (zj (q0 S.put3 hr1 rfl (z6 (pv 2) (z6 zk (z6 (pv 5) z7)))))
  (z8 (zj (q0 S.put2 hr1 rfl (z6 (pv 2) (z6 (zo S.pick hr2 rfl (z6 (pv 0) (z6 (pv 1) (z6 (qq (z6 zk (z6 zk (z6 zk z7)))) z7)))) z7))))
  (z8 (zj (zo FD hr rfl (z6 (pv 0) (z6 (pv 1) (z6 (pv 2) (z6 (pv 3) (z6 zg z7)))))))
  (zd (zj (q0 S.put3 hr1 rfl (z6 (pv 2) (z6 zk (z6 (pv 6) z7)))))))))))))) ,?_⟩
 try dsimp only [L2.cxOf,L2.Cx.nox]
 refine ⟨_,rfl,Ju g (by lia) fun H1 s1=>?_⟩
 refine ⟨_,rfl,Ju s1.gs (kz s1.k2 (by lia)) fun H2 s2=>?_⟩
 refine ⟨_,_,rfl,?_⟩
 have t2:=s1.tick s2
 refine ⟨_,rfl,_,rfl,zY t2.gs (kz t2.len (by lia)) fun H3 s3=>?_⟩
 have t3:=t2.trans s3
 refine ⟨_,rfl,_,rfl,_,rfl,_,rfl,_,rfl,_,_,rfl,rfl,p,_,_,_,_,bD d,rfl,cd,t3.gs,(kz (Nat.add_le_add_right t3.c2 _) (by lia)),(kz (Nat.add_le_add_right t3.len _) (by lia)),(kz (Nat.add_le_add_right t3.k2 _) (by lia)),fun c4 n4 k4 H4 s4 g4 y4=>?_⟩
 have t4:=t3.trans s4
 refine ⟨_,rfl,_,rfl,_,rfl,_,rfl,p,_,_,_,_,92,rfl,cd0,t4.gs,(kz (Nat.add_le_add_right t4.c2 _) (by lia)),(kz (Nat.add_le_add_right t4.len _) (by lia)),(kz (Nat.add_le_add_right t4.k2 _) (by lia)),fun c5 n5 k5 H5 s5 g5 y5=>?_⟩
 have t5:=t4.trans s5
 refine ⟨_,rfl,zY t5.gs (kz t5.len (by lia)) fun H6 s6=>?_⟩
 have t6:=t5.trans s6
 refine ⟨_,rfl,_,rfl,zY t6.gs (kz t6.len (by lia)) fun H7 s7=>?_⟩
 have t7:=t6.trans s7
 refine ⟨_,rfl,_,rfl,zY t7.gs (kz t7.len (by lia)) fun H8 s8=>?_⟩
 have t8:=t7.trans s8
 refine ⟨_,rfl,_,rfl,_,rfl,by show 3≤sizeLine;decide,fun x hx=>?_⟩
 refine js t8.gs (kz t8.c2 (by lia)) hx (by show 1≤3;decide) (by show 3≤1000;decide) fun v H9 hv s9=>?_
 obtain ⟨op,rfl,hb,hmem⟩:=z3g hv
 have t9:=t8.tick s9
 refine zY t9.gs (kz t9.len (by lia)) fun HA sA=>?_
 have tA:=t9.trans sA
 refine ⟨_,rfl,_,rfl,_,rfl,_,rfl,p,_,_,_,_,92,rfl,cd0,tA.gs,(kz (Nat.add_le_add_right tA.c2 _) (by lia)),(kz (Nat.add_le_add_right tA.len _) (by lia)),(kz (Nat.add_le_add_right tA.k2 _) (by lia)),fun cB nB kB HB sB gB yB=>?_⟩
 have tB:=tA.trans sB
 refine ⟨_,rfl,_,rfl,zY tB.gs (kz tB.len (by lia)) fun HC sC=>?_⟩
 have L2:=zF (kz t2.len (show _≤15000 by lia))
 have L5:=zF (kz t5.len (show _≤15000 by lia))
 have L6:=zF (kz t6.len (show _≤15000 by lia))
 have L7:=zF (kz t7.len (show _≤15000 by lia))
 have L9:=zF (kz t9.len (show _≤15000 by lia))
 have LB:=zF (kz tB.len (show _≤15000 by lia))
 refine q _ _ _ _ ((tB.trans sC).more (by lia)) ⟨(((((((((AllG.nil.app (AllG.one (Qj.rowG L2.1 L2.2))).app g4.row).app g5.row).app (AllG.one (Qq.rowG L5.1 L5.2))).app (AllG.one (qj.rowG L6.1 L6.2))).app (AllG.one (qR L7.1 L7.2))).app (AllG.one (hb.rowG L9.1 L9.2))).app gB.row).app (AllG.one (qR LB.1 LB.2))),fun m=>?_,fun m h=>?_,fun m h=>?_,fun m ha hb'=>?_⟩ (by
  have yy:=fun a b c e f g=>(Ty.tried (y4.app y5 s4.k1 s5.k1 (by decide)) yB (kz s4.k1 s5.k1) sB.k1 hmem a b c e f g).weak
  simp only [←ya] at yy
  exact yy _ _ _ _ _ _)
 ·simp only [zS,qe,qf,Qj.noLab,qj.noLab,Qq.noLab,hb.noLab]
  exact la31 (g4.lab1 m) (g4.labI m) (g5.lab1 m) (g5.labI m) (gB.lab1 m) (gB.labI m) (qd m k) (qd m (k+1)) s4.k1 s5.k1
 ·simp only [zS,qe,qf,Qj.noLab,qj.noLab,Qq.noLab,hb.noLab] at h
  exact la32 h (g4.labI m) (g5.labI m) (gB.labI m) (qd m k) (qd m (k+1)) s4.k1 s5.k1 sB.k1
 ·simp only [Zf,ZT,ZU,Qj.use,qj.use,Qq.noUse,hb.noUse] at h
  simp only [zS,qe,qf,Qj.noLab,qj.noLab,Qq.noLab,hb.noLab]
  have:=g4.useI m;have:=g5.useI m;have:=gB.useI m
  lia
 ·simp only [zS,qe,qf,Qj.noLab,qj.noLab,Qq.noLab,hb.noLab]
  exact la34 ha hb' (g4.labA m) (g5.labA m) (gB.labA m) (qd m k) (qd m (k+1))
end
section
theorem z88:zi ["_law_script","_law_town_here","_law_rows","_law_marks","_law_deep","_law_way"] gps (zc (top 107)):=fsM
theorem z7m {n:Nat} (D:zn K mg "_law_deed" (top 107)) (S:jD P w K mg base) (FV:FN P w K mg base 9 "_law_value" gps (qB K (CV 3) 1 true)) (FC:FN P w K mg base (11+2 * n) "_law_choice" gps (qB K (CC n) 0 false)) (FR:FN P w K mg base (11+2 * n) "_law_round" gps (qB K (CC n) 0 false))
  (FT:FN P w K mg base (11+2 * n) "_law_tried" gps (qB K (CC n) 0 false)):FN P w K mg base (10+2 * (n+1)) "_law_deed" gps (qB K (CD (n+1)) 0 false):=by
 have:=FN.of (k:=11+2 * n) (sp:=qB K (CD (n+1)) 0 false) (P:=P) (w:=w) (base:=base) D z88 (fun _ _ _ _ _ _=>zU5 fun _ _ _ _ _=>rfl) ja (fun f cdv A outer s H vs Q E hr h=>?_)
 ·exact this.mono (by lia)
 obtain ⟨p,c,rs,k,e,B,rfl,⟨d,he,hd,hB⟩,g,bc,br,bk,q⟩:=h
 have hr1:=hr.mono (show 1≤11+2 * n by lia)
 have hr2:=hr.mono (show 2≤11+2 * n by lia)
 have hr9:=hr.mono (show 9≤11+2 * n by lia)
 have hb3:=z0N d
 refine ⟨_,z8 (zG (i:=5) z88.nd rfl (Or.inl rfl) (jh (zm JD (pv 4) zg (zq _)) (zo S.draw hr1 rfl (z6 (pv 0) (z6 (pv 1) (z6 zg z7)))) (zo S.draw hr1 rfl (z6 (pv 0) (z6 (pv 1) (z6 zg z7))))))
  (zd (zJ (zm J4 (pv 5) zg (zq _))
   (z8 (zj (zo FV hr9 rfl (z6 (pv 0) (z6 (pv 1) (z6 (pv 2) (z6 (pv 3) (z6 zg z7)))))))
    (zd (zj (q0 S.put3 hr1 rfl (z6 (pv 2) (z6 zk (z6 (zo S.pick hr2 rfl (z6 (pv 0) (z6 (pv 1) (z6 (qq (z6 zk (z6 zk (z6 zk z7)))) z7)))) z7)))))))
  (zd (zJ (zm qJ (pv 5) zg (zq _))
   (z8 (zj (zo FV hr9 rfl (z6 (pv 0) (z6 (pv 1) (z6 (pv 2) (z6 (pv 3) (z6 zg z7)))))))
    (zd (zj (q0 S.put2 hr1 rfl (z6 (pv 2) (z6 zk z7))))))
  (zd (zJ (zm qJ (pv 5) zg (zq _))
   (zd (zj (q0 S.put3 hr1 rfl (z6 (pv 2) (z6 zk (z6 (zo S.pick hr2 rfl (z6 (pv 0) (z6 (pv 1) (z6 (qq (z6 zk (z6 zk z7))) z7)))) z7))))))
  (zd (zJ (zm J4 (pv 5) zg (zq _))
   (zd (zj (zo FC hr rfl (z6 (pv 0) (z6 (pv 1) (z6 (pv 2) (z6 (pv 3) (z6 (pv 4) z7))))))))
  (zd (zJ (zm J4 (pv 5) zg (zq _))
   (zd (zj (zo FR hr rfl (z6 (pv 0) (z6 (pv 1) (z6 (pv 2) (z6 (pv 3) (z6 (pv 4) z7))))))))
  (zd (zJ (zm qJ (pv 5) zg (zq _))
   (zd (zj (zo FT hr rfl (z6 (pv 0) (z6 (pv 1) (z6 (pv 2) (z6 (pv 3) (z6 (pv 4) z7))))))))
   (z8 (zj (zo FV hr9 rfl (z6 (pv 0) (z6 (pv 1) (z6 (pv 2) (z6 (pv 3) (z6 zg z7)))))))
    (zd (zj (q0 S.put2 hr1 rfl (z6 (pv 2) (z6 zk z7)))))))))))))))))) ,?_⟩
 try dsimp only [L2.cxOf,L2.Cx.nox]
 refine ⟨_,rfl,_,_,rfl,rfl,_,rfl,?_⟩
 refine ite2 (fun c0=>?_) (fun c0=>?_)
 all_goals
  refine ⟨_,rfl,_,rfl,jt g (by lia) (by decide) (by decide) fun i H1 i0 i1 s1=>?_⟩
  have i12:i < 10:=by lia
  have i4:e≤0→i < 4:=fun z=>by
   first
    | exact i1
    | (have:=kG c0;lia)
  have l1:=s1.len
  refine ⟨_,rfl,_,_,rfl,rfl,_,rfl,?_⟩
  refine ite2 (fun c1=>?_) (fun c1=>?_)
  ·refine ⟨_,rfl,_,rfl,_,rfl,_,rfl,p,_,_,_,_,31,rfl,cv1,s1.gs,(by have:=s1.c2;lia),(by lia),(by have:=s1.k2;lia),fun c4 n4 k4 H4 s4 g4 y4=>?_⟩
   have t4:=s1.trans s4
   refine ⟨_,rfl,_,rfl,_,rfl,by show 3≤sizeLine;decide,fun x hx=>?_⟩
   refine js t4.gs (kz t4.c2 (by lia)) hx (by show 1≤3;decide) (by show 3≤1000;decide) fun v H5 hv s5=>?_
   have t5:=t4.tick s5
   refine zY t5.gs (kz t5.len (by lia)) fun H6 s6=>?_
   have L:=zF (kz t5.len (show _≤15000 by lia))
   exact q _ _ _ _ ((t5.trans s6).more (by lia)) (((Good.nil k).app g4 (kh _) s4.k1).put t4.k1 (z7x hv) L.1 L.2) ((y4.row (Zj _ (by simp)) (by decide) _ _).cast (by decide)).weak
  ·refine ⟨_,rfl,rfl,_,rfl,?_⟩
   refine ite2 (fun c2=>?_) (fun c2=>?_)
   ·refine ⟨_,rfl,_,rfl,_,rfl,_,rfl,p,_,_,_,_,87,rfl,cv2,s1.gs,(by have:=s1.c2;lia),(by lia),(by have:=s1.k2;lia),fun c4 n4 k4 H4 s4 g4 y4=>?_⟩
    have t4:=s1.trans s4
    refine ⟨_,rfl,zY t4.gs (kz t4.len (by lia)) fun H6 s6=>?_⟩
    have L:=zF (kz t4.len (show _≤15000 by lia))
    exact q _ _ _ _ ((t4.trans s6).more (by lia)) (((Good.nil k).app g4 (kh _) s4.k1).put t4.k1 z4f L.1 L.2) ((y4.row (Zj _ (by simp)) (by decide) _ _).cast (by decide)).weak
   ·refine ⟨_,rfl,rfl,_,rfl,?_⟩
    refine ite2 (fun c3=>?_) (fun c3=>?_)
    ·refine ⟨_,rfl,_,rfl,_,rfl,by show 2≤sizeLine;decide,fun x hx=>?_⟩
     refine js s1.gs (kz s1.c2 (by lia)) hx (by show 1≤2;decide) (by show 2≤1000;decide) fun v H5 hv s5=>?_
     have t5:=s1.tick s5
     refine zY t5.gs (kz t5.len (by lia)) fun H6 s6=>?_
     have L:=zF (kz t5.len (show _≤15000 by lia))
     exact q _ _ _ _ ((t5.trans s6).more (by lia)) ((Good.nil k).put (kh _) (z7y hv) L.1 L.2) (((Ty.nil k).row z4D (by decide) _ _).cast (by decide)).weak
    ·have d1:¬i < 2:=fun z=>c1 (kl z)
     have d2:¬i=2:=fun z=>c2 (by rw [z];rfl)
     have d3:¬i=3:=fun z=>c3 (by rw [z];rfl)
     have e0:¬e≤0:=fun z=>by have:=i4 z;lia
     obtain ⟨d',rfl⟩:∃d',d=d'+1:=⟨d - 1,by lia⟩
     have eB:bD (d'+1)=2 * bD d'+200:=rfl
     have cc:CC n e (2 * bD d'+150):=⟨d',by lia,by lia,rfl⟩
     refine ⟨_,rfl,_,_,rfl,rfl,_,rfl,?_⟩
     refine ite2 (fun c4=>?_) (fun c4=>?_)
     ·refine ⟨_,rfl,_,rfl,_,rfl,_,rfl,_,rfl,p,_,_,_,_,_,rfl,cc,s1.gs,(by have:=s1.c2;lia),(by lia),(by have:=s1.k2;lia),fun c4 n4 k4 H4 s4 g4 y4=>?_⟩
      exact q _ _ _ _ ((s1.trans s4).more (by lia)) ((Good.nil k).app g4 (kh _) s4.k1) y4
     ·refine ⟨_,rfl,_,_,rfl,rfl,_,rfl,?_⟩
      refine ite2 (fun c5=>?_) (fun c5=>?_)
      ·refine ⟨_,rfl,_,rfl,_,rfl,_,rfl,_,rfl,p,_,_,_,_,_,rfl,cc,s1.gs,(by have:=s1.c2;lia),(by lia),(by have:=s1.k2;lia),fun c4 n4 k4 H4 s4 g4 y4=>?_⟩
       exact q _ _ _ _ ((s1.trans s4).more (by lia)) ((Good.nil k).app g4 (kh _) s4.k1) y4
      ·refine ⟨_,rfl,rfl,_,rfl,?_⟩
       refine ite2 (fun c6=>?_) (fun c6=>?_)
       ·refine ⟨_,rfl,_,rfl,_,rfl,_,rfl,_,rfl,p,_,_,_,_,_,rfl,cc,s1.gs,(by have:=s1.c2;lia),(by lia),(by have:=s1.k2;lia),fun c4 n4 k4 H4 s4 g4 y4=>?_⟩
        exact q _ _ _ _ ((s1.trans s4).more (by lia)) ((Good.nil k).app g4 (kh _) s4.k1) y4
       ·refine ⟨_,rfl,_,rfl,_,rfl,_,rfl,p,_,_,_,_,3,rfl,cv0,s1.gs,(by have:=s1.c2;lia),(by lia),(by have:=s1.k2;lia),fun c4 n4 k4 H4 s4 g4 y4=>?_⟩
        have t4:=s1.trans s4
        refine ⟨_,rfl,zY t4.gs (kz t4.len (by lia)) fun H6 s6=>?_⟩
        have L:=zF (kz t4.len (show _≤15000 by lia))
        exact q _ _ _ _ ((t4.trans s6).more (by lia)) (((Good.nil k).app g4 (kh _) s4.k1).put t4.k1 z4g L.1 L.2) (Ty.rais y4 _)
theorem z1P {k:Nat} {rs:List Row} (h:∃Γl:Int→Option Sta,∀Γ,Ext Γ Γl 0 k→chk Γ rs (some (0,[]))=some none):∃Γ:Int→Option Sta,(∀m,Γ m≠none→0≤m∧m < (k:Int))∧chk Γ rs (some (0,[]))=some none:=by
 obtain ⟨Γl,q⟩:=h
 refine ⟨fun m=>if 0≤m∧m < (k:Int) then Γl m else none,fun m hm=>?_,q _ fun m _ hm=>kE ⟨by lia,by lia⟩⟩
 by_cases z:0≤m∧m < (k:Int)
 ·exact z
 ·exact absurd (kD z) hm
theorem z6f:∃Γ:Int→Option Sta,(∀m,Γ m≠none→0≤m∧m < ((0:Nat):Int))∧chk Γ [⟨"load",.str "a",7⟩,⟨"return",.non,8⟩] (some (0,[]))=some none:=
 z1P ((Ty.nil 0).whole (((Ty.nil 0).row z3f (by decide) (.str "a") 7).cast (by decide)) (kh _) (kh _) 8 (by decide))
theorem z1U (DD:zn K mg "_law_deed" (top 107)) (DC:zn K mg "_law_choice" (top 108)) (DR:zn K mg "_law_round" (top 109)) (DT:zn K mg "_law_tried" (top 110)) (S:jD P w K mg base) (FV:FN P w K mg base 9 "_law_value" gps (qB K (CV 3) 1 true)):
  ∀n,FN P w K mg base (10+2 * n) "_law_deed" gps (qB K (CD n) 0 false)
 | 0=>z1T DD (fun _ _ _ _ _ _=>zU5 fun _ _ _ _ _=>rfl) fun e B ⟨d,_,h,_⟩=>absurd h (Nat.not_lt_zero _)
 | n+1=>by
  have ih:=z1U DD DC DR DT S FV n
  exact z7m DD S FV (z3M DC S FV ih) (z5b DR S FV ih) (z59 DT S ih)
def z03 (K:kC):Sp:=fun vs H Q _=>∃(a t:Addr) (ns:List Int) (c:Nat) (cells:List Int) (many:Int),vs=[.ref a,.ref t,.int many]∧Scr K H a (ns.map V.int)∧ns.length≤1000∧cells.length=ns.length∧H t=some (.lst (qN c cells))∧c≤100∧1≤many∧many≤12∧
 ∀(l:Addr) (as:List Addr) (rs:List Row) (k c':Nat) (cells':List Int) H',H' l=some (.lst (as.map V.ref))→zV H' as rs→Good 0 k rs→(∃Γ:Int→Option Sta,(∀m,Γ m≠none→0≤m∧m < (k:Int))∧chk Γ rs (some (0,[]))=some none)→k≤90→1≤rs.length→rs.length≤140→l≠t→cells'.length=ns.length→H' t=some (.lst (qN c' cells'))→c'≤14000→jk H H' t→Q (.ref l) H'
theorem z4x:zi ["_law_script","_law_town_here","_law_many","_law_rows","_law_marks","_law_k"] ["_law_script","_law_town_here","_law_many"] (zc (top 111)):=fsM
theorem cd2:CD 3 2 968:=⟨2,rfl,by decide,rfl⟩
theorem z2y (D:zn K mg "_law_code" (top 111)) (G:Glo mg) (S:jD P w K mg base) (FV:FN P w K mg base 9 "_law_value" gps (qB K (CV 3) 1 true)) (FD:FN P w K mg base 16 "_law_deed" gps (qB K (CD 3) 0 false)):FN P w K mg base 17 "_law_code" ["_law_script","_law_town_here","_law_many"] (z03 K):=by
 refine FN.o D z4x fun f cdv A outer s H vs Q E hr h=>?_
 obtain ⟨a,t,ns,c,cells,many,rfl,hS,hns,hcl,hT,hc,hm1,hm2,q⟩:=h
 have hr1:=hr.mono (show 1≤16 by decide)
 have hr9:=hr.mono (show 9≤16 by decide)
 refine ⟨_,z8 (zG (i:=3) z4x.nd rfl (Or.inl rfl) (qq z7))
  (z8 (zG (i:=4) z4x.nd rfl (Or.inl rfl) (qq z7))
  (z8 (Zb PassesOwn.never rfl (jO rfl G.range (z6 (zO je zg (zo S.draw hr1 rfl (z6 (pv 0) (z6 (pv 1) (z6 (pv 2) z7))))) z7)) (zu (i:=5) z4x.nd rfl (Or.inl rfl))
   (zd (zJ (zm J4 (zy zL rfl G.len qv (z6 (pv 3) z7)) zg (zq _))
    (zd (zj (zo FD hr rfl (z6 (pv 0) (z6 (pv 1) (z6 (pv 3) (z6 (pv 4) (z6 zg z7)))))))) zw)))
  (z8 (zj (zo FV hr9 rfl (z6 (pv 0) (z6 (pv 1) (z6 (pv 3) (z6 (pv 4) (z6 zg z7)))))))
  (z8 (zj (q0 S.put2 hr1 rfl (z6 (pv 3) (z6 zk z7))))
  (z8 (zJ (PW.pt (Jv (zm JD (zy zL rfl G.len qv (z6 (pv 3) z7)) zg (zq _)) (ZC (zm JD (zy zL rfl G.len qv (z6 (pv 4) z7)) zg (zq _)))))
   (zd (zl (qq (z6 (zZ (z6 zk (z6 zk (z6 zg z7)))) (z6 (zZ (z6 zk (z6 qm (z6 zg z7)))) z7))))) zw)
  (zd (zl (pv 3)))))))),?_⟩
 try dsimp only [L2.cxOf,L2.Cx.nox]
 refine ⟨by show 0≤sizeLine;decide,fun r hr0=>⟨by show 0≤sizeLine;decide,fun m hm0=>?_⟩⟩
 have sr:Same H (upd H r (.lst [])):=zh hr0 _
 have sm:Same (upd H r (.lst [])) (upd (upd H r (.lst [])) m (.lst [])):=zh hm0 _
 have rm:r≠m:=ze (H:=upd H r (.lst [])) zb hm0
 have tr:t≠r:=ze hT hr0
 have tm:t≠m:=ze (sr _ _ hT) hm0
 have s02:=sr.trans sm
 generalize hH2:upd (upd H r (.lst [])) m (.lst [])=H2 at *
 have hr2:H2 r=some (.lst []):=by rw [←hH2,zf rm];exact zb
 have hm2':H2 m=some (.lst []):=by rw [←hH2];exact zb
 have g:GS K H2 ⟨a,t,r,m,ns⟩ c [] 0:=⟨hS.keep fun o u e=>s02 _ _ e,hns,⟨cells,hcl,s02 _ _ hT⟩,⟨[],hr2,.nil⟩,hm2',tr,tm,rm⟩
 generalize hp:(⟨a,t,r,m,ns⟩:Pl)=p at *
 have pa:p.a=a:=by rw [←hp]
 have pt:p.t=t:=by rw [←hp]
 have pr:p.r=r:=by rw [←hp]
 have pm:p.m=m:=by rw [←hp]
 have pn:p.ns=ns:=by rw [←hp]
 subst pa pt pr pm pn
 clear hp
 refine ⟨_,rfl,_,rfl,_,rfl,jt g (by lia) (by lia) (by lia) fun j H3 j0 j1 s3=>?_⟩
 refine ⟨_,_,rfl,rfl,1+j,rfl,by lia,by lia,jU (lo:=0) (n:=(1+j).toNat) (fun i σ H4=>∃v c' new k',σ=[some (.ref p.a),some (.ref p.t),some (.int many),some (.ref p.r),some (.ref p.m),v]∧Step K H2 H4 p c [] 0 c' new k' (1+968 * i)∧Good 0 k' new∧Ty 0 false 0 k' new)
  ⟨none,_,_,_,rfl,s3,Good.nil 0,(Ty.nil 0).weak⟩ ?_ ?_⟩
 ·rintro i σ H4 hi ⟨v,c',new,k',rfl,st,gd,ty⟩
  have hin:i < 12:=by lia
  have l:=st.len
  obtain ⟨as,h3,h4⟩:=st.gs.rows
  refine ⟨_,rfl,p.r,_,rfl,.inl (SqL.of h3),_,_,rfl,rfl,_,rfl,?_⟩
  refine ite2 (fun c4=>?_) (fun c4=>?_)
  ·refine ⟨_,rfl,_,rfl,_,rfl,_,rfl,p,_,_,_,_,968,rfl,cd2,st.gs,(by have:=st.c2;lia),(by simp at l ⊢;lia),(by have:=st.k2;lia),fun c5 n5 k5 H5 s5 g5 y5=>?_⟩
   exact ⟨_,c5,new++n5,k5,rfl,(st.trans s5).more (by lia),gd.app g5 (Nat.zero_le _) s5.k1,(ty.app y5 (Nat.zero_le _) s5.k1 (by decide)).cast (by decide)⟩
  ·exact ⟨_,c',new,k',rfl,st.more (by lia),gd,ty⟩
 rintro σ H4 ⟨v4,c4,n4,k4,rfl,t4,g4,y4⟩
 have t4:=t4.more (show _≤11617 by lia)
 refine ⟨_,rfl,_,rfl,_,rfl,_,rfl,p,_,_,_,_,31,rfl,cv1,t4.gs,(by have:=t4.c2;lia),(by have:=t4.len;simp at this ⊢;lia),(by have:=t4.k2;lia),fun c5 n5 k5 H5 s5 g5 y5=>?_⟩
 have t5:=t4.trans s5
 refine ⟨_,rfl,zY t5.gs (by have:=t5.len;simp at this ⊢;lia) fun H6 s6=>?_⟩
 have t6:=t5.trans s6
 have L5:=zF (kz t5.len (show _≤15000 by simp))
 have g6:=(g4.app g5 (Nat.zero_le _) s5.k1).put (Nat.zero_le _) z20 L5.1 L5.2
 have cK:n4.length+n5.length≤998→∃Γ:Int→Option Sta,(∀m,Γ m≠none→0≤m∧m < (k5:Int))∧chk Γ (n4++n5++[(⟨Str.ofString "return",.non,10+(([]++(n4++n5):List Row).length:Int) / 2⟩:Row)]) (some (0,[]))=some none:=fun hz=>z1P (y4.whole y5 (Nat.zero_le _) s5.k1 _ hz)
 have hlen:(n4++n5++[(⟨Str.ofString "return",.non,10+(([]++(n4++n5):List Row).length:Int) / 2⟩:Row)]).length=n4.length+n5.length+1:=by rw [ko,ko];rfl
 generalize hn:n4++n5++[(⟨Str.ofString "return",.non,10+(([]++(n4++n5):List Row).length:Int) / 2⟩:Row)]=nn at *
 have hpos:1≤nn.length:=by rw [←hn];simp only [ko,kS,List.length_nil,kJ];lia
 obtain ⟨as,h3,h4⟩:=t6.gs.rows
 have hal:(as.map V.ref).length=nn.length:=by rw [km,h4.len];rfl
 obtain ⟨cells',hl',hT'⟩:=t6.gs.town
 have hc6:=t6.c2
 have kp:jk H H6 p.t:=fun b o e hb=>t6.keep b o (s02 _ _ e) hb (ze e hr0) (fun z=>by
  have:=sr _ _ e
  rw [z,hm0] at this
  cases this)
 have two:∀H7,Same H6 H7→∀x y l,H7 x=some (.tup [.str "load",.str "a",.int 7])→H7 y=some (.tup [.str "return",.non,.int 8])→H7 l=some (.lst [.ref x,.ref y])→l≠p.t→Q (.ref l) H7:=fun H7 s7 x y l hx hy hl hlt=>by
  have b1:Bare "load" (.str "a"):=z68 (by simp)
  refine q l [x,y] [⟨"load",.str "a",7⟩,⟨"return",.non,8⟩] 0 _ cells' H7 hl (.cons hx (.cons hy .nil)) ?_ z6f (by decide) (by simp) (by simp) hlt hl' (s7 _ _ hT') (by lia) fun b o e hb=>s7 _ _ (kp b o e hb)
  exact (b1.good (by decide) (by decide) 0).put (kh _) z20 (by decide) (by decide)
 have fin:nn.length≤140→k5≤90→Q (.ref p.r) H6:=fun h1 h2=>q p.r as nn k5 _ cells' H6 h3 h4 g6 (cK (by lia)) h2 hpos h1 g.tr.symm hl' hT' (by lia) kp
 refine ⟨_,rfl,p.r,_,rfl,.inl (SqL.of h3),_,_,rfl,rfl,_,rfl,?_⟩
 have qO:tTup (jE (tC (.str "load")) (jE (tC (.str "a")) (jE (tC (.int 7)) tNil))) [some (.ref p.a),some (.ref p.t),some (.int many),some (.ref p.r),some (.ref p.m),v4] H6 (fun x H7=>tTup (jE (tC (.str "return")) (jE (tC .non) (jE (tC (.int 8)) tNil))) [some (.ref p.a),some (.ref p.t),some (.int many),some (.ref p.r),some (.ref p.m),v4] H7 fun y H8=>[x,y].length≤sizeLine∧∀l,H8 l=none→Q (.ref l) (upd H8 l (.lst [x,y]))):=by
  refine ⟨by show 3≤sizeLine;decide,fun x hx=>⟨by show 3≤sizeLine;decide,fun y hy=>⟨by show 2≤sizeLine;decide,fun l hl=>?_⟩⟩⟩
  have sx:Same H6 (upd H6 x (.tup [.str "load",.str "a",.int 7])):=zh hx _
  have sy:=zh hy (.tup [.str "return",.non,.int 8])
  have sl:=zh hl (.lst [.ref x,.ref y])
  refine two _ (sx.trans (sy.trans sl)) x y l (sl _ _ (sy _ _ zb)) (sl _ _ zb) zb ?_
  exact (ze (sy _ _ (sx _ _ hT')) hl).symm
 refine ite2 (fun c1=>?_) (fun c1=>?_)
 ·exact iteT qO
 ·have hn1:nn.length≤140:=by
   rw [hal] at c1
   have:¬((140:Int) < (nn.length:Int)):=fun z=>c1 (kl z)
   lia
  refine ⟨_,rfl,p.m,_,rfl,.inl (SqL.of t6.gs.marks),_,_,rfl,rfl,_,rfl,?_⟩
  refine ite2 (fun c2=>qO) (fun c2=>?_)
  rw [Q1] at c2
  have hk:k5≤90:=by
   have:¬((90:Int) < (k5:Int)):=fun z=>c2 (kl z)
   lia
  exact ⟨_,rfl,fin hn1 hk⟩
end
set_option autoImplicit false
set_option linter.unusedVariables false
theorem ZO {p:Row→Bool}:∀(l:List Row) (i:Nat) (r:Row),l[i]?=some r→p r=true→l.countP p≤1→l.findIdx? p=some i
 | [],_,_,h,_,_=>by simp at h
 | x :: l,0,r,h,hp,_=>by
  have e:x=r:=by simpa using h
  rw [List.findIdx?_cons,e,kE hp]
 | x :: l,i+1,r,h,hp,hc=>by
  have h':l[i]?=some r:=by simpa using h
  have hm:=kK h'
  have hpos:0 < l.countP p:=List.countP_pos_iff.mpr ⟨r,hm,hp⟩
  rw [List.countP_cons] at hc
  have hx:¬p x=true:=fun e=>by rw [kE e] at hc;lia
  rw [kD hx] at hc
  rw [List.findIdx?_cons,kD hx,ZO l i r h' hp hc]
  rfl
theorem z0x {p:Row→Bool} {l:List Row} (h:l.countP p≠0):(l.findIdx? p).isSome=true:=by
 rw [List.findIdx?_isSome,List.any_eq_true]
 have:0 < l.countP p:=by lia
 obtain ⟨r,h1,h2⟩:=List.countP_pos_iff.mp this
 exact ⟨r,h1,h2⟩
theorem Good.mark {k:Nat} {rs:List Row} (g:Good 0 k rs) {r:Row} (hr:r∈rs) (hs:zX r.op=some ("mark":Str)) {m:Nat} (hm:r.arg=.int (m:Int)):lab m rs≠0:=by
 by_cases c:r.op="label"
 ·have:0 < rs.countP (JL m):=List.countP_pos_iff.mpr ⟨r,hr,by unfold JL;rw [kl c,kl hm];rfl⟩
  unfold lab
  lia
 ·refine g.useI m ?_
  have:0 < rs.countP (JK m):=List.countP_pos_iff.mpr ⟨r,hr,by unfold JK;rw [kl hs,kl c,kl hm];rfl⟩
  unfold use
  lia
theorem Good.push {k:Nat} {rs:List Row} (g:Good 0 k rs):∀r∈rs,r.op="push"→okV r.arg=true:=fun r hr=>by
 obtain ⟨_,_,_,_,h,_⟩:=g.row r hr
 exact h.1
theorem Good.store {k:Nat} {rs:List Row} (g:Good 0 k rs):∀r∈rs,r.op="store"→r.arg∈([.str "a",.str "b",.str "c"]:List V):=fun r hr=>by
 obtain ⟨_,_,_,_,h,_⟩:=g.row r hr
 exact h.2
theorem Good.typed {k:Nat} {rs:List Row} (g:Good 0 k rs) (h:∃Γ:Int→Option Sta,(∀m,Γ m≠none→0≤m∧m < (k:Int))∧chk Γ rs (some (0,[]))=some none):∃S,ZS rs S:=by
 obtain ⟨Γ,h1,h2⟩:=h
 refine ⟨_,z4r (fun m s e=>?_) h2⟩
 obtain ⟨a,b⟩:=h1 m (by rw [e];nofun)
 obtain ⟨j,rfl⟩:=yc a
 exact z0x (g.labA j (Nat.zero_le _) (by lia))
theorem Good.code {k:Nat} {rs:List Row} (g:Good 0 k rs) (hk:k≤90) (h1:1≤rs.length) (h2:rs.length≤150):Code rs:=by
 refine ⟨fun r hr=>?_,fun i r hi=>?_,h1,h2⟩
 ·obtain ⟨s,hs,l0,l1,_,h⟩:=g.row r hr
  have hf:qU s r.arg=true:=by
   rcases h with ⟨rfl,m,hm⟩ | ⟨_,hf⟩
   ·have:=(g.labI m (g.mark hr hs hm)).2
    rw [hm]
    exact Zp (lo:=0) (hi:=99) (fun x=>by rfl) (by lia) (by lia)
   ·exact hf
  show rowV r.op r.arg (.int r.line)=true
  unfold rowV Zt
  rw [hs]
  show (true&&qU s r.arg&&qK (.int r.line) 0 9999)=true
  rw [hf]
  show qK (.int r.line) 0 9999=true
  show (decide (0≤r.line)&&decide (r.line≤9999))=true
  rw [kl l0,kl l1]
  rfl
 ·have hr:=kK hi
  obtain ⟨s,hs,l0,l1,_,h⟩:=g.row r hr
  unfold jo
  by_cases c:r.op="label"
  ·rw [kE c]
   have e:s="mark":=by
    rw [c,Z4] at hs
    exact (kF hs).symm
   rcases h with ⟨_,m,hm⟩ | ⟨hn,_⟩
   ·rw [hm]
    show decide (zE rs (m:Int)=some i)=true
    exact kl (ZO rs i r hi (by show (decide (r.op="label")&&decide (r.arg=.int (m:Int)))=true;rw [kl c,kl hm];rfl) (g.lab1 m))
   ·exact absurd e hn
  ·rw [kD c]
   by_cases c2:zX r.op=some ("mark":Str)
   ·rw [kE c2]
    have e:s="mark":=by
     rw [c2] at hs
     exact (kF hs).symm
    rcases h with ⟨_,m,hm⟩ | ⟨hn,_⟩
    ·rw [hm]
     exact z0x (g.mark hr c2 hm)
    ·exact absurd e hn
   ·rw [kD c2]
end My
set_option maxHeartbeats 4000000
namespace L2
open PySem PySem.Spec PyProof.Rows
mutual
inductive RdV (K:kC) (H:Hp):V→PyData→Prop where
 | flat {x:V} (f:jW x=true):RdV K H x (jy x)
 | tup {a:Addr} {xs:List V} {ds:List PyData} (h:SqT K H a xs) (r:RdVs K H xs ds):RdV K H (.ref a) (.tuple ds)
 | lst {a:Addr} {xs:List V} {ds:List PyData} (h:SqL K H a xs) (r:RdVs K H xs ds):RdV K H (.ref a) (.list ds)
inductive RdVs (K:kC) (H:Hp):List V→List PyData→Prop where
 | nil:RdVs K H [] []
 | cons {x:V} {d:PyData} {xs:List V} {ds:List PyData} (h:RdV K H x d) (t:RdVs K H xs ds):RdVs K H (x :: xs) (d :: ds)
end
section
variable {X:Cx} {pins:List (Addr × Obj)} {σ:St} {H:Hp} {s:Shared}
mutual
theorem Jt (I:Inv X pins σ H s) {x:V} {u:Value} {d:PyData} (r:RelV x u) (h:RdV X.K H x d):∃as,Reads s.heap u d as:=by
 cases h with
 | flat f=>exact ⟨_,z2A f r⟩
 | tup h t=>
  cases r
  obtain ⟨its,rv,⟨o,ho,hc,m,hd⟩,_⟩:=I.tuple h
  obtain ⟨as,q⟩:=QH I rv t
  exact ⟨_,.tuple ho hc hd q⟩
 | lst h t=>
  cases r
  obtain ⟨its,rv,⟨o,m,ho,hc,_,hd⟩,_⟩:=I.list h
  obtain ⟨as,q⟩:=QH I rv t
  exact ⟨_,.list ho hc hd q⟩
theorem QH (I:Inv X pins σ H s) {xs:List V} {us:List Value} {ds:List PyData} (r:Vals xs us) (h:RdVs X.K H xs ds):∃as,ReadsAll s.heap us ds as:=by
 cases h with
 | nil=>cases r;exact ⟨_,.nil⟩
 | cons h t=>
  cases r with
  | cons r1 r2=>
   obtain ⟨as,q1⟩:=Jt I r1 h
   obtain ⟨bs,q2⟩:=QH I r2 t
   exact ⟨_,.cons q1 q2⟩
end
end
noncomputable def z5U (d:PyData):Bool:=d.showable&& !d.hasDict&&decide (d.depth≤5)&&decide (d.shown.length≤2000)
def z7K (K:kC) (t:TE):TE:=fun σ H Q=>t σ H fun x H1=>∃a d,x=.ref a∧RdV K H1 x d∧z5U d=true∧Q (.str d.shown) H1
theorem z9e {X:Cx} {value:Expr} {pos:Pos} {t:TE} (hr:Room 1 X.A) (h:PE X value t):PE X (.FormattedValue value (-1) none pos) (z7K X.K t):=by
 intro pins s σ H Q I hq
 refine wpAny_FormattedValue_plain (thn (h pins s σ H _ I hq) fun v s1 h1=>?_)
 have hg:=hr.gd
 have hu:=hr.un
 obtain ⟨x,H1,I1,r1,a,d,rfl,hR,hk,q⟩:=h1
 cases r1
 obtain ⟨as,rr⟩:=Jt I1 (x:=.ref a) (u:=.ref a) rfl hR
 unfold z5U at hk
 simp only [yg,yh,Bool.not_eq_true'] at hk
 obtain ⟨⟨⟨k1,k2⟩,k3⟩,k4⟩:=hk
 refine formatField_of_reads rr k1 (PyData.noDict_hsm k2) hg (by lia) (fun _ _ e=>e) (fun h' u tk hk=>?_) ?_
 ·exact ⟨.str _,H1,I1.kept hk,⟨_,rfl⟩,q⟩
 ·rw [sizeLine_eq]
  lia
end L2
namespace L2
open PySem PySem.Spec PyProof.Rows
section
variable {X:Cx}
end
structure z4m (d:PyData):Prop where
 sh:d.showable=true
 nd:d.hasDict=false
 dp:d.depth≤5
 ln:d.shown.length≤100000
def z7J (K:kC) (t:TE):TE:=fun σ H Q=>t σ H fun x H1=>∃a d,x=.ref a∧RdV K H1 x d∧z4m d∧Q (.str d.shown) H1
theorem z4F {X:Cx} {value:Expr} {pos:Pos} {t:TE} (hr:Room 1 X.A) (h:PE X value t):PE X (.FormattedValue value (-1) none pos) (z7J X.K t):=by
 intro pins s σ H Q I hq
 refine wpAny_FormattedValue_plain (thn (h pins s σ H _ I hq) fun v s1 h1=>?_)
 have hg:=hr.gd
 have hu:=hr.un
 obtain ⟨x,H1,I1,r1,a,d,rfl,hR,⟨k1,k2,k3,k4⟩,q⟩:=h1
 cases r1
 obtain ⟨as,rr⟩:=Jt I1 (x:=.ref a) (u:=.ref a) rfl hR
 refine formatField_of_reads rr k1 (PyData.noDict_hsm k2) hg (by lia) (fun _ _ e=>e) (fun h' u tk hk=>?_) ?_
 ·exact ⟨.str _,H1,I1.kept hk,⟨_,rfl⟩,q⟩
 ·rw [sizeLine_eq]
  lia
theorem z08 {K:kC} {H:Hp}:∀{xs:List V},xs.all jW=true→RdVs K H xs (xs.map jy)
 | [],_=>.nil
 | x :: xs,h=>by
  rw [List.all_cons,yg] at h
  exact .cons (.flat h.1) (z08 h.2)
def Q7 (x:V):Prop:=jW x=true∧(jy x).showable=true∧(jy x).shown.length≤60
theorem QX:∀{xs:List V},(∀x∈xs,Q7 x)→xs.all jW=true∧PyData.showableAll (xs.map jy)=true∧((PyData.shownAll (xs.map jy)).map (fun t=>t.length)).sum≤60 * xs.length∧(PyData.shownAll (xs.map jy)).length=xs.length
 | [],_=>⟨rfl,by simp only [List.map_nil,PyData.showableAll],by simp only [List.map_nil,PyData.shownAll];decide,by simp only [List.map_nil,PyData.shownAll];rfl⟩
 | x :: xs,h=>by
  obtain ⟨a,b,c,d⟩:=QX (xs:=xs) fun y hy=>h y (kW _ hy)
  obtain ⟨e,f,g⟩:=h x (kU ..)
  refine ⟨by rw [List.all_cons,e,a];rfl,by simp only [kY,PyData.showableAll,f,b,Bool.and_self],?_,?_⟩
  ·simp only [kY,PyData.shownAll,List.sum_cons,kS]
   lia
  ·simp only [kY,PyData.shownAll,kS]
   lia
theorem z36 {xs:List V} (h:∀x∈xs,Q7 x) (hl:xs.length≤1000):z4m (.list (xs.map jy)):=by
 obtain ⟨a,b,c,d⟩:=QX h
 obtain ⟨e,f⟩:=Qg xs
 refine ⟨by simp only [PyData.showable];exact b,by simp only [PyData.hasDict];exact e,by simp only [PyData.depth,f];lia,?_⟩
 simp only [PyData.shown]
 have:=listText_len_le (PyData.shownAll (xs.map jy))
 lia
end L2
set_option maxHeartbeats 8000000
namespace My
open PySem PySem.Spec PyProof.Rows L2
variable {P:Program} {w:World} {K:kC} {mg:Str→Option Value} {base:Heap}
section
def z5L (K:kC):Sp:=fun vs H Q _=>∃(a:Addr) (ns:List Int),vs=[.ref a]∧Scr K H a (ns.map V.int)∧ns.length≤1000∧∀t H',Same H H'→H t=none→H' t=some (.lst (qN 0 ns))→Q (.ref t) H'
theorem sc98:zi ["_law_script"] ["_law_script"] (zc (top 98)):=fsM
theorem z70 (D:zn K mg "_law_town" (top 98)) (G:Glo mg):FN P w K mg base 1 "_law_town" ["_law_script"] (z5L K):=by
 refine FN.o D sc98 fun f cdv A outer s H vs Q E hr h=>?_
 obtain ⟨a,ns,rfl,hS,hn,q⟩:=h
 refine ⟨_,zd (zl (zO z1J (qq (z6 zg z7)) (qD qV rfl G.list qW (z6 (pv 0) z7)))),?_⟩
 try dsimp only [L2.cxOf,L2.Cx.nox]
 refine ⟨by show 1≤sizeLine;decide,fun p hp=>?_⟩
 have sp:=zh hp (.lst [.int 0])
 refine ⟨_,rfl,a,ns.map V.int,rfl,.inl (hS.keep fun o u e=>sp _ _ e).sq,fun l hl=>?_⟩
 have sl:=zh hl (.lst (ns.map V.int))
 have npl:p≠l:=ze (H:=upd H p (.lst [.int 0])) zb hl
 refine ⟨p,l,[.int 0],ns.map V.int,rfl,rfl,sl _ _ zb,zb,?_,fun t ht=>?_⟩
 ·rw [km,sizeLine_eq]
  show 1+ns.length≤_
  lia
 ·have st:=zh ht (.lst ([.int 0]++ns.map V.int))
  refine q t _ ((sp.trans sl).trans st) ?_ zb
  cases e:H t with
  | none=>rfl
  | some o=>rw [(sp.trans sl) _ _ e] at ht;cases ht
theorem z3o {v:V} (h:okV v=true):J8 v 1000000000000000000=true:=by
 unfold J8
 cases v with
 | non=>rfl
 | bl b=>rfl
 | int i=>
  have hb:big i=false:=by simpa [okV] using h
  have h1:¬1000000000000000000 < i.natAbs:=of_decide_eq_false hb
  have:qK (.int i) (-1000000000000000000) 1000000000000000000=true:=by
   show (decide (-1000000000000000000≤i)&&decide (i≤1000000000000000000))=true
   rw [kl (by lia),kl (by lia)]
   rfl
  rw [this]
  simp
 | str z=>
  rw [(Q4 z (kG h)).2]
  simp
 | _=>cases h
theorem z4e {i:Int} (h:big i=false):Q7 (.int i):=by
 have h1:¬1000000000000000000 < i.natAbs:=of_decide_eq_false h
 refine ⟨rfl,?_,?_⟩
 ·show (PyData.int i).showable=true
  simp only [PyData.showable]
  have:i.natAbs.log2 < 1920:=by
   by_cases z:i.natAbs=0
   ·rw [z];decide
   ·have h2:=(Nat.log2_lt z (k:=64)).mpr (by lia)
    lia
  exact kl this
 ·have e:=int_text_length_le10 (a:=i) (k:=19) (by decide) (by lia)
  show ((PyData.int i).shown).length≤60
  simp only [PyData.shown]
  rw [PySem.ofString_length]
  lia
theorem QW:∀z∈(["Oops","Zero","Unset","Type","Big","on","value","fault"]:List Str),(jy (.str z)).showable=true∧(jy (.str z)).shown.length≤60:=by trivial
theorem z4d {z:Str} (h:z∈(["Oops","Zero","Unset","Type","Big","on","value","fault"]:List Str)):Q7 (.str z):=⟨rfl,(QW z h).1,(QW z h).2⟩
theorem z2D {z:Str} (h:z∈qT):Q7 (.str z):=by
 refine z4d ?_
 unfold qT at h
 simp only [kH,ky,or_false] at h ⊢
 rcases h with h | h | h | h | h <;> simp [h]
theorem jS {v:V} (h:okV v=true):Q7 v:=by
 cases v with
 | non=>exact ⟨rfl,by trivial,by trivial⟩
 | bl b=>cases b <;> exact ⟨rfl,by trivial,by trivial⟩
 | int i=>exact z4e (by simpa [okV] using h)
 | str z=>exact z2D (kG h)
 | _=>cases h
structure Zw (n:Nat) (kvs:List (Key × V)):Prop where
 len:kvs.length≤n
 all:∀q∈kvs,(∃nm:Str,q.1=Sum.inr nm∧nm∈(["a","b","c"]:List Str))∧okV q.2=true
theorem z1i:∀nm∈(["a","b","c"]:List Str),nm.length≤4∧JF (.str nm)=true:=by trivial
theorem Zw.names {kvs:List (Key × V)} (h:Zw 3 kvs):JY kvs:=by
 refine ⟨by have:=h.len;lia,fun p hp=>?_⟩
 obtain ⟨⟨nm,e,hn⟩,hv⟩:=h.all p hp
 obtain ⟨h1,h2⟩:=z1i nm hn
 exact ⟨nm,e,by rw [sizeLine_eq];lia,h2,Zh (jw hv),z3o hv⟩
theorem Zw.put {n:Nat} {kvs:List (Key × V)} (h:Zw n kvs) {nm:Str} (hn:nm∈(["a","b","c"]:List Str)) {v:V} (hv:okV v=true):Zw (n+1) (putK kvs (Sum.inr nm) v):=by
 refine ⟨by have:=(z3b (kvs:=kvs) (k:=(Sum.inr nm:Key)) (v:=v) (fun q hq=>(h.all q hq).2) hv).2;have:=h.len;lia,fun q hq=>⟨?_,(z3b (fun q hq=>(h.all q hq).2) hv).1 q hq⟩⟩
 unfold putK at hq
 split at hq
 ·obtain ⟨p,hp,rfl⟩:=yi.mp hq
  split
  ·exact (h.all p hp).1
  ·exact (h.all p hp).1
 ·rcases kX.mp hq with z | z
  ·exact (h.all q z).1
  ·rw [ku.mp z]
   exact ⟨nm,rfl,hn⟩
def z31 (K:kC):Sp:=fun vs H Q _=>∃(a t:Addr) (ns:List Int) (c:Nat) (cells:List Int),vs=[.ref a,.ref t]∧Scr K H a (ns.map V.int)∧ns.length≤1000∧cells.length=ns.length∧H t=some (.lst (qN c cells))∧c≤90000∧
 ∀(d:Addr) (kvs:List (Key × V)) (c':Nat) (cells':List Int) H',H' d=some (.dK kvs)→Zw 3 kvs→cells'.length=ns.length→H' t=some (.lst (qN c' cells'))→c'≤c+6→jk H H' t→Q (.ref d) H'
theorem z6w:zi ["_law_script","_law_town_here","_law_found","_law_name"] ["_law_script","_law_town_here"] (zc (top 112)):=fsM
theorem z5l (D:zn K mg "_law_given" (top 112)) (S:jD P w K mg base):FN P w K mg base 4 "_law_given" ["_law_script","_law_town_here"] (z31 K):=by
 refine FN.o D z6w fun f cdv A outer s H vs Q E hr h=>?_
 obtain ⟨a,t,ns,c,cells,rfl,hS,hns,hcl,hT,hc,q⟩:=h
 have hr1:=hr.mono (show 1≤3 by decide)
 have hu:=Qo hr
 refine ⟨_,z8 (zG (i:=2) z6w.nd rfl (Or.inl rfl) z1D)
  (z8 (Zb PassesOwn.never rfl (z8k (zZ (z6 zk (z6 zk (z6 zk z7))))) (zu (i:=3) z6w.nd rfl (Or.inl rfl))
   (zd (zJ (zm JD (zo S.draw hr1 rfl (z6 (pv 0) (z6 (pv 1) (z6 zg z7)))) zg (zq _))
    (zd (z16 hu (pv 2) (pv 3) (zo S.const hr rfl (z6 (pv 0) (z6 (pv 1) z7))) rfl)) zw)))
  (zd (zl (pv 2)))),?_⟩
 try dsimp only [L2.cxOf,L2.Cx.nox]
 refine fun d hd=>⟨by show 3≤sizeLine;decide,fun tp htp=>?_⟩
 have s1:=zh hd (.dK [])
 have s2:=zh htp (.tup [.str "a",.str "b",.str "c"])
 have s12:=s1.trans s2
 have hd2:upd (upd H d (.dK [])) tp (.tup [.str "a",.str "b",.str "c"]) d=some (.dK []):=s2 _ _ zb
 have hp2:upd (upd H d (.dK [])) tp (.tup [.str "a",.str "b",.str "c"]) tp=some (.tup [.str "a",.str "b",.str "c"]):=zb
 have ndt:d≠t:=(ze hT hd).symm
 have ndp:d≠tp:=zA hd2 hp2 nofun
 generalize upd (upd H d (.dK [])) tp (.tup [.str "a",.str "b",.str "c"])=H0 at *
 refine ⟨tp,rfl,⟨_,SqT.of hp2⟩,z6Y (K:=K) (a:=tp) (xs:=[.str "a",.str "b",.str "c"]) (fun i σ H2=>∃(v:Option V) (kvs:List (Key × V)) (c2:Nat) (cells2:List Int),σ=[some (.ref a),some (.ref t),some (.ref d),v]∧H2 d=some (.dK kvs)∧Zw i kvs∧cells2.length=ns.length∧H2 t=some (.lst (qN c2 cells2))∧c2≤c+2 * i∧jk H H2 t∧H2 tp=some (.tup [.str "a",.str "b",.str "c"]))
  ⟨none,[],c,cells,rfl,hd2,⟨kh _,fun _ h=>by cases h⟩,hcl,s12 _ _ hT,by lia,fun b o e _=>s12 _ _ e,hp2⟩ (fun i σ H2 _ zz=>by obtain ⟨_,_,_,_,_,_,_,_,_,_,_,e⟩:=zz;exact SqT.of e) ?_ ?_⟩
 ·rintro i x σ H2 hi ⟨v,kvs,c2,cells2,rfl,e1,e2,e3,e4,e5,e6,e7⟩
  have hx:∃nm:Str,x=.str nm∧nm∈(["a","b","c"]:List Str):=by
   have:=kK hi
   simp only [kH,ky,or_false] at this
   rcases this with z | z | z
   all_goals exact ⟨_,z,by simp⟩
  obtain ⟨nm,rfl,hnm⟩:=hx
  have hi3:i < 3:=(ki.mp hi).1
  have hS2:Scr K H2 a (ns.map V.int):=hS.keep1 e6 hT
  refine ⟨_,rfl,_,rfl,a,t,ns,c2,cells2,3,rfl,hS2,hns,e3,e4,by lia,by decide,by decide,fun j cells3 H3 j0 j1 l3 t3 k3=>?_⟩
  have hd3:=k3 _ _ e1 ndt
  have hp3:=k3 _ _ e7 (zA e7 e4 nofun)
  have k03:jk H H3 t:=fun b o e hb=>k3 b o (e6 b o e hb) hb
  refine ⟨_,_,rfl,rfl,_,rfl,?_⟩
  refine ite2 (fun _=>?_) (fun _=>?_)
  ·have hS3:Scr K H3 a (ns.map V.int):=hS2.keep1 k3 e4
   refine ⟨_,rfl,_,rfl,a,t,ns,c2+1,cells3,rfl,hS3,hns,l3,t3,by lia,fun v4 cells4 H4 pv4 ov4 l4 t4 k4=>?_⟩
   have hd4:=k4 _ _ hd3 ndt
   have hp4:=k4 _ _ hp3 (zA hp3 t3 nofun)
   refine ⟨_,rfl,_,rfl,d,_,rfl,DPut.k (k:=Sum.inr nm) hd4 (JG (by have:=e2.len;lia)),?_⟩
   refine ⟨_,_,c2+1+1,cells4,rfl,zb,e2.put hnm ov4,l4,by rw [zf ndt.symm];exact t4,by lia,fun b o e hb=>?_,by rw [zf ndp.symm];exact hp4⟩
   have:b≠d:=ze e hd
   rw [zf this]
   exact k4 b o (k03 b o e hb) hb
  ·exact ⟨_,kvs,c2+1,cells3,rfl,hd3,⟨by have:=e2.len;lia,e2.all⟩,l3,t3,by lia,k03,hp3⟩
 ·rintro σ H2 ⟨v,kvs,c2,cells2,rfl,e1,e2,e3,e4,e5,e6,e7⟩
  exact ⟨_,rfl,q d kvs c2 cells2 H2 e1 e2 e3 e4 (by have:([.str "a",.str "b",.str "c"]:List V).length=3:=rfl;lia) e6⟩
def z0W (K:kC):Sp:=fun vs H Q _=>∃a d,vs=[.ref a]∧RdV K H (.ref a) d∧z4m d∧Q (.str d.shown) H
theorem z9u:zi ["_law_thing"] ["_law_thing"] (zc (top 113)):=fsM
theorem z3I (D:zn K mg "_law_shown" (top 113)):FN P w K mg base 2 "_law_shown" ["_law_thing"] (z0W K):=by
 refine FN.o D z9u fun f cdv A outer s H vs Q E hr h=>?_
 obtain ⟨a,d,rfl,hR,hk,q⟩:=h
 exact ⟨_,zd (zl (z4H (z4F hr (pv 0)))),_,rfl,a,d,rfl,hR,hk,q⟩
end
set_option maxHeartbeats 4000000
section
variable {X:Cx} {pins:List (Addr × Obj)} {σ:L2.St} {H:Hp} {s:Shared}
end
section
variable {X:Cx}
end
set_option maxHeartbeats 8000000
def jY (kn:List (Key × V)):Prop:=∀q∈kn,∃nm:Str,q.1=Sum.inr nm∧nm∈(["a","b","c"]:List Str)
theorem z8c {op:Str} {arg:V} {m m1:Mst} {res:Res} (h:rowM op arg m=some (res,m1)):m1.kn=m.kn∨(∃nm v,op="store"∧arg=.str nm∧m1.kn=putK m.kn (Sum.inr nm) v)∨∃k,m1.kn=jF m.kn k:=by
 have fin:∀{r:Res} {n:Mst},some (r,n)=some (res,m1)→n.kn=m.kn→m1.kn=m.kn∨(∃nm v,op="store"∧arg=.str nm∧m1.kn=putK m.kn (Sum.inr nm) v)∨∃k,m1.kn=jF m.kn k:=fun e h=>by
  cases e
  exact .inl h
 have pof:∀{r1 r2:V} {n:Mst},pofM r1 r2 n=some (res,m1)→n.kn=m.kn→m1.kn=m.kn∨(∃nm v,op="store"∧arg=.str nm∧m1.kn=putK m.kn (Sum.inr nm) v)∨∃k,m1.kn=jF m.kn k:=fun h e=>by
  unfold pofM at h
  repeat' split at h
  all_goals first | exact fin h e | cases h
 unfold rowM at h
 by_cases cc:op∈jl
 ·rw [kE cc] at h
  unfold gTwo at h
  repeat' split at h
  all_goals first | exact pof h rfl | cases h
 rw [kD cc] at h
 clear cc
 by_cases cc:op∈jR
 ·rw [kE cc] at h
  unfold gOne at h
  repeat' split at h
  all_goals first | exact pof h rfl | cases h
 rw [kD cc] at h
 clear cc
 by_cases cc:op="push"
 ·rw [kE cc] at h
  unfold z0s at h
  repeat' split at h
  all_goals first | exact fin h rfl | cases h
 rw [kD cc] at h
 clear cc
 by_cases cc:op="load"
 ·rw [kE cc] at h
  unfold J6 at h
  repeat' split at h
  all_goals first | exact fin h rfl | cases h
 rw [kD cc] at h
 clear cc
 by_cases cc:op="quick"
 ·rw [kE cc] at h
  unfold ZN at h
  repeat' split at h
  all_goals first | exact fin h rfl | cases h
 rw [kD cc] at h
 clear cc
 by_cases cc:op="store"
 ·rw [kE cc] at h
  unfold ZL at h
  repeat' split at h
  all_goals first | (cases h;exact .inr (.inl ⟨_,_,cc,rfl,rfl⟩)) | cases h
 rw [kD cc] at h
 clear cc
 by_cases cc:op="clear"
 ·rw [kE cc] at h
  unfold Zd at h
  repeat' split at h
  all_goals first | exact fin h rfl | (cases h;exact .inr (.inr ⟨_,rfl⟩)) | cases h
 rw [kD cc] at h
 clear cc
 by_cases cc:op="tell"
 ·rw [kE cc] at h
  unfold JO at h
  repeat' split at h
  all_goals first | exact fin h rfl | cases h
 rw [kD cc] at h
 clear cc
 by_cases cc:op="iftrue"
 ·rw [kE cc] at h
  unfold gIf at h
  repeat' split at h
  all_goals first | exact fin h rfl | cases h
 rw [kD cc] at h
 clear cc
 by_cases cc:op="iffalse"
 ·rw [kE cc] at h
  unfold gIf at h
  repeat' split at h
  all_goals first | exact fin h rfl | cases h
 rw [kD cc] at h
 clear cc
 by_cases cc:op="ortrue"
 ·rw [kE cc] at h
  unfold gOr at h
  repeat' split at h
  all_goals first | exact fin h rfl | cases h
 rw [kD cc] at h
 clear cc
 by_cases cc:op="orfalse"
 ·rw [kE cc] at h
  unfold gOr at h
  repeat' split at h
  all_goals first | exact fin h rfl | cases h
 rw [kD cc] at h
 clear cc
 by_cases cc:op="return"
 ·rw [kE cc] at h
  unfold jx at h
  repeat' split at h
  all_goals first | exact fin h rfl | cases h
 rw [kD cc] at h
 clear cc
 by_cases cc:op="jump"
 ·rw [kE cc] at h
  unfold z2v at h
  repeat' split at h
  all_goals first | exact fin h rfl | cases h
 rw [kD cc] at h
 clear cc
 by_cases cc:op="drop"
 ·rw [kE cc] at h
  unfold JQ at h
  repeat' split at h
  all_goals first | exact fin h rfl | cases h
 rw [kD cc] at h
 clear cc
 by_cases cc:op="copy"
 ·rw [kE cc] at h
  unfold JR at h
  repeat' split at h
  all_goals first | exact fin h rfl | cases h
 rw [kD cc] at h
 clear cc
 by_cases cc:op="swap"
 ·rw [kE cc] at h
  unfold JP at h
  repeat' split at h
  all_goals first | exact fin h rfl | cases h
 rw [kD cc] at h
 clear cc
 by_cases cc:op="raise"
 ·rw [kE cc] at h
  unfold ZM at h
  repeat' split at h
  all_goals first | (obtain ⟨_,_,h⟩:=Option.map_eq_some_iff.mp h;exact fin (congrArg some h) rfl) | cases h
 rw [kD cc] at h
 clear cc
 cases h
theorem z6h {rs:List Row} {m m1:Mst} {gs gs1:List Gd} {e e1:List V} {k:Str} {l:Int} {here1:Option Nat} (h:Qk rs m gs e k l=some (m1,gs1,e1,here1)):m1.kn=m.kn:=by
 unfold Qk at h
 repeat' split at h
 all_goals first
  | (cases h;done)
  | (injection h with h;injection h with h1 h2;subst h1;rfl)
theorem z6n {rs:List Row} {m m1:Mst} {gs gs1:List Gd} {pas pas1:List Nat} {p:Nat} {e1:List V} {here1:Option Nat} (h:QE rs m gs pas p=some (m1,gs1,pas1,e1,here1)):∃r res m',rs[p]?=some r∧rowM r.op r.arg m=some (res,m')∧m1.kn=m'.kn:=by
 unfold QE at h
 cases hr:rs[p]? with
 | none=>rw [hr] at h;cases h
 | some r=>
  rw [hr] at h
  dsimp only at h
  by_cases hz:qO pas.length=true
  case neg=>rw [kD hz] at h;cases h
  rw [kE hz] at h
  cases hrow:rowM r.op r.arg m with
  | none=>rw [hrow] at h;cases h
  | some rm=>
   obtain ⟨res,m'⟩:=rm
   rw [hrow] at h
   refine ⟨r,res,m',rfl,hrow,?_⟩
   cases res with
   | fault k=>
    dsimp only at h
    cases ht:Qk rs m' gs [.str "on"] k r.line with
    | none=>rw [ht] at h;cases h
    | some x=>
     obtain ⟨a,b,c,d⟩:=x
     rw [ht] at h
     cases h
     exact z6h ht
   | _=>
    dsimp only at h
    repeat' split at h
    all_goals first
     | (cases h;done)
     | (injection h with h;injection h with h1 h2;subst h1;rfl)
theorem jY.put {kn:List (Key × V)} (h:jY kn) {nm:Str} {v:V} (hn:nm∈(["a","b","c"]:List Str)):jY (putK kn (Sum.inr nm) v):=by
 intro q hq
 unfold putK at hq
 split at hq
 ·obtain ⟨p,hp,rfl⟩:=yi.mp hq
  split
  ·exact h p hp
  ·exact h p hp
 ·rcases kX.mp hq with z | z
  ·exact h q z
  ·rw [ku.mp z]
   exact ⟨nm,rfl,hn⟩
theorem jY.step {rs:List Row} {m m1:Mst} {gs gs1:List Gd} {pas pas1:List Nat} {p:Nat} {e1:List V} {here1:Option Nat} (k:jY m.kn) (hs:∀r∈rs,r.op="store"→r.arg∈([.str "a",.str "b",.str "c"]:List V))
  (h:QE rs m gs pas p=some (m1,gs1,pas1,e1,here1)):jY m1.kn:=by
 obtain ⟨r,res,m',hr,hrow,e⟩:=z6n h
 rw [e]
 rcases z8c hrow with e | ⟨nm,v,e1,e2,e3⟩ | ⟨k',e⟩
 ·rw [e];exact k
 ·rw [e3]
  refine k.put ?_
  have:=hs r (kK hr) e1
  rw [e2] at this
  simp only [kH,ky,or_false] at this ⊢
  rcases this with z | z | z <;> (injection z with z;simp [z])
 ·rw [e]
  intro q hq
  unfold jF at hq
  exact k q (List.mem_filter.mp hq).1
section
variable {CW CH:Addr}
def z2T (K:kC) (CW CH:Addr):Sp:=fun vs H Q E=>z7Z K CW CH vs H Q E∨WX K CW CH H fun a _ _ _ _ _ _ here=>vs=[.ref a.wk]∧here=none∧Q (.bl false) H
theorem z6L (D:HasM K CW "step" "Walk.step" (mW 4)) (c:Qr K CW) (F1:MN P w K mg base 1 CW "finish" ["self","ending"] (z6s K CW CH)) (F2:MN P w K mg base 2 CW "take_fault" ["self","kind","line"] (z5N K CW CH)) (F3:MN P w K mg base 1 CW "come_to" ["self","place"] (z04 K CW CH))
  (FR:FN P w K mg base 5 "do_row" ["hold","op","arg"] (zW K CH rowM)):MN P w K mg base 6 CW "step" ["self"] (z2T K CW CH):=by
 refine MN.of D scW4 (fun _ _ _ _ _ _=>zU1 fun _=>rfl) (fun vs H Q E h=>by rcases h with ⟨a,H0,rs,m,gs,pas,p,m',gs',pas',e',here',rfl,_⟩ | ⟨a,H0,rs,m,gs,pas,e,here,W,rfl,_⟩ <;> rfl) (fun f cdv A outer s H vs Q E hr h=>?_)
 rcases h with h | ⟨a,H0,rs,m,gs,pas,e,here,W,rfl,rfl,q⟩
 case inr=>
  obtain ⟨ea,i1,i2⟩:=W.ins
  exact ⟨_,z8 (zJ (zm Qd (zx (pv 0) rfl) qm (zq _)) (zd (zl ZZ)) zw) qL,_,rfl,a.wk,CW,a.dw,_,_,rfl,i1,c.cl,c.here,rfl,rfl,_,rfl,iteT q⟩
 obtain ⟨a,H0,rs,m,gs,pas,p,m',gs',pas',e',here',rfl,W,hst,q⟩:=h
 have hu:=Qo hr
 have hr1:=hr.mono (show 1≤5 by decide)
 have hr2:=hr.mono (show 2≤5 by decide)
 refine ⟨_,z8 (zJ (zm Qd (zx (pv 0) rfl) qm (zq _)) qL zw)
  (z8 (zG (i:=1) scW4.nd rfl (Or.inl rfl) (zx (pv 0) rfl))
  (z8 (jb (qc zT (zx (pv 0) rfl) (pv 1) (fun _ _=>rfl)) (jc rfl (zr (zu (i:=2) scW4.nd rfl (Or.inl rfl)) (zr (zu (i:=3) scW4.nd rfl (Or.inl rfl)) (zr (zu (i:=4) scW4.nd rfl (Or.inl rfl)) qx)))))
  (z8 (zj (jj (zx (pv 0) rfl) (z6 (pv 1) z7)))
  (z8 (jb (zo FR hr rfl (z6 (zx (pv 0) rfl) (z6 (pv 2) (z6 (pv 3) z7)))) (jc rfl (zr (zu (i:=5) scW4.nd rfl (Or.inl rfl)) (zr (zu (i:=6) scW4.nd rfl (Or.inl rfl)) qx))))
  (z8 (zJ (zm qJ (pv 5) zk (zq _)) (zd (j3 (pv 0) (z18 (pv 0) c.cl F3 hr1 (z6 (zO je (pv 1) zg) z7)) rfl))
   (zd (zJ (zm qJ (pv 5) zk (zq _)) (zd (j3 (pv 0) (z18 (pv 0) c.cl F3 hr1 (z6 (ZY hu (zx (pv 0) rfl) (pv 3) (fun _ _=>rfl)) z7)) rfl))
    (zd (zJ (zm qJ (pv 5) zk (zq _)) (zd (zj (z18 (pv 0) c.cl F2 hr2 (z6 (pv 6) (z6 (pv 4) z7)))))
     (zd (zj (z18 (pv 0) c.cl F1 hr1 (z6 (zZ (z6 (pv 5) (z6 (pv 6) z7))) z7)))))))))
  (zd (zl ZZ))))))),?_⟩
 try dsimp only [L2.cxOf,L2.Cx.nox]
 obtain ⟨ea,i1,i2⟩:=W.ins
 obtain ⟨as,r1,r2⟩:=W.rows
 unfold QE at hst
 cases hrp:rs[p]? with
 | none=>rw [hrp] at hst;cases hst
 | some r=>
  rw [hrp] at hst
  dsimp only at hst
  by_cases hpz:qO pas.length=true
  case neg=>rw [kD hpz] at hst;cases hst
  rw [kE hpz] at hst
  obtain ⟨ra,hra,har⟩:=r2.get' hrp
  refine ⟨_,rfl,a.wk,CW,a.dw,_,.int (p:Nat),rfl,i1,c.cl,c.here,rfl,rfl,_,rfl,iteF ?_⟩
  refine ⟨_,rfl,a.wk,CW,a.dw,_,.int (p:Nat),rfl,i1,c.cl,c.here,rfl,?_⟩
  refine ⟨_,rfl,a.wk,CW,a.dw,_,.ref a.rl,rfl,i1,c.cl,c.rows,rfl,_,rfl,a.rl,_,_,_,rfl,rfl,SqL.of r1,zt hra,ra,_,rfl,SqT.of har,rfl,_,_,rfl,_,_,rfl,_,_,rfl,rfl,?_⟩
  cases hrow:rowM r.op r.arg m with
  | none=>rw [hrow] at hst;cases hst
  | some rm=>
   obtain ⟨res,m1⟩:=rm
   rw [hrow] at hst
   try dsimp only at hst
   refine ⟨_,rfl,a.wk,CW,a.dw,_,.ref a.pl,rfl,i1,c.cl,c.passed,rfl,.inl ⟨rfl,_,SqL.of W.passed⟩,_,rfl,a.pl,_,_,rfl,rfl,W.passed,(by rw [km];exact j9 hpz),?_⟩
   have W1:=W.pass p
   generalize upd H a.pl (.lst ((pas.map fun p=>V.int (p:Nat))++[.int (p:Nat)]))=H1 at W1
   obtain ⟨ea1,j1,j2⟩:=W1.ins
   refine ⟨_,rfl,a.wk,CW,a.dw,_,.ref a.ho,rfl,j1,c.cl,c.hold,rfl,_,rfl,_,rfl,a.ho,a.hl,a.kd,a.sl,a.dx,r.op,r.arg,m,res,m1,rfl,W1.hold,hrow,fun t H2 ht hA hrest=>?_⟩
   have W2:=W1.deed hA hrest
   obtain ⟨ea2,l1,l2⟩:=W2.ins
   cases res with
   | next=>
    dsimp only at hst
    refine ⟨t,_,rfl,ht,rfl,_,_,rfl,_,_,rfl,rfl,?_⟩
    cases hcm:jp rs m1.st.length 200 (p+1) gs with
    | none=>rw [hcm] at hst;cases hst
    | some pg=>
     obtain ⟨p',gs2⟩:=pg
     rw [hcm] at hst
     cases hst
     refine ⟨_,rfl,rfl,_,rfl,iteT ?_⟩
     refine ⟨_,rfl,a.wk,a.dw,_,rfl,l1,rfl,_,rfl,_,_,rfl,rfl,?_⟩
     refine zC.come W2 hcm fun H3 W3=>?_
     obtain ⟨ea3,u1,u2⟩:=W3.ins
     refine ⟨_,rfl,a.wk,CW,a.dw,_,rfl,u1,c.cl,c.here,(by show 7 < 1000;decide),?_⟩
     exact q a _ rfl (W3.fields (here':=some p') u2)
   | go=>
    dsimp only at hst
    refine ⟨t,_,rfl,ht,rfl,_,_,rfl,_,_,rfl,rfl,?_⟩
    cases harg:r.arg with
    | int mk=>
     rw [harg] at hst
     dsimp only at hst
     cases hfl:zE rs mk with
     | none=>rw [hfl] at hst;cases hst
     | some j=>
      rw [hfl] at hst
      dsimp only at hst
      cases hcm:jp rs m1.st.length 200 j gs with
      | none=>rw [hcm] at hst;cases hst
      | some pg=>
       obtain ⟨p',gs2⟩:=pg
       rw [hcm] at hst
       cases hst
       obtain ⟨kv,g1,g2⟩:=W2.goals
       have hv:valV kv (Sum.inl mk:Key)=some (.int (j:Int)):=by rw [g2 mk,hfl];rfl
       have hgt:DGet H2 a.gd (.int mk) (some (.int (j:Int))):=by rw [←hv];exact DGet.k (k:=Sum.inl mk) g1
       refine ⟨_,rfl,rfl,_,rfl,iteF ⟨_,rfl,rfl,_,rfl,iteT ?_⟩⟩
       refine ⟨_,rfl,a.wk,a.dw,_,rfl,l1,rfl,_,rfl,a.wk,CW,a.dw,_,.ref a.gd,rfl,l1,c.cl,c.goals,rfl,_,rfl,a.gd,_,rfl,hgt,?_⟩
       refine zC.come W2 hcm fun H3 W3=>?_
       obtain ⟨ea3,u1,u2⟩:=W3.ins
       refine ⟨_,rfl,a.wk,CW,a.dw,_,rfl,u1,c.cl,c.here,(by show 7 < 1000;decide),?_⟩
       exact q a _ rfl (W3.fields (here':=some p') u2)
    | _=>rw [harg] at hst;cases hst
   | fault k=>
    dsimp only at hst
    cases htk:Qk rs m1 gs [.str "on"] k r.line with
    | none=>rw [htk] at hst;cases hst
    | some rr=>
     obtain ⟨m2,gs2,e2,here2⟩:=rr
     rw [htk] at hst
     cases hst
     refine ⟨t,_,rfl,ht,rfl,_,_,rfl,_,_,rfl,rfl,?_⟩
     refine ⟨_,rfl,rfl,_,rfl,iteF ⟨_,rfl,rfl,_,rfl,iteF ⟨_,rfl,rfl,_,rfl,iteT ?_⟩⟩⟩
     exact ⟨_,rfl,a.wk,a.dw,_,rfl,l1,rfl,_,rfl,_,rfl,a,H0,rs,_,_,_,_,_,k,r.line,m',gs',e',here',rfl,W2,htk,fun a' H3 ha W3=>q a' H3 ha W3⟩
   | value v=>
    cases hst
    refine ⟨t,_,rfl,ht,rfl,_,_,rfl,_,_,rfl,rfl,?_⟩
    refine ⟨_,rfl,rfl,_,rfl,iteF ⟨_,rfl,rfl,_,rfl,iteF ⟨_,rfl,rfl,_,rfl,iteF ?_⟩⟩⟩
    refine ⟨_,rfl,a.wk,a.dw,_,rfl,l1,rfl,_,rfl,_,rfl,by show 2≤sizeLine;decide,fun p2 hp2=>?_⟩
    have sp:=zh hp2 (.tup [.str "value",v])
    exact ⟨a,H0,rs,_,_,_,_,_,p2,_,rfl,W2.same' sp,SqT.of zb,fun H3 W3=>q a H3 rfl W3⟩
def z2U (K:kC) (CW CH:Addr):Sp:=fun vs H Q _=>WX K CW CH H fun a _ _ m _ _ _ _=>vs=[.ref a.wk]∧∀l,H l=none→Q (.ref l) (upd H l (.lst m.st))
theorem scW6:zi ["self"] ["self"] (zc (mW 6)):=fsM
theorem z6M (D:HasM K CW "stack" "Walk.stack" (mW 6)) (c:Qr K CW) (ch:jg K CH) (G:Glo mg):MN P w K mg base 1 CW "stack" ["self"] (z2U K CW CH):=by
 refine MN.o D scW6 fun f cdv A outer s H vs Q E hr h=>?_
 obtain ⟨a,H0,rs,m,gs,pas,e,here,W,rfl,q⟩:=h
 obtain ⟨ea,i1,i2⟩:=W.ins
 refine ⟨_,zd (zl (qD qV rfl G.list qW (z6 (zx (zx (pv 0) rfl) rfl) z7))),?_⟩
 try dsimp only [L2.cxOf,L2.Cx.nox]
 exact ⟨_,rfl,a.wk,CW,a.dw,_,.ref a.ho,rfl,i1,c.cl,c.hold,rfl,a.ho,CH,a.dx,_,.ref a.hl,rfl,W.hold.ins,ch.cl,ch.held,rfl,a.hl,_,rfl,.inl (SqL.of W.hold.held),q⟩
def z1v (K:kC) (CW CH:Addr):Sp:=fun vs H Q _=>WX K CW CH H fun a _ _ m _ _ _ _=>vs=[.ref a.wk]∧∀d,H d=none→Q (.ref d) (upd H d (.dK m.kn))
theorem scW7:zi ["self"] ["self"] (zc (mW 7)):=fsM
theorem z6O (D:HasM K CW "names" "Walk.names" (mW 7)) (c:Qr K CW) (ch:jg K CH) (G:Glo mg):MN P w K mg base 1 CW "names" ["self"] (z1v K CW CH):=by
 refine MN.o D scW7 fun f cdv A outer s H vs Q E hr h=>?_
 obtain ⟨a,H0,rs,m,gs,pas,e,here,W,rfl,q⟩:=h
 obtain ⟨ea,i1,i2⟩:=W.ins
 refine ⟨_,zd (zl (qD Qi rfl G.dict QY (z6 (zx (zx (pv 0) rfl) rfl) z7))),?_⟩
 try dsimp only [L2.cxOf,L2.Cx.nox]
 exact ⟨_,rfl,a.wk,CW,a.dw,_,.ref a.ho,rfl,i1,c.cl,c.hold,rfl,a.ho,CH,a.dx,_,.ref a.kd,rfl,W.hold.ins,ch.cl,ch.known,rfl,a.kd,_,rfl,Rd.of W.hold.known,q⟩
def z1x (K:kC) (CW CH:Addr):Sp:=fun vs H Q _=>WX K CW CH H fun a _ _ _ gs _ _ _=>vs=[.ref a.wk]∧∀l gas,H l=none→GsIn H gas gs→Q (.ref l) (upd H l (.lst (gas.map V.ref)))
theorem scW8:zi ["self"] ["self"] (zc (mW 8)):=fsM
theorem z4V (D:HasM K CW "guards" "Walk.guards" (mW 8)) (c:Qr K CW) (G:Glo mg):MN P w K mg base 1 CW "guards" ["self"] (z1x K CW CH):=by
 refine MN.o D scW8 fun f cdv A outer s H vs Q E hr h=>?_
 obtain ⟨a,H0,rs,m,gs,pas,e,here,W,rfl,q⟩:=h
 obtain ⟨ea,i1,i2⟩:=W.ins
 obtain ⟨gas,w1,w2⟩:=W.wards
 refine ⟨_,zd (zl (qD qV rfl G.list qW (z6 (zx (pv 0) rfl) z7))),?_⟩
 try dsimp only [L2.cxOf,L2.Cx.nox]
 exact ⟨_,rfl,a.wk,CW,a.dw,_,.ref a.wl,rfl,i1,c.cl,c.wards,rfl,a.wl,_,rfl,.inl (SqL.of w1),fun l hl=>q l gas hl w2⟩
end
section
variable {K:kC} {H0 H H':Hp} {CW CH:Addr} {a:WAd} {rs:List Row} {m:Mst} {gs:List Gd} {pas:List Nat} {e:List V} {here:Option Nat}
noncomputable def ownW (a:WAd):List Addr:=[a.wk,a.pl,a.hl,a.kd,a.sl,a.wl,a.ho]
noncomputable def offW (a:WAd) (H:Hp):Hp:=fun b=>if b∈ownW a then none else H b
theorem Qe {b:Addr} (h:b∈ownW a):offW a H b=none:=by unfold offW;rw [kE h]
theorem Zk {b:Addr} (h:b∉ownW a):offW a H b=H b:=by unfold offW;rw [kD h]
theorem zC.none_of (W:zC K H0 H CW CH a rs m gs pas e here) {b:Addr} (h:b∈ownW a):H0 b=none:=by
 simp only [ownW,kH,ky,or_false] at h
 rcases h with rfl | rfl | rfl | rfl | rfl | rfl | rfl
 ·exact W.f1
 ·exact W.f2
 ·exact W.f3
 ·exact W.f4
 ·exact W.f5
 ·exact W.f6
 ·exact W.f7
theorem zC.some_of (W:zC K H0 H CW CH a rs m gs pas e here) {b:Addr} (h:b∈ownW a):H b≠none:=by
 obtain ⟨ea,i1,_⟩:=W.ins
 obtain ⟨gas,w1,_⟩:=W.wards
 simp only [ownW,kH,ky,or_false] at h
 rcases h with rfl | rfl | rfl | rfl | rfl | rfl | rfl
 ·rw [i1];nofun
 ·rw [W.passed];nofun
 ·rw [W.hold.held];nofun
 ·rw [W.hold.known];nofun
 ·rw [W.hold.said];nofun
 ·rw [w1];nofun
 ·rw [W.hold.ins];nofun
theorem zC.rebase (W:zC K H0 H CW CH a rs m gs pas e here):zC K (offW a H) H CW CH a rs m gs pas e here:=
 ⟨fun b o h=>by
  by_cases z:b∈ownW a
  ·rw [Qe z] at h;cases h
  ·rw [Zk z] at h;exact h,Qe (by simp [ownW]),Qe (by simp [ownW]),Qe (by simp [ownW]),Qe (by simp [ownW]),Qe (by simp [ownW]),Qe (by simp [ownW]),Qe (by simp [ownW]),
  W.ins,W.rows,W.goals,W.hold,W.wards,W.passed,W.n1,W.n2,W.n3,W.n4,W.n5,W.n6,W.n7,W.n8,W.n9,W.n10,W.n11⟩
theorem zC.old (W:zC K H0 H CW CH a rs m gs pas e here) {b:Addr} {o:HO} (h:H0 b=some o):offW a H b=some o:=by
 rw [Zk fun z=>by rw [W.none_of z] at h;cases h]
 exact W.same _ _ h
end
noncomputable def dueD (op:Str):Nat:=if op="copy" then 0 else if op="swap" then 9 else 2
structure Fx (op:Str) (arg:V) (m m1:Mst):Prop where
 sd:m1.sd=m.sd++(if op="tell" then m.st.getLast?.toList else [])
 kn:∀nm:Str,(¬(op="store"∨op="clear")∨arg≠.str nm)→valV m1.kn (Sum.inr nm:Key)=valV m.kn (Sum.inr nm:Key)
 st:∀k:Nat,k+dueD op≤m.st.length→m1.st.take k=m.st.take k
theorem Zz {s:List V} {x:V} {k:Nat} (h:k≤s.length):(s++[x]).take k=s.take k:=List.take_append_of_le_length h
theorem Z0 {s:List V} {k:Nat} (h:k+1≤s.length):s.dropLast.take k=s.take k:=by
 rw [List.dropLast_eq_take,List.take_take,Nat.min_eq_left (by lia)]
theorem J9 {s:List V} {k:Nat} (h:k+2≤s.length):s.dropLast.dropLast.take k=s.take k:=by
 rw [Z0 (by rw [List.length_dropLast];lia),Z0 (by lia)]
theorem z2H {k j:Key} (h:¬j=k):∀{kvs:List (Key × V)},valV (jF kvs k) j=valV kvs j:=by
 intro kvs
 induction kvs with
 | nil=>rfl
 | cons p r ih=>
  by_cases e:p.1=k
  ·rw [z3U e,ih,qp (fun z=>h (by rw [←z,e]))]
  ·rw [z3V e]
   by_cases e2:p.1=j
   ·rw [qu e2,qu e2]
   ·rw [qp e2,qp e2,ih]
def Plu (s s1:List V):Prop:=∀k,k+2≤s.length→s1.take k=s.take k
theorem Plu.same {s:List V}:Plu s s:=fun _ _=>rfl
theorem Plu.add {s:List V} {x:V}:Plu s (s++[x]):=fun k h=>Zz (by lia)
theorem Plu.d1 {s:List V}:Plu s s.dropLast:=fun k h=>Z0 (by lia)
theorem Plu.d2 {s:List V}:Plu s s.dropLast.dropLast:=fun k h=>J9 h
theorem Plu.d1a {s:List V} {x:V}:Plu s (s.dropLast++[x]):=fun k h=>(Zz (by rw [List.length_dropLast];lia)).trans (Z0 (by lia))
theorem Plu.d2a {s:List V} {x:V}:Plu s (s.dropLast.dropLast++[x]):=fun k h=>(Zz (by rw [List.length_dropLast,List.length_dropLast];lia)).trans (J9 h)
theorem zU {op:Str} {arg:V} {m m1:Mst} (n0:op≠"tell") (n1:op≠"copy") (n2:op≠"swap") (hsd:m1.sd=m.sd) (hkn:m1.kn=m.kn) (hst:Plu m.st m1.st):Fx op arg m m1:=
 ⟨by rw [kD n0,kZ,hsd],fun _ _=>by rw [hkn],fun k hk=>hst k (by unfold dueD at hk;rw [kD n1,kD n2] at hk;exact hk)⟩
theorem z7G:∀op∈jl,op≠"tell"∧op≠"copy"∧op≠"swap":=by trivial
theorem z8w:∀op∈jR,op≠"tell"∧op≠"copy"∧op≠"swap":=by trivial
theorem z8d {op:Str} {arg:V} {m m1:Mst} {res:Res} (h:rowM op arg m=some (res,m1)) (h9:op="swap"→∀n,arg=.int n→n≤9):Fx op arg m m1:=by
 have pof:∀{r1 r2:V} {n:Mst},pofM r1 r2 n=some (res,m1)→op≠"tell"∧op≠"copy"∧op≠"swap"→n.sd=m.sd→n.kn=m.kn→Plu m.st n.st→(∀x,Plu m.st (n.st++[x]))→Fx op arg m m1:=fun h ne e1 e2 e3 e4=>by
  unfold pofM at h
  repeat' split at h
  all_goals first | (cases h;exact zU ne.1 ne.2.1 ne.2.2 e1 e2 (e4 _)) | (cases h;exact zU ne.1 ne.2.1 ne.2.2 e1 e2 e3) | (cases h;done)
 unfold rowM at h
 by_cases cc:op∈jl
 ·rw [kE cc] at h
  unfold gTwo at h
  repeat' split at h
  all_goals first | exact pof h (z7G op cc) rfl rfl .d2 (fun _=>.d2a) | (cases h;done)
 rw [kD cc] at h
 clear cc
 by_cases cc:op∈jR
 ·rw [kE cc] at h
  unfold gOne at h
  repeat' split at h
  all_goals first | exact pof h (z8w op cc) rfl rfl .d1 (fun _=>.d1a) | (cases h;done)
 rw [kD cc] at h
 clear cc
 by_cases cc:op="push"
 ·rw [kE cc] at h
  unfold z0s at h
  repeat' split at h
  all_goals first | (cases h;exact zU (by rw [cc];decide+kernel) (by rw [cc];decide+kernel) (by rw [cc];decide+kernel) rfl rfl .add) | (cases h;exact zU (by rw [cc];decide+kernel) (by rw [cc];decide+kernel) (by rw [cc];decide+kernel) rfl rfl .same) | (cases h;done)
 rw [kD cc] at h
 clear cc
 by_cases cc:op="load"
 ·rw [kE cc] at h
  unfold J6 at h
  repeat' split at h
  all_goals first | (cases h;exact zU (by rw [cc];decide+kernel) (by rw [cc];decide+kernel) (by rw [cc];decide+kernel) rfl rfl .add) | (cases h;exact zU (by rw [cc];decide+kernel) (by rw [cc];decide+kernel) (by rw [cc];decide+kernel) rfl rfl .same) | (cases h;done)
 rw [kD cc] at h
 clear cc
 by_cases cc:op="quick"
 ·rw [kE cc] at h
  unfold ZN at h
  repeat' split at h
  all_goals first | (cases h;exact zU (by rw [cc];decide+kernel) (by rw [cc];decide+kernel) (by rw [cc];decide+kernel) rfl rfl .add) | (cases h;exact zU (by rw [cc];decide+kernel) (by rw [cc];decide+kernel) (by rw [cc];decide+kernel) rfl rfl .same) | (cases h;done)
 rw [kD cc] at h
 clear cc
 by_cases cc:op="store"
 ·rw [kE cc] at h
  unfold ZL at h
  repeat' split at h
  all_goals first | (cases h;done) | skip
  cases h
  refine ⟨by rw [kD (by rw [cc];decide+kernel),kZ],fun nm hn=>?_,fun k hk=>Plu.d1 k (by unfold dueD at hk;rw [kD (by rw [cc];decide+kernel),kD (by rw [cc];decide+kernel)] at hk;exact hk)⟩
  rw [Qs,kD]
  rcases hn with hn | hn
  ·exact absurd (.inl cc) hn
  ·intro z
   injection z with z
   exact hn (by rw [z])
 rw [kD cc] at h
 clear cc
 by_cases cc:op="clear"
 ·rw [kE cc] at h
  unfold Zd at h
  repeat' split at h
  all_goals first | (cases h;done) | skip
  ·cases h
   exact zU (by rw [cc];decide+kernel) (by rw [cc];decide+kernel) (by rw [cc];decide+kernel) rfl rfl .same
  ·cases h
   refine ⟨by rw [kD (by rw [cc];decide+kernel),kZ],fun nm hn=>?_,fun k hk=>rfl⟩
   refine z2H fun z=>?_
   rcases hn with hn | hn
   ·exact absurd (.inr cc) hn
   ·injection z with z
    exact hn (by rw [z])
 rw [kD cc] at h
 clear cc
 by_cases cc:op="tell"
 ·rw [kE cc] at h
  unfold JO at h
  repeat' split at h
  all_goals first | (cases h;done) | skip
  rename_i v hv _
  cases h
  refine ⟨by rw [kE cc,hv];rfl,fun _ _=>rfl,fun k hk=>Plu.d1 k (by unfold dueD at hk;rw [kD (by rw [cc];decide+kernel),kD (by rw [cc];decide+kernel)] at hk;exact hk)⟩
 rw [kD cc] at h
 clear cc
 by_cases cc:op="iftrue"
 ·rw [kE cc] at h
  unfold gIf at h
  repeat' split at h
  all_goals first | (cases h;exact zU (by rw [cc];decide+kernel) (by rw [cc];decide+kernel) (by rw [cc];decide+kernel) rfl rfl .d1) | (cases h;exact zU (by rw [cc];decide+kernel) (by rw [cc];decide+kernel) (by rw [cc];decide+kernel) rfl rfl .same) | (cases h;done)
 rw [kD cc] at h
 clear cc
 by_cases cc:op="iffalse"
 ·rw [kE cc] at h
  unfold gIf at h
  repeat' split at h
  all_goals first | (cases h;exact zU (by rw [cc];decide+kernel) (by rw [cc];decide+kernel) (by rw [cc];decide+kernel) rfl rfl .d1) | (cases h;exact zU (by rw [cc];decide+kernel) (by rw [cc];decide+kernel) (by rw [cc];decide+kernel) rfl rfl .same) | (cases h;done)
 rw [kD cc] at h
 clear cc
 by_cases cc:op="ortrue"
 ·rw [kE cc] at h
  unfold gOr at h
  repeat' split at h
  all_goals first | (cases h;exact zU (by rw [cc];decide+kernel) (by rw [cc];decide+kernel) (by rw [cc];decide+kernel) rfl rfl .d1) | (cases h;exact zU (by rw [cc];decide+kernel) (by rw [cc];decide+kernel) (by rw [cc];decide+kernel) rfl rfl .same) | (cases h;done)
 rw [kD cc] at h
 clear cc
 by_cases cc:op="orfalse"
 ·rw [kE cc] at h
  unfold gOr at h
  repeat' split at h
  all_goals first | (cases h;exact zU (by rw [cc];decide+kernel) (by rw [cc];decide+kernel) (by rw [cc];decide+kernel) rfl rfl .d1) | (cases h;exact zU (by rw [cc];decide+kernel) (by rw [cc];decide+kernel) (by rw [cc];decide+kernel) rfl rfl .same) | (cases h;done)
 rw [kD cc] at h
 clear cc
 by_cases cc:op="return"
 ·rw [kE cc] at h
  unfold jx at h
  repeat' split at h
  all_goals first | (cases h;exact zU (by rw [cc];decide+kernel) (by rw [cc];decide+kernel) (by rw [cc];decide+kernel) rfl rfl .d1) | (cases h;exact zU (by rw [cc];decide+kernel) (by rw [cc];decide+kernel) (by rw [cc];decide+kernel) rfl rfl .same) | (cases h;done)
 rw [kD cc] at h
 clear cc
 by_cases cc:op="jump"
 ·rw [kE cc] at h
  cases h
  exact zU (by rw [cc];decide+kernel) (by rw [cc];decide+kernel) (by rw [cc];decide+kernel) rfl rfl .same
 rw [kD cc] at h
 clear cc
 by_cases cc:op="drop"
 ·rw [kE cc] at h
  unfold JQ at h
  repeat' split at h
  all_goals first | (cases h;exact zU (by rw [cc];decide+kernel) (by rw [cc];decide+kernel) (by rw [cc];decide+kernel) rfl rfl .d1) | (cases h;done)
 rw [kD cc] at h
 clear cc
 by_cases cc:op="copy"
 ·rw [kE cc] at h
  unfold JR at h
  repeat' split at h
  all_goals first | (cases h;done) | skip
  cases h
  exact ⟨by rw [kD (by rw [cc];decide+kernel),kZ],fun _ _=>rfl,fun k hk=>Zz (by unfold dueD at hk;rw [kE cc] at hk;exact hk)⟩
 rw [kD cc] at h
 by_cases cs:op="swap"
 ·rw [kE cs] at h
  unfold JP at h
  split at h
  ·rename_i j v t hd hl
   cases h
   refine ⟨by rw [kD (by rw [cs];decide+kernel),kZ],fun _ _=>rfl,fun k hk=>?_⟩
   unfold dueD at hk
   rw [kD cc,kE cs] at hk
   unfold JT at hd
   split at hd
   ·rename_i n
    split at hd
    ·rename_i hn
     obtain ⟨x,hx,e⟩:=Option.map_eq_some_iff.mp hd
     cases e
     have:=h9 cs n rfl
     show ((m.st.set (m.st.length - 1) v).set (m.st.length - n.toNat) t).take k=_
     rw [List.take_set_of_le (by lia),List.take_set_of_le (by lia)]
    ·cases hd
   ·cases hd
  ·cases h
 rw [kD cs] at h
 by_cases ce:op="raise"
 ·rw [kE ce] at h
  unfold ZM at h
  split at h
  ·split at h
   ·obtain ⟨x,hx,e⟩:=Option.map_eq_some_iff.mp h
    cases e
    exact zU (by rw [ce];decide+kernel) cc cs rfl rfl .d1
   ·cases h
  ·cases h
 rw [kD ce] at h
 cases h
theorem z1o (st:List V) {g:Int} (h0:0≤g):cutV st none (some g)=st.take g.toNat:=by
 by_cases h1:g≤st.length
 ·exact z66 st h0 h1
 ·unfold cutV
  have e1:HT.sIx st.length 0 none=0:=rfl
  have e2:HT.sIx st.length st.length (some g)=st.length:=by
   show (if g < 0 then (g+(st.length:Int)).toNat else min g.toNat st.length)=st.length
   rw [kD (by lia)]
   lia
  rw [e1,e2,List.drop_zero,Nat.sub_zero,List.take_length,List.take_of_length_le (by lia)]
theorem z6i {rs:List Row} {m m1:Mst} {gs gs1:List Gd} {e e1:List V} {k:Str} {l:Int} {here1:Option Nat} (h:Qk rs m gs e k l=some (m1,gs1,e1,here1)):m1.sd=m.sd∧m1.kn=m.kn∧(m1.st=m.st∨∃g,gs.getLast?=some g∧m1.st=cutV m.st none (some g.2)++[V.str k]):=by
 unfold Qk at h
 repeat' split at h
 all_goals first
  | (cases h;done)
  | (cases h;exact ⟨rfl,rfl,.inl rfl⟩)
  | skip
 rename_i g hg _ _ _ _ _ _ _ _
 cases h
 exact ⟨rfl,rfl,.inr ⟨g,hg,rfl⟩⟩
theorem z6o {rs:List Row} {m m1:Mst} {gs gs1:List Gd} {pas pas1:List Nat} {p:Nat} {e1:List V} {here1:Option Nat} (h:QE rs m gs pas p=some (m1,gs1,pas1,e1,here1)) (h9:∀r∈rs,r.op="swap"→∀n,r.arg=.int n→n≤9) (hg:∀g,gs.getLast?=some g→0≤g.2):
  ∃r,rs[p]?=some r∧m1.sd=m.sd++(if r.op="tell" then m.st.getLast?.toList else [])∧(∀nm:Str,(¬(r.op="store"∨r.op="clear")∨r.arg≠.str nm)→valV m1.kn (Sum.inr nm:Key)=valV m.kn (Sum.inr nm:Key))∧
   ∀k:Nat,k+dueD r.op≤m.st.length→(∀g,gs.getLast?=some g→k≤g.2.toNat)→m1.st.take k=m.st.take k:=by
 unfold QE at h
 cases hr:rs[p]? with
 | none=>rw [hr] at h;cases h
 | some r=>
  rw [hr] at h
  dsimp only at h
  by_cases hz:qO pas.length=true
  case neg=>rw [kD hz] at h;cases h
  rw [kE hz] at h
  cases hrow:rowM r.op r.arg m with
  | none=>rw [hrow] at h;cases h
  | some rm=>
   obtain ⟨res,m'⟩:=rm
   rw [hrow] at h
   have fx:=z8d hrow (h9 r (kK hr))
   refine ⟨r,rfl,?_⟩
   have same:m1=m'→m1.sd=m.sd++(if r.op="tell" then m.st.getLast?.toList else [])∧(∀nm:Str,(¬(r.op="store"∨r.op="clear")∨r.arg≠.str nm)→valV m1.kn (Sum.inr nm:Key)=valV m.kn (Sum.inr nm:Key))∧
     ∀k:Nat,k+dueD r.op≤m.st.length→(∀g,gs.getLast?=some g→k≤g.2.toNat)→m1.st.take k=m.st.take k:=fun e=>by
    subst e
    exact ⟨fx.sd,fx.kn,fun k hk _=>fx.st k hk⟩
   cases res with
   | fault kd=>
    dsimp only at h
    cases ht:Qk rs m' gs [.str "on"] kd r.line with
    | none=>rw [ht] at h;cases h
    | some x=>
     obtain ⟨a,b,c,d⟩:=x
     rw [ht] at h
     cases h
     obtain ⟨q1,q2,q3⟩:=z6i ht
     refine ⟨by rw [q1];exact fx.sd,fun nm hn=>by rw [q2];exact fx.kn nm hn,fun k hk hkg=>?_⟩
     have base:=fx.st k hk
     rcases q3 with q3 | ⟨g,eg,q3⟩
     ·rw [q3];exact base
     ·have hk2:k≤m'.st.length:=by
       have:=congrArg List.length base
       rw [List.length_take,List.length_take] at this
       lia
      have h0:=hg g eg
      have hkg:=hkg g eg
      rw [q3,z1o _ h0,Zz (by rw [List.length_take];lia),List.take_take,Nat.min_eq_left hkg]
      exact base
   | _=>
    dsimp only at h
    repeat' split at h
    all_goals first
     | (cases h;done)
     | (injection h with h;injection h with h1 h2;exact same h1.symm)
set_option maxHeartbeats 4000000
theorem z28:∀(ns:List (V × Sta)) (f:Fnd) (w:List Nat) {f':Fnd} {w':List Nat},ZX ns f w=some (f',w')→
  f'.length=f.length∧(∀(p:Nat) s,f[p]?=some (some s)→f'[p]?=some (some s))∧(∀x s',(x,s')∈ns→∃j:Nat,x=.int (j:Int)∧f'[j]?=some (some s'))∧(∀(p:Nat) s,f'[p]?=some (some s)→f[p]?=some (some s)∨(f[p]?=some none∧p∈w'∧(.int (p:Int),s)∈ns))∧∀p∈w,p∈w'
 :=by
 intro ns
 induction ns with
 | nil=>
  intro f w f' w' h
  cases h
  exact ⟨rfl,fun _ _ e=>e,fun _ _ h=>(by cases h),fun _ _ e=>.inl e,fun _ h=>h⟩
 | cons hd ns ih=>
  obtain ⟨x,s⟩:=hd
  intro f w f' w' h
  unfold ZX at h
  cases x with
  | int i=>
   dsimp only at h
   by_cases hi:0≤i
   case neg=>rw [kD hi] at h;cases h
   rw [kE hi] at h
   obtain ⟨j,rfl⟩:=yc hi
   rw [yd] at h
   cases e:f[j]? with
   | none=>rw [e] at h;cases h
   | some o=>
    rw [e] at h
    have hj:j < f.length:=(ki.mp e).1
    cases o with
    | none=>
     dsimp only at h
     obtain ⟨a,b,c,d,g⟩:=ih _ _ h
     have keep:∀(p:Nat) s0,f[p]?=some (some s0)→(f.set j (some s))[p]?=some (some s0):=fun p s0 hh=>by
      by_cases hp:p=j
      ·subst hp;rw [e] at hh;cases hh
      ·rw [List.getElem?_set_ne (Ne.symm hp)];exact hh
     have hs:(f.set j (some s))[j]?=some (some s):=List.getElem?_set_self hj
     refine ⟨by rw [a,List.length_set],fun p s0 h=>b p s0 (keep p s0 h),fun x s' hx=>?_,fun p s0 h=>?_,fun p hp=>g p (kR _ hp)⟩
     ·rcases kH.mp hx with z | z
      ·cases z;exact ⟨j,rfl,b j s hs⟩
      ·exact c x s' z
     ·rcases d p s0 h with z | ⟨z1,z2,z3⟩
      ·by_cases hp:p=j
       ·subst hp
        rw [hs] at z
        cases z
        exact .inr ⟨e,g p (kQ _ (ku.mpr rfl)),kU ..⟩
       ·rw [List.getElem?_set_ne (Ne.symm hp)] at z
        exact .inl z
      ·by_cases hp:p=j
       ·subst hp
        rw [hs] at z1
        cases z1
       ·rw [List.getElem?_set_ne (Ne.symm hp)] at z1
        exact .inr ⟨z1,z2,kW _ z3⟩
    | some s1=>
     dsimp only at h
     by_cases hz:s1=s
     case neg=>rw [kD hz] at h;cases h
     rw [kE hz] at h
     obtain ⟨a,b,c,d,g⟩:=ih _ _ h
     refine ⟨a,b,fun x s' hx=>?_,fun p s0 h=>?_,g⟩
     ·rcases kH.mp hx with z | z
      ·cases z;exact ⟨j,rfl,b j _ (by rw [e,hz])⟩
      ·exact c x s' z
     ·rcases d p s0 h with z | ⟨z1,z2,z3⟩
      ·exact .inl z
      ·exact .inr ⟨z1,z2,kW _ z3⟩
  | _=>cases h
def z69 (rs:List Row) (f:Fnd) (p:Nat) (s:Sta):Prop:=∃r,rs[p]?=some r∧jI rs p r s.1 s.2.getLast?=[]∧s.2.length≤1000∧∀x s',(x,s')∈Zl rs p r s→∃j:Nat,x=.int (j:Int)∧f[j]?=some (some s')
structure BInv (rs:List Row) (f:Fnd) (w:List Nat):Prop where
 len:f.length=rs.length
 zero:f[0]?=some (some (0,[]))
 done:∀(p:Nat) s,f[p]?=some (some s)→p∈w∨z69 rs f p s
 from_:∀(p:Nat) s,f[p]?=some (some s)→p=0∨∃q r sq,q≠p∧rs[q]?=some r∧f[q]?=some (some sq)∧(V.int (p:Int),s)∈Zl rs q r sq
theorem z5D {rs:List Row}:∀(n:Nat) (f:Fnd) (w:List Nat) {fin:Fnd},BInv rs f w→bfs rs n f w=some fin→BInv rs fin []
 :=by
 have nil:∀(n:Nat) (f:Fnd) {fin:Fnd},BInv rs f []→bfs rs n f []=some fin→BInv rs fin []:=fun n f fin I h=>by
  have:bfs rs n f []=some f:=by cases n <;> rfl
  rw [this] at h
  cases h
  exact I
 intro n
 induction n with
 | zero=>
  intro f w fin I h
  cases w with
  | nil=>exact nil _ _ I h
  | cons p w=>cases h
 | succ n ih=>
  intro f w fin I h
  cases w with
  | nil=>exact nil _ _ I h
  | cons p w=>
   unfold bfs at h
   cases hr:rs[p]? with
   | none=>rw [hr] at h;cases h
   | some r=>
    cases hp:f[p]? with
    | none=>rw [hr,hp] at h;cases h
    | some o=>
     cases o with
     | none=>rw [hr,hp] at h;cases h
     | some s=>
      rw [hr,hp] at h
      dsimp only at h
      by_cases hz:(jI rs p r s.1 s.2.getLast?).isEmpty=true∧s.2.length≤1000
      case neg=>rw [kD hz] at h;cases h
      rw [kE hz] at h
      cases hx:ZX (Zl rs p r s) f w with
      | none=>rw [hx] at h;cases h
      | some fw=>
       obtain ⟨f',w'⟩:=fw
       rw [hx] at h
       dsimp only at h
       obtain ⟨a,b,c,d,g⟩:=z28 _ _ _ hx
       refine ih f' w' ⟨by rw [a,I.len],b _ _ I.zero,fun q sq hq=>?_,fun q sq hq=>?_⟩ h
       ·rcases d q sq hq with z | ⟨z1,z2,z3⟩
        ·rcases I.done q sq z with y | ⟨r',y1,y2,y3,y4⟩
         ·rcases kH.mp y with y | y
          ·subst y
           rw [hp] at z
           cases z
           exact .inr ⟨r,hr,List.isEmpty_iff.mp hz.1,hz.2,c⟩
          ·exact .inl (g q y)
         ·exact .inr ⟨r',y1,y2,y3,fun x s' hx=>let ⟨j,e1,e2⟩:=y4 x s' hx;⟨j,e1,b _ _ e2⟩⟩
        ·exact .inl z2
       ·rcases d q sq hq with z | ⟨z1,z2,z3⟩
        ·rcases I.from_ q sq z with y | ⟨q',r',sq',y1,y2,y3,y4⟩
         ·exact .inl y
         ·exact .inr ⟨q',r',sq',y1,y2,b _ _ y3,y4⟩
        ·refine .inr ⟨p,r,s,fun y=>?_,hr,b _ _ hp,z3⟩
         subst y
         rw [hp] at z1
         cases z1
theorem z0T {rs:List Row} {fin:Fnd} (h0:0 < rs.length) (h:ZV rs=some fin):BInv rs fin []:=by
 unfold ZV at h
 refine z5D 300 _ _ ⟨by rw [List.length_set,List.length_replicate],List.getElem?_set_self (by rw [List.length_replicate];exact h0),fun p s hp=>?_,fun p s hp=>?_⟩ h
 all_goals
  by_cases z:p=0
  ·first
    | exact .inl (by rw [z];exact ku.mpr rfl)
    | exact .inl z
  ·rw [List.getElem?_set_ne (Ne.symm z),List.getElem?_replicate] at hp
   split at hp <;> cases hp
end My
namespace L2
open PySem PySem.Spec PyProof.Rows
section
variable {X:Cx}
end
end L2
namespace L2
open PySem PySem.Spec PyProof.Rows
section
variable {X:Cx}
end
end L2
namespace L2
open PySem PySem.Spec PyProof.Rows
section
variable {X:Cx}
end
end L2
namespace L2
open PySem PySem.Spec PyProof.Rows
section
variable {X:Cx}
end
end L2
namespace L2
open PySem PySem.Spec PyProof.Rows
section
variable {X:Cx}
end
end L2
namespace L2
open PySem PySem.Spec PyProof.Rows
theorem z0c {α β:Type} {R:α→β→Prop}:∀{as:List α} {bs:List β},as.length=bs.length→(∀(j:Nat) a b,as[j]?=some a→bs[j]?=some b→R a b)→Paired R as bs
 | [],[],_,_=>.nil
 | [],_ :: _,h,_=>by cases h
 | _ :: _,[],h,_=>by cases h
 | a :: as,b :: bs,h,g=>.cons (g 0 a b rfl rfl) (z0c (by simpa using h) fun j x y hx hy=>g (j+1) x y (by simpa using hx) (by simpa using hy))
noncomputable def KVw (v d:Addr):HO:=.ext fun h=>PySem.W.KdlKeysView h v d
def z9m (td:TE):TE:=fun σ H Q=>td σ H fun x H1=>∃d kvs,x=.ref d∧Rd H1 d (.dK kvs)∧∀v,H1 v=none→Q (.ref v) (upd H1 v (KVw v d))
section
variable {X:Cx}
theorem z3j {o:Expr} {apos cpos:Pos} {td:TE} (ho:PE X o td) (hbase:autoParam (attributeBase o "keys" X.env (eval o X.env)=eval o X.env) aR._auto_1) (hline:autoParam ((apos.endLine == cpos.line)=true) aR._auto_1):PE X (.Call (.Attribute o "keys" apos) [] [] cpos) (z9m td):=by
 intro pins s σ H Q I h
 refine wpAny_Call_method0_late hbase hline (thn (ho pins s σ H _ I h) fun v s1 zz=>?_)
 obtain ⟨x,H1,I1,r1,a,kvs,ex,ha,q1⟩:=zz
 subst ex
 cases r1
 obtain ⟨hz,hsy,vs,rel,dd⟩:=Qp I1.hok ha
 obtain ⟨ob,es,ep,hob,hex,hdat,r3⟩:=id dd
 refine ⟨"dict",_,F.plainAttrs_dict,F.slot_dict_keys,F.type_dict_keys,⟨ob,hob,hex.1⟩,fun b z=>(by cases z;exact ⟨ob,hob,hex.2.1⟩),Calls.callWith_builtin rfl (PySem.evalArgs_none ?_)⟩
 refine call_meetsIn F.slot_dict_keys dd.typeIs F.entry_dict_keys (F.args_dict_keys_1 _) (PySem.W.kdl_meets_keys (zM X.prog X.w) a hsy) ⟨⟨vs,dd⟩,?_⟩
 have hn:=I1.hok.fresh (kh s1.heap.objs.size)
 have hv:PySem.W.KdlKeysView (s1.heap.push { cls:=.type "dict_keys",data:=.fields #[.ref a] }) s1.heap.objs.size a:=⟨_,Heap.get?_push_size _ rfl,rfl,rfl⟩
 refine ⟨.ref s1.heap.objs.size,_,I1.laid (a:=s1.heap.objs.size) (o:=KVw s1.heap.objs.size a) (t':=s1.toks) (fun _ _ q=>Heap.get?_push_of_some _ q) (kh _) ⟨hv,⟨_,Heap.get?_push_size _ rfl⟩,fun h1 h2 p k=>?_⟩,rfl,q1 _ hn⟩
 obtain ⟨o,e,c,d⟩:=p
 exact ⟨o,k o e,c,d⟩
theorem Jo (hc:X.calm=true):Z8 X (.type "list") (fun xs H Q=>∃v d kvs,xs=[.ref v]∧H v=some (KVw v d)∧Rd H d (.dK kvs)∧∀l,H l=none→Q (.ref l) (upd H l (.lst (kvs.map fun p=>kV p.1)))):=by
 intro pins s σ H xs us Q I r h
 obtain ⟨v,d,kvs,rfl,hv,hd,q⟩:=h
 obtain ⟨u,rfl,ru⟩:=QD r
 cases ru
 obtain ⟨hz,hsy,vs,rel,dd⟩:=Qp I.hok hd
 obtain ⟨ob,es,ep,hob,hex,hdat,r3⟩:=id dd
 have hkv:PySem.W.KdlKeysView s.heap v d:=(show qz X.prog X.w H s.heap v (KVw v d) from I.hok v _ hv).1
 have hm:s.heap.DictAt (zM X.prog X.w) d vs ep:=⟨ob,es,hob,hex,hdat,r3⟩
 have hlen:kvs.length=vs.length:=rel.length
 refine PySem.W.kdl_call (PySem.W.kdl_keys (knd:=zM X.prog X.w) (kvs:=vs) (ep:=ep)) (I.ok.hd hc) ⟨hkv,hm⟩ (by rw [←hlen];exact hz) fun h' tk acc' c' keep hl hacc=>?_
 have hn:=I.hok.fresh (kh s.heap.objs.size)
 have hv':Vals (kvs.map fun p=>kV p.1) acc'.toList:=by
  refine z0c (by have h1:=hacc.1;have h2:acc'.toList.length=acc'.size:=Array.length_toList;rw [km];lia) fun j x y hx hy=>?_
  rw [List.getElem?_map] at hx
  obtain ⟨p,hp,rfl⟩:=Option.map_eq_some_iff.mp hx
  obtain ⟨u,hu,_⟩:=rel.get hp
  obtain ⟨k,z,e1,e2⟩:=hacc.2 j y (by rw [←Array.getElem?_toList];exact hy)
  rw [hu] at e1
  cases e1
  exact z0p e2
 exact ⟨.ref s.heap.objs.size,_,I.laid (a:=s.heap.objs.size) (o:=.lst (kvs.map fun p=>kV p.1)) (h':=h') (t':=tk) keep (kh _) ⟨by rw [km];exact hz,acc'.toList,c',hv',by simpa using hl⟩,rfl,q _ hn⟩
end
end L2
namespace L2
open PySem PySem.Spec PyProof.Rows
theorem z0a {α:Type} {xs:List α} {i:Nat} (hi:i < xs.length):(xs[i] :: xs.eraseIdx i).Perm xs:=by
 rw [List.eraseIdx_eq_take_drop_succ]
 refine List.perm_middle.symm.trans (.of_eq ?_)
 rw [←List.drop_eq_getElem_cons hi,List.take_append_drop]
section
variable {M:Model} {A:Around} {E:Value→Shared→Prop}
theorem z6a {s:Shared} {src:Source} {n:Nat} {Q:Nat→Shared→Prop} (hn:n≠0) (h:∀i d,i < n→Q i { s with drawn:=d }):wpAny M A (choose src n) Q E s:=
 fun _ _ _=>⟨hn,h _ _ (Nat.mod_lt _ (Nat.pos_of_ne_zero hn))⟩
theorem z4q {α:Type}:∀(n:Nat) (xs:List α) (s:Shared) {Q:List α→Shared→Prop},xs.length=n→(∀ys d,ys.Perm xs→Q ys { s with drawn:=d })→wpAny M A (drawOrder n xs) Q E s:=by
 intro n
 induction n with
 | zero=>
  intro xs s Q hn h
  have:xs=[]:=List.length_eq_zero_iff.mp hn
  subst this
  exact wpAny_pure (h [] s.drawn .nil)
 | succ n ih=>
  intro xs s Q hn h
  cases xs with
  | nil=>cases hn
  | cons y ys=>
   unfold drawOrder
   refine wpAny_bind (z6a (by simp) fun i d hi=>?_)
   have e:(y :: ys)[i]?=some (y :: ys)[i]:=kO hi
   rw [e]
   refine wpAny_bind (ih _ _ (by rw [List.length_eraseIdx,kE hi];lia) fun zs d hz=>?_)
   exact wpAny_pure (h _ _ ((hz.cons _).trans (z0a hi)))
end
theorem z6Q (t:SetTable) (es:Array (Int × Value)) (h:Int) (x:Value):(layNew t es h x).2.1.led=t.led:=by
 unfold layNew
 split
 ·rename_i slot dm _
  show (SetTable.orStandIn (t.put slot).1 _).led=t.led
  have e:(t.put slot).1.led=t.led:=rfl
  unfold SetTable.orStandIn
  split
  ·exact e
  ·exact e
 ·rfl
theorem z3a (t:SetTable) (es:Array (Int × Value)) (n:Nat):(relayAll t es n).2.1.led=t.led∧((relayAll t es n).2.1.plain=true→t.plain=true):=by
 unfold relayAll
 split
 ·rename_i t' order e
  dsimp only
  have e1:t'.led=t.led∧t'.plain=t.plain:=by
   unfold SetTable.relaid SetTable.laid at e
   obtain ⟨ow,_,e⟩:=Option.bind_eq_some_iff.mp e
   cases e
   exact ⟨rfl,rfl⟩
  split
  ·exact ⟨e1.1,fun h=>e1.2▸h⟩
  ·exact ⟨rfl,fun h=>by cases h⟩
 ·exact ⟨rfl,fun h=>by cases h⟩
noncomputable def tob (w:World):Bool:=w.params.followText "set-order"
def TxS (P:Program) (w:World) (h:Heap) (a:Addr) (ks:List Str):Prop:=
 ∃(es:Array (Int × Value)) (ep:Nat) (t:SetTable),h.get? a=some { cls:=.type "set",dict:=none,data:=.set es ep t,slots:=#[] }∧ElemsOf (PySem.strKind P w) es.toList∧
  (es.toList.map fun e=>strOf e.2).Perm ks∧ks.length < scanBound∧t.fits es.size=true∧(t.plain=true→es.size=0)∧t.led= !tob w
noncomputable def addT (ks:List Str) (z:Str):List Str:=if z∈ks then ks else ks++[z]
theorem z22 (ks:List Str) (z:Str):(addT ks z).length≤ks.length+1:=by
 unfold addT
 split
 ·lia
 ·simp
theorem z1g {P:Program} {w:World} {k:Str} {v:Value}:(PySem.strKind P w).is k v=true→∃t,v=.str k t:=fun h=>Value.isStrOf_shape h
theorem z0R {P:Program} {w:World} {k:Str} {t:Tok}:(PySem.strKind P w).is k (.str k t)=true:=by
 show Value.isStrOf k (.str k t)=true
 simp [Value.isStrOf]
section
variable {prog:Program} {w:World} {A:Around} {E:Value→Shared→Prop}
theorem TxS.kept {h h':Heap} {a:Addr} {ks:List Str} (T:TxS prog w h a ks) (k:∀o,h.get? a=some o→h'.get? a=some o):TxS prog w h' a ks:=
 let ⟨es,ep,t,ho,r⟩:=T;⟨es,ep,t,k _ ho,r⟩
theorem z3c {h:Heap} {a:Addr} {es es':Array (Int × Value)} {ep:Nat} {t t':SetTable} (ho:h.get? a=some { cls:=.type "set",dict:=none,data:=.set es ep t,slots:=#[] }):
  (h.update a (Obj.putSet es' t')).get? a=some { cls:=.type "set",dict:=none,data:=.set es' (ep+1) t',slots:=#[] }:=by
 have:=Heap.get?_update_self (Obj.putSet es' t') ho (by rw [putSet_of es' t' rfl];rfl)
 rw [putSet_of es' t' rfl] at this
 exact this
theorem z21 {g:Bool→Sem Unit} (hg:∀(b:Bool) (s:Shared) (Q:Unit→Shared→Prop),Q () s→wpAny (model prog w) A (g b) Q E s) {s:Shared} {a:Addr} {es:Array (Int × Value)} {ep:Nat} {t:SetTable} (ho:s.heap.get? a=some { cls:=.type "set",dict:=none,data:=.set es ep t,slots:=#[] })
  {es1:Array (Int × Value)} {t2:SetTable} {ks:List Str} (hel:ElemsOf (PySem.strKind prog w) es1.toList) (hp:(es1.toList.map fun e=>strOf e.2).Perm ks) (hb:ks.length < scanBound) (hf:t2.fits es1.size=true) (hpl:t2.plain=false) (hled:t2.led= !tob w) {dm:Bool} {R:Option Bool→Shared→Prop}
  (h:∀h',Heap.SameBut a s.heap h'→TxS prog w h' a ks→R (some true) { s with heap:=h' }):
  wpAny (model prog w) A (storeSet a es1 t2 >>= fun _=>if (!dm&&t2.tooFull)=true then (g (relayAll t2 es1 (SetTable.grown es1.size)).2.2 >>= fun _=>storeSet a (relayAll t2 es1 (SetTable.grown es1.size)).1 (relayAll t2 es1 (SetTable.grown es1.size)).2.1 >>= fun _=>pure (some true)) else pure (some true)) R E s:=by
 have sz:es1.size < scanBound:=by
  have:=hp.length_eq
  rw [km,Array.length_toList] at this
  lia
 refine wpAny_bind (wpAny_storeSet_of ho rfl ?_ (fits_of_scanBound sz))
 have ho1:=z3c (es':=es1) (t':=t2) ho
 have sb:=Heap.SameBut.update s.heap a (Obj.putSet es1 t2)
 split
 ·have p2:=relayAll_perm t2 es1 (SetTable.grown es1.size)
  have f2:=relayAll_fits t2 es1 (SetTable.grown es1.size)
  obtain ⟨l2,q2⟩:=z3a t2 es1 (SetTable.grown es1.size)
  generalize relayAll t2 es1 (SetTable.grown es1.size)=Rl at p2 f2 l2 q2 ⊢
  obtain ⟨es2,t3,gave⟩:=Rl
  dsimp only at p2 f2 l2 q2 ⊢
  refine wpAny_bind (hg _ _ _ ?_)
  have sz2:es2.size < scanBound:=by
   have:=p2.length_eq
   rw [Array.length_toList,Array.length_toList] at this
   lia
  refine wpAny_bind (wpAny_storeSet_of ho1 rfl ?_ (fits_of_scanBound sz2))
  exact wpAny_pure (h _ (sb.trans (Heap.SameBut.update _ a _)) ⟨es2,_,t3,z3c ho1,hel.perm p2,(p2.map _).trans hp,hb,f2,fun z=>absurd (q2 z) (by rw [hpl];exact ke),l2.trans hled⟩)
 ·exact wpAny_pure (h _ sb ⟨es1,_,t2,ho1,hel,hp,hb,hf,fun z=>absurd z (by rw [hpl];exact ke),hled⟩)
theorem z5F {s:Shared} {a:Addr} {ks:List Str} {z:Str} {tk:Tok} {Q:Bool→Shared→Prop} (T:TxS prog w s.heap a ks) (hroom:ks.length+1 < scanBound)
  (h:∀h' b,Heap.SameBut a s.heap h'→TxS prog w h' a (addT ks z)→Q b { s with heap:=h' }):
  wpAny (model prog w) A (setAddHashed a (.str z tk) ((PySem.strKind prog w).hash z)) Q E s:=by
 obtain ⟨es,ep,t,ho,hel,hp,hb,hf,hpl,hled⟩:=T
 have lenE:es.size=ks.length:=by
  have:=hp.length_eq
  rw [km,Array.length_toList] at this
  exact this
 unfold setAddHashed setAddHashedIn
 refine wpAny_holding (wpAny_bind (wpAny_setState_of ho rfl hf ?_))
 dsimp only
 rw [byScan_of (knd:=PySem.strKind prog w) rfl (by lia) hel,kE rfl]
 unfold setAddByScan
 refine wpAny_bind (wpAny_bind (wpAny_rule (wpAny_bind (wpAny_setScan_of (knd:=PySem.strKind prog w) z0R ho rfl hf hel ?_))))
 have memE:(∃e∈es.toList,(PySem.strKind prog w).is z e.2=true)↔z∈ks:=by
  rw [←hp.mem_iff,yi]
  constructor
  ·rintro ⟨e,he,hz⟩
   obtain ⟨t',e2⟩:=z1g hz
   exact ⟨e,he,by rw [e2];rfl⟩
  ·rintro ⟨e,he,hz⟩
   obtain ⟨⟨k,hk,_⟩,_⟩:=hel e he
   obtain ⟨t',e2⟩:=z1g hk
   rw [e2] at hz
   cases (show k=z from hz)
   exact ⟨e,he,hk⟩
 cases hr:List.findIdx? (fun e=>(PySem.strKind prog w).is z e.2) es.toList with
 | some j=>
  dsimp only
  obtain ⟨hj,hpj,_⟩:=List.findIdx?_eq_some_iff_getElem.mp hr
  refine wpAny_pure (wpAny_pure ?_)
  have hz:z∈ks:=memE.mp ⟨_,List.getElem_mem hj,hpj⟩
  have:=h s.heap false (Heap.SameBut.refl a s.heap) (by unfold addT;rw [kE hz];exact ⟨es,ep,t,ho,hel,hp,hb,hf,hpl,hled⟩)
  exact this
 | none=>
  dsimp only
  have hz:z∉ks:=fun c=>by
   obtain ⟨e,he,q⟩:=memE.mpr c
   have:=List.findIdx?_eq_none_iff.mp hr e he
   rw [q] at this
   cases this
  have p1:=layNew_perm t es ((PySem.strKind prog w).hash z) (.str z tk)
  have f1:=layNew_fits t es ((PySem.strKind prog w).hash z) (.str z tk)
  have l1:=z6Q t es ((PySem.strKind prog w).hash z) (.str z tk)
  generalize layNew t es ((PySem.strKind prog w).hash z) (.str z tk)=L at p1 f1 l1 ⊢
  obtain ⟨es1,t1,dm,gave⟩:=L
  dsimp only at p1 f1 l1 ⊢
  rw [Array.toList_push] at p1
  have hel1:ElemsOf (PySem.strKind prog w) es1.toList:=(hel.push (k:=z) z0R rfl).perm p1
  have hp1:(es1.toList.map fun e=>strOf e.2).Perm (addT ks z):=by
   unfold addT
   rw [kD hz]
   refine (p1.map _).trans ?_
   rw [kN]
   exact hp.append_right _
  have hb1:(addT ks z).length < scanBound:=by have:=z22 ks z;lia
  have gw:∀(b:Bool) (s₁:Shared) (Q':Unit→Shared→Prop),Q' () s₁→wpAny (model prog w) A (match b with | true=>rule "set.scan.the-table-gave-way" | false=>pure ()) Q' E s₁:=fun b s₁ Q' hq=>by cases b <;> first | exact wpAny_pure hq | exact wpAny_rule hq
  refine wpAny_bind (gw _ _ _ ?_)
  cases ht:t1.plain with
  | true=>
   rw [kE rfl]
   refine wpAny_bind ?_
   rw [hashByValue_scannable 8 (show Value.scannable (.str z tk)=true from rfl)]
   refine wpAny_pure ?_
   refine z21 gw (t2:={ t1 with plain:=false }) ho hel1 hp1 hb1 (SetTable.fits_plain_off f1) rfl (l1.trans hled) fun h' sb T'=>?_
   exact wpAny_pure (h h' true sb T')
  | false=>
   rw [kD ke]
   refine wpAny_bind (wpAny_pure ?_)
   refine z21 gw (t2:=t1) ho hel1 hp1 hb1 f1 ht (l1.trans hled) fun h' sb T'=>?_
   exact wpAny_pure (h h' true sb T')
end
end L2
namespace L2
open PySem PySem.Spec PyProof.Rows
section
variable {prog:Program} {w:World} {A:Around} {E:Value→Shared→Prop}
noncomputable def setO (w:World):Obj:={ cls:=.type "set",dict:=none,data:=.set #[] 0 (.fresh 0 0 (!tob w)) }
theorem z4P {s:Shared} (a:Value) {Q:Value→Shared→Prop} (h:Q (.ref s.heap.objs.size) { s with heap:=s.heap.push (setO w) }):
  codeAny (model prog w) A (.call (.builtin "set.__new__") ⟨[.type "set",a],[]⟩) (wants Q E) s:=by
 refine codeAny_call_builtin PySem.F.plain_set_new PySem.F.entry_set_new (wpAny_of_eq (PySem.F.newCall_set_1 a) ?_)
 unfold Builtin.«set.__new__» Builtin.Frozenset.newClass
 have hsub:=sub_set_self
 obtain ⟨hp,g,d,tk,os⟩:=s
 dsimp only
 wp_walk
 refine wpAny_askSetting (wpAny_pure ?_)
 dsimp only
 simp only [newObj]
 refine wpAny_bind (wpAny_alloc (wpAny_pure ?_))
 exact wpAny_pure h
theorem z6u {h:Heap}:TxS prog w (h.push (setO w)) h.objs.size []:=
 ⟨#[],0,_,Heap.get?_push_size _ rfl,fun e he=>by simp at he,.nil,by decide,rfl,fun _=>rfl,rfl⟩
theorem z2P {vs:List Value} {x:Str} {rest:List Str} (h:StrsAre vs (x :: rest)):∃t us,vs=.str x t :: us∧StrsAre us rest:=by
 cases h with
 | cons y t hr=>exact ⟨t,_,rfl,hr⟩
theorem z4v {l it S:Addr} {items:Array Value} (hA:A.handled=none) {Q:Shared→Prop}:∀(rest:List Str) (i:Nat) (ks:List Str) (s:Shared),StrsAre (items.toList.drop i) rest→s.heap.IsListIter it l i→s.heap.IsList l items→TxS prog w s.heap S ks→it≠S→l≠S→it≠l→
   ks.length+rest.length+1 < scanBound→(∀s',TxS prog w s'.heap S (rest.foldl addT ks)→s'.os=s.os→s'.gens=s.gens→(∀b o,b≠S→b≠it→s.heap.get? b=some o→s'.heap.get? b=some o)→Q s')→
   codeAny (model prog w) A (.builtin "set.update.loop" ⟨[.ref S,.ref it],[]⟩) (wants (fun r s₂=>r=.none∧Q s₂) E) s:=by
 intro rest
 induction rest with
 | nil=>
  intro i ks s hr hit hl T n1 n2 n3 hb q
  have hd:items.toList.drop i=[]:=by cases hr':items.toList.drop i with
   | nil=>rfl
   | cons x xs=>rw [hr'] at hr;cases hr
  have hx:items[i]?=none:=by
   rw [←Array.getElem?_toList,List.getElem?_eq_none]
   exact List.drop_eq_nil_iff.mp hd
  refine codeAny_builtin PyProof.Rows.F.entry_set_update_loop ?_
  rw [Around.under_plainId PyProof.Rows.F.plain_set_update_loop _]
  unfold Builtin.«set.update.loop»
  refine wpAny_bind (wpAny_pyNext_list_end hA hit hl hx fun h' eb=>?_)
  exact wpAny_pure ⟨rfl,q _ (T.kept fun o e=>eb S o (Ne.symm n1) e) rfl rfl fun b o _ hb e=>eb b o hb e⟩
 | cons z rest ih=>
  intro i ks s hr hit hl T n1 n2 n3 hb q
  obtain ⟨t,us,e1,hr'⟩:=z2P hr
  have hx:items[i]?=some (.str z t):=by
   have:(items.toList.drop i)[0]?=(Value.str z t :: us)[0]?:=by rw [e1]
   rw [List.getElem?_drop,Nat.add_zero,Array.getElem?_toList] at this
   exact this
  have hr2:StrsAre (items.toList.drop (i+1)) rest:=by
   have:=congrArg List.tail e1
   rw [List.tail_drop] at this
   rw [this]
   exact hr'
  refine codeAny_builtin PyProof.Rows.F.entry_set_update_loop ?_
  rw [Around.under_plainId PyProof.Rows.F.plain_set_update_loop _]
  unfold Builtin.«set.update.loop»
  refine wpAny_bind (wpAny_pyNext_list_item hit hl hx fun h' hit' sb=>?_)
  refine wpAny_bind (wpAny_holding ?_)
  unfold setAdd
  refine wpAny_holding (wpAny_bind ((PySem.strKind prog w).pyHash (k:=z) z0R ?_))
  have T1:TxS prog w h' S ks:=T.kept fun o e=>(sb.2 S (Ne.symm n1)).trans e
  rw [kS] at hb
  refine z5F (s:={ s with heap:=h',toks:=s.toks+1 }) T1 (by lia) fun h2 b sb2 T2=>?_
  refine wpAny_pure ⟨plainId_quiet PyProof.Rows.F.plain_set_update_loop _,?_⟩
  have hl2:h2.IsList l items:=by
   obtain ⟨o,g1,g2⟩:=hl
   exact ⟨o,(sb2.2 l n2).trans ((sb.2 l (Ne.symm n3)).trans g1),g2⟩
  have hit2:h2.IsListIter it l (i+1):=by
   obtain ⟨o,g1,g2⟩:=hit'
   exact ⟨o,(sb2.2 it n1).trans g1,g2⟩
  have:=z22 ks z
  exact ih (i+1) (addT ks z) _ hr2 hit2 hl2 T2 n1 n2 n3 (by lia) fun s' T3 o1 o2 keep=>q s' T3 o1 o2 fun b o hb hb2 e=>keep b o hb hb2 ((sb2.2 b hb).trans ((sb.2 b hb2).trans e))
theorem J7 {l:Addr} {items:Array Value} {zs:List Str} {s:Shared} {Q:Value→Shared→Prop} (hA:A.handled=none) {o:Obj} {m:Nat} (ho:s.heap.get? l=some o) (hc:o.cls=.type "list") (hdat:o.data=.seq items m) (hz:StrsAre items.toList zs) (hb:zs.length+1 < scanBound)
  (h:∀s',TxS prog w s'.heap s.heap.objs.size (zs.foldl addT [])→s'.os=s.os→s'.gens=s.gens→(∀b o,s.heap.get? b=some o→s'.heap.get? b=some o)→Q (.ref s.heap.objs.size) s'):
  wpAny (model prog w) A (call (.type "set") [.ref l]) Q E s:=by
 obtain ⟨c,tl,hmro⟩:=PySem.F.called_set.mro
 have hmade:=PySem.F.called_set.made
 have hsub:=PySem.F.called_set.sub
 refine wpAny_call (codeAny_of_tree (show wpAny _ _ (callAny (.type "set") _) _ _ _ from wpAny_pure ⟨Code.quiet_builtin _ (by trivial),codeAny_builtin PySem.F.entry_type_call ?_⟩))
 rw [Around.under_plain (weight_type_call_type "set" [.ref l] []) rfl]
 have h1:=PySem.F.called_set.notType
 have h2:=PySem.F.called_set.canCreate
 have h3:=PySem.F.typeCall_set_1 (.ref l)
 repeat (any_goals (first | assumption | wp_step))
 refine codeAny_mono (z4P (.ref l) (E:=E) (Q:=fun obj s₁=>obj=.ref s.heap.objs.size∧s₁={ s with heap:=s.heap.push (setO w) }) ⟨rfl,rfl⟩) fun r s₁ hr=>?_
 cases r with
 | error e=>exact hr
 | ok fl=>
  cases fl with
  | ret obj=>
   obtain ⟨rfl,rfl⟩:=hr
   have hS:(s.heap.push (setO w)).get? s.heap.objs.size=some (setO w):=Heap.get?_push_size _ rfl
   have hT:Shared.TypeIs { s with heap:=s.heap.push (setO w) } (.ref s.heap.objs.size) "set":=⟨_,hS,rfl⟩
   have hli:=PySem.F.called_set.init.lookup
   have hbi:=PySem.F.called_set.init.bind (.ref s.heap.objs.size)
   repeat (any_goals (first | assumption | wp_step))
   refine codeAny_mono (codeAny_call_builtin (R:=wants (fun r s₂=>r=.none∧Q (.ref s.heap.objs.size) s₂) E) PySem.F.called_set.init.plain PySem.F.entry_set_init (check_set_init_1 hT ?_)) fun r₂ s₂ hr₂=>?_
   ·have push:∀b o,s.heap.get? b=some o→(s.heap.push (setO w)).get? b=some o:=fun b o e=>Heap.get?_push_of_some _ e
    have ho':=push _ _ ho
    have hsls:=PySem.F.sub_list_set
    have hslf:=PySem.F.sub_list_frozenset
    have hne:(Value.type "list" == Value.type "dict")=false:=by decide
    obtain ⟨ocls,odict,odata,oslots⟩:=o
    simp only at hc hdat
    subst hc
    subst hdat
    have hl1:(s.heap.push (setO w)).IsList l items:=⟨_,ho',rfl,m,rfl⟩
    unfold Builtin.«set.__init__» noKeywords Builtin.Frozenset.updateFrom
    generalize hPI:pyIter=PI
    unfold setO at hT hS ho' ⊢
    wp_walk
    subst hPI
    refine wpAny_pyIter_list hl1 ?_
    refine wpAny_bind (wpAny_runValue ?_)
    have p2:∀b o,(s.heap.push (setO w)).get? b=some o→((s.heap.push (setO w)).push { cls:=.type "list_iterator",data:=.fields #[.ref l,.int 0 0] }).get? b=some o:=fun b o e=>Heap.get?_push_of_some _ e
    have iOld:∀b o,(s.heap.push (setO w)).get? b=some o→b≠(s.heap.push (setO w)).objs.size:=fun b o e=>Nat.ne_of_lt (Heap.lt_size e)
    have dOld:∀b o,s.heap.get? b=some o→b≠s.heap.objs.size:=fun b o e=>Nat.ne_of_lt (Heap.lt_size e)
    refine codeAny_mono (z4v (E:=E) (Q:=fun s'=>Q (.ref s.heap.objs.size) s') (S:=s.heap.objs.size) (it:=(s.heap.push (setO w)).objs.size) (l:=l) (items:=items) (by simpa using hA) zs 0 [] _ (by simpa using hz) ⟨_,Heap.get?_push_size _ rfl,rfl,rfl⟩ (hl1.push _) ((z6u (prog:=prog) (w:=w) (h:=s.heap)).kept fun o e=>p2 _ o e) (iOld _ _ hS).symm (dOld _ _ ho) (iOld _ _ ho').symm (by simpa using hb) fun s' T o1 o2 keep=>?_) ?_
    ·exact h s' T o1 o2 fun b o e=>keep b o (dOld _ _ e) (iOld _ _ (push _ _ e)) (p2 _ _ (push _ _ e))
    ·intro r s' hr
     cases r with
     | error e=>exact hr
     | ok fl=>
      cases fl with
      | ret v=>
       obtain ⟨rfl,hq⟩:=hr
       exact wpAny_pure (wpAny_pure ⟨rfl,hq⟩)
      | _=>exact hr.elim
   ·cases r₂ with
    | error e=>exact hr₂
    | ok fl₂=>
     cases fl₂ with
     | ret r=>
      obtain ⟨rfl,hq⟩:=hr₂
      repeat (any_goals (first | assumption | wp_step))
     | _=>exact hr₂.elim
  | _=>exact hr.elim
end
end L2
namespace L2
open PySem PySem.Spec PyProof.Rows
theorem Zg:Slot "set_iterator" "__next__" "set_iterator.__next__":=
 .of (owner:="set_iterator") (n:="__next__") (by rw [typeLookup_type,builtinLookup_eq_fast];kernel_rfl) (by trivial) (by trivial) (by trivial) (by first | exact .inl (by trivial) | exact .inr (by trivial)) (by rw [isSubtype_type];kernel_rfl)
theorem z1V:entryFor table "set_iterator.__next__"=some Builtin.«set_iterator.__next__»:=entryFor_of_tree (by kernel_rfl)
theorem z4j (a:Value):argsOk "set_iterator.__next__" ⟨[a],[]⟩:=by unfold argsOk;kernel_rfl
theorem z3P:entryFor table "set.__iter__"=some Builtin.«frozenset.__iter__»:=entryFor_alias (id':="frozenset.__iter__") (by kernel_rfl) rfl (by trivial) (by kernel_rfl)
inductive Way (w:World) (h:Heap) (S:Addr) (es:Array (Int × Value)) (ep:Nat) (t:SetTable):Nat→Value→Option Value→Value→Prop
 | text (i:Nat):tob w=true→Way w h S es ep t i (.int 0 0) (((pickOrder (w.params.setOrder S ep) es)[i]?).map (·.2)) (.int 0 0)
 | drawn (i:Nat) (T:Addr) (o:Obj) (n:Nat) (places:List Nat) (v:Value) (p:Nat):h.get? T=some o→o.data=.seq (places.map fun (i:Nat)=>Value.int i 0).toArray n→places[i]?=some p→es[p]?.map (·.2)=some v→Way w h S es ep t i (.ref T) (some v) (.ref T)
 | drawnEnd (i:Nat) (T:Addr) (o:Obj) (n:Nat) (places:List Nat):h.get? T=some o→o.data=.seq (places.map fun (i:Nat)=>Value.int i 0).toArray n→places[i]?=none→Way w h S es ep t i (.ref T) none (.ref T)
 | one (e:Int × Value) (j:Nat):tob w=false→t.led=true→es=#[e]→t.place=#[j]→Way w h S es ep t 0 (.int 0 0) (some e.2) (.int ((j+1:Nat):Int) 0)
 | oneEnd (e:Int × Value) (j:Nat):tob w=false→t.led=true→es=#[e]→t.place=#[j]→Way w h S es ep t 1 (.int ((j+1:Nat):Int) 0) none .none
 | nil:tob w=false→t.led=true→es=#[]→Way w h S es ep t 0 (.int 0 0) none .none
noncomputable def itO (f0:Value) (i:Nat) (S:Addr) (n ep:Nat):Obj:={ cls:=.type "set_iterator",dict:=none,data:=.fields #[f0,.int i 0,.ref S,.int n 0,.int ep 0],slots:=#[] }
noncomputable def setX (es:Array (Int × Value)) (ep:Nat) (t:SetTable):Obj:={ cls:=.type "set",dict:=none,data:=.set es ep t,slots:=#[] }
section
variable {prog:Program} {w:World} {A:Around} {E:Value→Shared→Prop} {s:Shared}
theorem z26 {α:Type} {Q:α→Shared→Prop} (hh:A.handled=none) (h:∀a h',(∀b o,s.heap.get? b=some o→h'.get? b=some o)→Shared.TypeIs { s with heap:=h' } (.ref a) "StopIteration"→E (.ref a) { s with heap:=h' }):
  wpAny (model prog w) A (newExc (.type "StopIteration") [] >>= fun e=>(raiseNew e:Sem α)) Q E s:=by
 refine wpAny_bind ?_
 simp only [newExc,newTuple]
 refine wpAny_bind (wpAny_newObj_type ?_ (by size_fits))
 refine wpAny_bind (m:=firstArgMember _ _) (wpAny_of_eq (a:=Value.none) (by first | rfl | (simp only [firstArgMember];rfl)) ?_)
 refine wpAny_newObj_type ?_ (by size_fits)
 simp only [raiseNew]
 refine wpAny_bind (wpAny_handled ?_)
 rw [hh]
 exact wpAny_bind (wpAny_pure (wpAny_throw (h _ _ (fun b o e=>Heap.get?_push_of_some _ (Heap.get?_push_of_some _ e)) ⟨_,Heap.get?_push_size _ rfl,rfl⟩)))
theorem z0h {S:Addr} {es:Array (Int × Value)} {t:SetTable} {ep slot i:Nat} {Q:Option (Value × Nat)→Shared→Prop} (hS:s.heap.get? S=some (setX es ep t)) (hf:t.fits es.size=true) (hb:tob w=true)
  (h:Q (((pickOrder (w.params.setOrder S ep) es)[i]?).map fun e=>(e.2,slot)) s):wpAny (model prog w) A (setNext S slot i ep) Q E s:=by
 have eb:w.params.followText "set-order"=true:=hb
 unfold setNext
 refine wpAny_bind (wpAny_setState_of hS rfl hf ?_)
 unfold setsByText
 refine wpAny_bind (wpAny_bind (wpAny_askSetting (wpAny_pure ?_)))
 show wpAny _ _ (if w.params.followText "set-order"=true then _ else _) _ _ _
 rw [kE eb,kD (by simp)]
 refine wpAny_bind ?_
 unfold setWalk
 refine wpAny_bind (wpAny_setState_of hS rfl hf ?_)
 unfold setsByText
 refine wpAny_bind (wpAny_bind (wpAny_askSetting (wpAny_pure ?_)))
 show wpAny _ _ (if w.params.followText "set-order"=true then _ else _) _ _ _
 rw [kE eb]
 exact wpAny_bind (wpAny_askSetting (wpAny_pure (wpAny_pure h)))
theorem Q0 {S:Addr} {es:Array (Int × Value)} {t:SetTable} {ep slot i:Nat} {Q:Option (Value × Nat)→Shared→Prop} (hS:s.heap.get? S=some (setX es ep t)) (hf:t.fits es.size=true) (hb:tob w=false) (hl:t.led=true) (hz:es.size≤1)
  (h:Q (match es[SetTable.below t.place slot]?,t.place[SetTable.below t.place slot]? with | some (_,x),some j=>some (x,j+1) | _,_=>none) s):wpAny (model prog w) A (setNext S slot i ep) Q E s:=by
 have eb:¬w.params.followText "set-order"=true:=fun z=>by rw [show w.params.followText "set-order"=false from hb] at z;cases z
 unfold setNext
 refine wpAny_bind (wpAny_setState_of hS rfl hf ?_)
 unfold setsByText
 refine wpAny_bind (wpAny_bind (wpAny_askSetting (wpAny_pure ?_)))
 show wpAny _ _ (if w.params.followText "set-order"=true then _ else _) _ _ _
 rw [kD eb]
 show wpAny _ _ (if (!t.plain&&decide (es.size > 1))=true then _ else _) _ _ _
 rw [kD (by rw [kj (by lia),Bool.and_false];exact ke)]
 refine wpAny_bind ?_
 show wpAny _ _ (if (!t.led&& !es.isEmpty)=true then _ else _) _ _ _
 rw [kD (by rw [hl];exact ke)]
 exact wpAny_pure (wpAny_pure h)
theorem z0M (j:Nat):SetTable.below #[j] 0=0∧SetTable.below #[j] (j+1)=1:=by
 unfold SetTable.below
 constructor
 ·show SetTable.below.go #[j] 0 1 0 1=0
  unfold SetTable.below.go
  simp [SetTable.below.go]
 ·show SetTable.below.go #[j] (j+1) 1 0 1=1
  unfold SetTable.below.go
  simp [SetTable.below.go]
theorem jr {it S:Addr} {i ep:Nat} {es:Array (Int × Value)} {t:SetTable} {f0 f1 v:Value} {Q:Option Value→Shared→Prop} (hit:s.heap.get? it=some (itO f0 i S es.size ep)) (hS:s.heap.get? S=some (setX es ep t)) (hf:t.fits es.size=true)
  {r:Option Value} (way:Way w s.heap S es ep t i f0 r f1) (hv:some v=r)
  (q:∀h',h'.get? it=some (itO f1 (i+1) S es.size ep)→Heap.SameBut it s.heap h'→Q (some v) { s with heap:=h' }):
  wpAny (model prog w) A (pyNext (.ref it)) Q E s:=by
 have hty:s.TypeIs (.ref it) "set_iterator":=⟨_,hit,rfl⟩
 unfold pyNext
 refine wpAny_bind (wpAny_attempt (wpAny_callSpecial?_slot (name:=Str.ofString "__next__") hty Zg (wpAny_call_entry Zg hty z1V ?_ (z4j _))))
 unfold Builtin.«set_iterator.__next__»
 refine wpAny_bind (m:=slotArgs _ _ _) (wpAny_pure ?_)
 refine wpAny_bind (wpAny_fieldsOf hit rfl ?_)
 dsimp only
 refine wpAny_bind (wpAny_setEntries_of hS rfl hf ?_)
 rw [kD (by simp)]
 have two:∀(f:Value) (h1:Heap),h1.get? it=some (itO f i S es.size ep)→Heap.SameBut it s.heap h1→f=f1→wpAny (model prog w) A.in1 (setField (.ref it) 1 (rawInt ((i:Int)+1)) >>= fun _=>ret v) (fun fin s'=>∃v,fin=Fin.done (Flow.ret v)∧wpAny (model prog w) A (pure (some v)) Q E s') (fun e s'=>
     wpAny (model prog w) A
      (do
       let __do_lift ←isInstance e (Value.type "StopIteration")
       if __do_lift=true then pure none else throw e)
      Q E s') { s with heap:=h1 }:=fun f h1 e1 sb ef=>by
  subst ef
  refine wpAny_bind (wpAny_setField_rec e1 (by simp) fun h2 e2 sb2=>wpAny_pure ⟨v,rfl,wpAny_pure (q h2 ?_ (sb.trans sb2))⟩)
  rw [e2]
  rfl
 cases way with
 | text _ hb=>
  dsimp only
  refine wpAny_bind (z0h hS hf hb ?_)
  cases ho:(pickOrder (w.params.setOrder S ep) es)[i]? with
  | none=>rw [ho] at hv;cases hv
  | some e=>
   rw [show (((i:Nat):Int)).toNat=i from rfl,show (((ep:Nat):Int)).toNat=ep from rfl,ho]
   rw [ho] at hv
   cases hv
   refine wpAny_bind (wpAny_setField_rec hit (by simp) fun h1 e1 sb=>two (.int 0 0) h1 e1 sb rfl)
 | drawn _ T o n places _ p ho hd hp he=>
  cases hv
  dsimp only
  refine wpAny_bind (wpAny_seqItems ho hd ?_)
  have e1:(places.map fun (i:Nat)=>Value.int i 0).toArray[((i:Nat):Int).toNat]?=some (.int p 0):=by
   rw [show (((i:Nat):Int)).toNat=i from rfl]
   simp [hp]
  obtain ⟨e,he,e2⟩:=Option.map_eq_some_iff.mp he
  dsimp only
  rw [e1]
  dsimp only
  refine wpAny_bind ?_
  unfold setNextDrawn
  refine wpAny_bind (wpAny_setState_of hS rfl hf ?_)
  dsimp only
  rw [kD (by simp),show (((p:Nat):Int)).toNat=p from rfl,he]
  subst e2
  exact wpAny_pure (two (.ref T) s.heap hit (.refl ..) rfl)
 | drawnEnd=>cases hv
 | one e j hb hl hes hp=>
  cases hv
  subst hes
  dsimp only
  refine wpAny_bind (Q0 hS hf hb hl (by simp) ?_)
  rw [hp,show Int.toNat 0=0 from rfl,(z0M j).1]
  exact wpAny_bind (wpAny_setField_rec hit (by simp) fun h1 e1 sb=>two (.int ((j+1:Nat):Int) 0) h1 e1 sb rfl)
 | oneEnd=>cases hv
 | nil=>cases hv
theorem j7 {it S:Addr} {i ep:Nat} {es:Array (Int × Value)} {t:SetTable} {f0 f1:Value} {Q:Option Value→Shared→Prop} (hh:A.handled=none) (hit:s.heap.get? it=some (itO f0 i S es.size ep)) (hS:s.heap.get? S=some (setX es ep t)) (hf:t.fits es.size=true)
  {r:Option Value} (way:Way w s.heap S es ep t i f0 r f1) (hv:none=r)
  (q:∀h',(∀b o,b≠it→s.heap.get? b=some o→h'.get? b=some o)→Q none { s with heap:=h' }):
  wpAny (model prog w) A (pyNext (.ref it)) Q E s:=by
 have hty:s.TypeIs (.ref it) "set_iterator":=⟨_,hit,rfl⟩
 unfold pyNext
 refine wpAny_bind (wpAny_attempt (wpAny_callSpecial?_slot (name:=Str.ofString "__next__") hty Zg (wpAny_call_entry Zg hty z1V ?_ (z4j _))))
 unfold Builtin.«set_iterator.__next__»
 refine wpAny_bind (m:=slotArgs _ _ _) (wpAny_pure ?_)
 refine wpAny_bind (wpAny_fieldsOf hit rfl ?_)
 dsimp only
 refine wpAny_bind (wpAny_setEntries_of hS rfl hf ?_)
 rw [kD (by simp)]
 have two:∀(f:Value) (h1:Heap),h1.get? it=some (itO f i S es.size ep)→Heap.SameBut it s.heap h1→wpAny (model prog w) A.in1 (setField (.ref it) 2 Value.none >>= fun _=>newExc (.type "StopIteration") [] >>= fun e=>raiseNew e) (fun fin s'=>∃v,fin=Fin.done (Flow.ret v)∧wpAny (model prog w) A (pure (some v)) Q E s') (fun e s'=>
     wpAny (model prog w) A
      (do
       let __do_lift ←isInstance e (Value.type "StopIteration")
       if __do_lift=true then pure none else throw e)
      Q E s') { s with heap:=h1 }:=fun f h1 e1 sb=>by
  refine wpAny_bind (wpAny_setField_rec e1 (by simp) fun h2 e2 sb2=>z26 hh fun a h3 k3 ty=>?_)
  refine wpAny_bind (wpAny_isInstance (T:="StopIteration") (b:=true) ty isSubtype_stop ?_)
  exact wpAny_pure (q h3 fun b o hb e=>k3 b o ((sb2.2 b hb).trans ((sb.2 b hb).trans e)))
 cases way with
 | text _ hb=>
  dsimp only
  refine wpAny_bind (z0h hS hf hb ?_)
  cases ho:(pickOrder (w.params.setOrder S ep) es)[i]? with
  | some e=>rw [ho] at hv;cases hv
  | none=>
   rw [show (((i:Nat):Int)).toNat=i from rfl,show (((ep:Nat):Int)).toNat=ep from rfl,ho]
   exact two _ s.heap hit (.refl ..)
 | drawn=>cases hv
 | drawnEnd _ T o n places ho hd hp=>
  dsimp only
  refine wpAny_bind (wpAny_seqItems ho hd ?_)
  have e1:(places.map fun (i:Nat)=>Value.int i 0).toArray[((i:Nat):Int).toNat]?=none:=by
   rw [show (((i:Nat):Int)).toNat=i from rfl]
   simp [hp]
  dsimp only
  rw [e1]
  dsimp only
  exact wpAny_bind (wpAny_setField_rec hit (by simp) fun h1 e1 sb=>two _ h1 e1 sb)
 | one=>cases hv
 | oneEnd e j hb hl hes hp=>
  subst hes
  dsimp only
  refine wpAny_bind (Q0 hS hf hb hl (by simp) ?_)
  rw [hp,show (((j+1:Nat):Int)).toNat=j+1 from rfl,(z0M j).2]
  exact two _ s.heap hit (.refl ..)
 | nil hb hl hes=>
  subst hes
  dsimp only
  refine wpAny_bind (Q0 hS hf hb hl (by simp) ?_)
  exact two _ s.heap hit (.refl ..)
end
end L2
namespace L2
open PySem PySem.Spec PyProof.Rows
theorem z35:Slot "set_iterator" "__iter__" "set_iterator.__iter__":=
 .of (owner:="set_iterator") (n:="__iter__") (by rw [typeLookup_type,builtinLookup_eq_fast];kernel_rfl) (by trivial) (by trivial) (by trivial) (by first | exact .inl (by trivial) | exact .inr (by trivial)) (by rw [isSubtype_type];kernel_rfl)
theorem z5s:entryFor table "set_iterator.__iter__"=some Builtin.«dict_keyiterator.__iter__»:=entryFor_alias (id':="dict_keyiterator.__iter__") (by kernel_rfl) rfl (by trivial) (by kernel_rfl)
theorem z7A (a:Value):argsOk "set_iterator.__iter__" ⟨[a],[]⟩:=by unfold argsOk;kernel_rfl
theorem z6D {α:Type} (next:Nat→Nat):∀(fuel k:Nat) (left:List α) (out:Array α),left.length=fuel→(pickOrder.go next fuel k left out).toList.Perm (out.toList++left):=by
 intro fuel
 induction fuel with
 | zero=>
  intro k left out h
  have:left=[]:=List.length_eq_zero_iff.mp h
  subst this
  unfold pickOrder.go
  rw [kZ]
 | succ fuel ih=>
  intro k left out h
  unfold pickOrder.go
  have hi:next k % left.length < left.length:=Nat.mod_lt _ (by lia)
  rw [kO hi]
  dsimp only
  refine (ih _ _ _ (by rw [List.length_eraseIdx,kE hi];lia)).trans ?_
  rw [Array.toList_push,ya]
  exact (z0a hi).append_left _
theorem z2c {α:Type} (next:Nat→Nat) (xs:Array α):(pickOrder next xs).toList.Perm xs.toList:=by
 unfold pickOrder
 have:=z6D next xs.size 0 xs.toList #[] (by simp)
 simpa using this
noncomputable def atPs (es:Array (Int × Value)) (ps:List Nat):List Value:=ps.map fun p=>(es[p]?.map (·.2)).getD .none
theorem z5E (es:Array (Int × Value)):atPs es (List.range es.size)=es.toList.map (·.2):=by
 unfold atPs
 refine List.ext_getElem (by simp) fun i h1 h2=>?_
 have hi:i < es.size:=by simpa using h1
 simp [hi]
inductive WSt (w:World) (I S T:Addr) (vs:List Value) (i:Nat) (h:Heap):Prop
 | text (es:Array (Int × Value)) (ep:Nat) (t:SetTable):h.get? I=some (itO (.int 0 0) i S es.size ep)→h.get? S=some (setX es ep t)→t.fits es.size=true→tob w=true→vs=(pickOrder (w.params.setOrder S ep) es).toList.map (·.2)→WSt w I S T vs i h
 | drawn (es:Array (Int × Value)) (ep:Nat) (t:SetTable) (o:Obj) (n:Nat) (ps:List Nat):h.get? I=some (itO (.ref T) i S es.size ep)→h.get? S=some (setX es ep t)→t.fits es.size=true→h.get? T=some o→o.data=.seq (ps.map fun (i:Nat)=>Value.int i 0).toArray n→(∀p∈ps,p < es.size)→vs=atPs es ps→WSt w I S T vs i h
 | one (e:Int × Value) (ep:Nat) (t:SetTable) (j:Nat):h.get? I=some (itO (if i=0 then .int 0 0 else .int ((j+1:Nat):Int) 0) i S 1 ep)→h.get? S=some (setX #[e] ep t)→t.fits 1=true→tob w=false→t.led=true→t.place=#[j]→vs=[e.2]→WSt w I S T vs i h
 | nil (ep:Nat) (t:SetTable):h.get? I=some (itO (.int 0 0) i S 0 ep)→h.get? S=some (setX #[] ep t)→t.fits 0=true→tob w=false→t.led=true→vs=[]→i=0→WSt w I S T vs i h
theorem WSt.kept {w:World} {I S T:Addr} {vs:List Value} {i:Nat} {h h':Heap} (x:WSt w I S T vs i h) (k:∀b∈[I,S,T],∀o,h.get? b=some o→h'.get? b=some o):WSt w I S T vs i h':=by
 cases x with
 | text es ep t h1 h2 h3 h4 h5=>exact .text es ep t (k _ (by simp) _ h1) (k _ (by simp) _ h2) h3 h4 h5
 | drawn es ep t o n ps h1 h2 h3 h4 h5 h6 h7=>exact .drawn es ep t o n ps (k _ (by simp) _ h1) (k _ (by simp) _ h2) h3 (k _ (by simp) _ h4) h5 h6 h7
 | one e ep t j h1 h2 h3 h4 h5 h6 h7=>exact .one e ep t j (k _ (by simp) _ h1) (k _ (by simp) _ h2) h3 h4 h5 h6 h7
 | nil ep t h1 h2 h3 h4 h5 h6 h7=>exact .nil ep t (k _ (by simp) _ h1) (k _ (by simp) _ h2) h3 h4 h5 h6 h7
theorem WSt.ty {w:World} {I S T:Addr} {vs:List Value} {i:Nat} {s:Shared} (x:WSt w I S T vs i s.heap):s.TypeIs (.ref I) "set_iterator":=by
 cases x with
 | text es ep t h1=>exact ⟨_,h1,rfl⟩
 | drawn es ep t o n ps h1=>exact ⟨_,h1,rfl⟩
 | one e ep t j h1=>exact ⟨_,h1,rfl⟩
 | nil ep t h1=>exact ⟨_,h1,rfl⟩
section
variable {prog:Program} {w:World} {A:Around} {E:Value→Shared→Prop} {s:Shared}
theorem z2G {I S T:Addr} {vs:List Value} (hh:A.handled=none) (hS:S≠I) (hT:T≠I):Walks prog w A I [I,S,T] [I] vs.length (fun i v=>vs[i]?=some v) (fun i h=>WSt w I S T vs i h) where
 sub:=fun b hb=>by simp at hb;simp [hb]
 frame:=fun _ _ _ st k=>st.kept k
 item:=fun i s Q E hi st q=>by
  have sb3:∀{h':Heap},Heap.SameBut I s.heap h'→∀b o,b∉[I]→s.heap.get? b=some o→h'.get? b=some o:=fun sb b o hb e=>(sb.2 b (by simpa using hb)).trans e
  cases st with
  | text es ep t h1 h2 h3 h4 h5=>
   have hv:(pickOrder (w.params.setOrder S ep) es)[i]?.map (·.2)=some vs[i]:=by
    have:vs[i]?=some vs[i]:=kO hi
    rw [←this]
    conv=>rhs;rw [h5]
    rw [List.getElem?_map,Array.getElem?_toList]
   exact jr h1 h2 h3 (.text i h4) hv.symm fun h' e1 sb=>q _ h' s.toks (kO hi) (.text es ep t e1 ((sb.2 S hS).trans h2) h3 h4 h5) (sb3 sb)
  | drawn es ep t o n ps h1 h2 h3 h4 h5 h6 h7=>
   have hl:vs.length=ps.length:=by rw [h7];simp [atPs]
   obtain ⟨p,hp⟩:∃p,ps[i]?=some p:=⟨ps[i]'(by lia),kO (by lia)⟩
   have hlt:=h6 _ (kK hp)
   have hv:vs[i]?=some es[p].2:=by
    rw [h7]
    unfold atPs
    rw [List.getElem?_map,hp]
    simp [hlt]
   exact jr h1 h2 h3 (.drawn i T o n ps _ _ h4 h5 hp (by rw [Array.getElem?_eq_getElem hlt];rfl)) rfl fun h' e1 sb=>q _ h' s.toks hv (.drawn es ep t o n ps e1 ((sb.2 S hS).trans h2) h3 ((sb.2 T hT).trans h4) h5 h6 h7) (sb3 sb)
  | one e ep t j h1 h2 h3 h4 h5 h6 h7=>
   subst h7
   have hi0:i=0:=by simpa using hi
   subst hi0
   exact jr (es:=#[e]) h1 h2 h3 (.one e j h4 h5 rfl h6) rfl fun h' e1 sb=>q _ h' s.toks rfl (.one e ep t j e1 ((sb.2 S hS).trans h2) h3 h4 h5 h6 rfl) (sb3 sb)
  | nil ep t h1 h2 h3 h4 h5 h6 h7=>subst h6;cases hi
 done:=fun s Q E st q=>by
  have k3:∀{h':Heap},(∀b o,b≠I→s.heap.get? b=some o→h'.get? b=some o)→∀b o,b∉[I]→s.heap.get? b=some o→h'.get? b=some o:=fun k b o hb e=>k b o (by simpa using hb) e
  cases st with
  | text es ep t h1 h2 h3 h4 h5=>
   have hv:(pickOrder (w.params.setOrder S ep) es)[vs.length]?.map (·.2)=none:=by
    rw [←Array.getElem?_toList,←List.getElem?_map,←h5]
    exact List.getElem?_eq_none (kh _)
   exact j7 hh h1 h2 h3 (.text _ h4) hv.symm fun h' k=>q h' s.toks (k3 k)
  | drawn es ep t o n ps h1 h2 h3 h4 h5 h6 h7=>
   have hl:vs.length=ps.length:=by rw [h7];simp [atPs]
   exact j7 hh h1 h2 h3 (.drawnEnd _ T o n ps h4 h5 (List.getElem?_eq_none (by lia))) rfl fun h' k=>q h' s.toks (k3 k)
  | one e ep t j h1 h2 h3 h4 h5 h6 h7=>
   subst h7
   exact j7 (es:=#[e]) hh h1 h2 h3 (.oneEnd e j h4 h5 rfl h6) rfl fun h' k=>q h' s.toks (k3 k)
  | nil ep t h1 h2 h3 h4 h5 h6 h7=>
   subst h6
   exact j7 (es:=#[]) hh h1 h2 h3 (.nil h4 h5 rfl) rfl fun h' k=>q h' s.toks (k3 k)
 self:=fun i s Q E st q=>by
  refine wpAny_pyIter_slot st.ty z35 (wpAny_call_entry z35 st.ty z5s ?_ (z7A _))
  show wpAny _ _ (ret (.ref I)) _ _ s
  exact wpAny_pure ⟨_,rfl,"set_iterator",_,st.ty,Zg.lookup,q⟩
end
end L2
namespace L2
open PySem PySem.Spec PyProof.Rows
section
variable {prog:Program} {w:World} {A:Around} {E:Value→Shared→Prop} {s:Shared}
theorem Ji {es:Array (Int × Value)} {vs:List Value} {ks:List Str} (hel:ElemsOf (PySem.strKind prog w) es.toList) (hp:(es.toList.map fun e=>strOf e.2).Perm ks) (hv:vs.Perm (es.toList.map (·.2))):StrsAre vs (vs.map strOf)∧(vs.map strOf).Perm ks:=by
 refine ⟨strsAre_map vs fun v hm=>?_,?_⟩
 ·obtain ⟨e,he,rfl⟩:=yi.mp (hv.mem_iff.mp hm)
  obtain ⟨⟨k,hk,_⟩,_⟩:=hel e he
  obtain ⟨t,e2⟩:=z1g hk
  exact ⟨k,t,e2⟩
 ·refine (hv.map strOf).trans ?_
  rw [List.map_map]
  exact hp
theorem z2q {S:Addr} {ks:List Str} {Q:Value→Shared→Prop} (X:TxS prog w s.heap S ks)
  (q:∀I T vs h' d,S≠I→T≠I→(∀b,b < s.heap.objs.size→b≠S→b∉[I,S,T])→s.heap.objs.size≤I→WSt w I S T vs 0 h'→StrsAre vs (vs.map strOf)→(vs.map strOf).Perm ks→(∀b o,s.heap.get? b=some o→h'.get? b=some o)→Q (.ref I) { s with heap:=h',drawn:=d }):
  wpAny (model prog w) A (pyIter (.ref S)) Q E s:=by
 obtain ⟨es,ep,t,ho,hel,hp,hb,hf,hpl,hled⟩:=X
 have hty:s.TypeIs (.ref S) "set":=⟨_,ho,rfl⟩
 have lt:=Heap.lt_size ho
 have lenE:es.size=ks.length:=by
  have:=hp.length_eq
  rw [km,Array.length_toList] at this
  exact this
 refine wpAny_pyIter_slot hty PySem.F.slot_set_iter (wpAny_call_entry PySem.F.slot_set_iter hty z3P ?_ (PySem.F.args_set_iter_1 _))
 unfold Builtin.«frozenset.__iter__»
 refine wpAny_bind (m:=Builtin.Frozenset.slot0 _ _) (wpAny_pure ?_)
 unfold Builtin.Frozenset.sizeOf
 refine wpAny_bind (wpAny_bind (wpAny_setEntries_of ho rfl hf (wpAny_pure ?_)))
 unfold setDrawn
 refine wpAny_bind (wpAny_bind (wpAny_setState_of ho rfl hf ?_))
 unfold setsByText
 refine wpAny_bind (wpAny_bind (wpAny_askSetting (wpAny_pure ?_)))
 refine wpAny_pure ?_
 show wpAny _ _ (if (!w.params.followText "set-order"&&(!t.plain&&decide (es.size > 1)))=true then _ else _) _ _ _
 have fresh:∀I,s.heap.objs.size≤I→S≠I:=fun I h=>Nat.ne_of_lt (kP lt h)
 have plain:∀vs:List Value,(∀h':Heap,h'.get? s.heap.objs.size=some (itO (.int 0 0) 0 S es.size ep)→h'.get? S=some (setX es ep t)→WSt w s.heap.objs.size S S vs 0 h')→vs.Perm (es.toList.map (·.2))→
   wpAny (model prog w) A.in1 (newFields "set_iterator" [.int 0 0,rawInt 0,.ref S,rawInt es.size,rawInt ep] >>= fun r=>ret r) (fun fin s'=>∃v,fin=Fin.done (Flow.ret v)∧∃T' r,s'.TypeIs v T'∧typeLookup (.type T') "__next__"=pure (some r)∧Q v s') E s:=fun vs mk hv=>by
  refine wpAny_bind (wpAny_newObj_type (wpAny_pure ⟨_,rfl,"set_iterator",_,⟨_,Heap.get?_push_size _ rfl,rfl⟩,Zg.lookup,?_⟩))
  obtain ⟨h1,h2⟩:=Ji hel hp hv
  exact q _ S vs _ s.drawn (fresh _ (kh _)) (fresh _ (kh _)) (fun b hb hne=>by simp only [kH,ky,or_false,not_or];exact ⟨by lia,hne,hne⟩) (kh _) (mk _ (Heap.get?_push_size _ rfl) (Heap.get?_push_of_some _ ho)) h1 h2 fun b o e=>Heap.get?_push_of_some _ e
 cases hbt:tob w with
 | true=>
  have eb:w.params.followText "set-order"=true:=hbt
  rw [eb]
  rw [kD (by simp)]
  refine wpAny_bind (wpAny_pure (wpAny_bind (wpAny_setEpoch_of ho rfl hf ?_)))
  exact plain _ (fun h' e1 e2=>.text es ep t e1 e2 hf hbt rfl) ((z2c _ _).map _)
 | false=>
  have eb:w.params.followText "set-order"=false:=hbt
  have hl:t.led=true:=by rw [hled,hbt];rfl
  rw [eb]
  by_cases hz:es.size > 1
  ·have hpl:t.plain=false:=by
    cases hq:t.plain with
    | false=>rfl
    | true=>have:=hpl hq;lia
   rw [hpl,kl hz,kE (show (!false&&(!false&&true))=true from rfl)]
   refine wpAny_bind (z4q _ _ _ (by simp) fun ys d hy=>wpAny_bind ?_)
   refine wpAny_newTuple ?_ (by rw [km,hy.length_eq,List.length_range];exact fits_of_scanBound (by lia))
   refine wpAny_bind (wpAny_setEpoch_of (o:=setX es ep t) (Heap.get?_push_of_some _ ho) rfl hf ?_)
   refine wpAny_bind (wpAny_newObj_type (wpAny_pure ⟨_,rfl,"set_iterator",_,⟨_,Heap.get?_push_size _ rfl,rfl⟩,Zg.lookup,?_⟩))
   have hv:(atPs es ys).Perm (es.toList.map (·.2)):=by
    rw [←z5E]
    exact hy.map _
   obtain ⟨h1,h2⟩:=Ji hel hp hv
   refine q _ s.heap.objs.size (atPs es ys) _ d (fresh _ (by rw [Heap.size_push];exact Nat.le_succ _)) (by rw [Heap.size_push];exact Nat.ne_of_lt (ye _)) (fun b hb hne=>by simp only [kH,ky,or_false,not_or];rw [Heap.size_push];exact ⟨Nat.ne_of_lt (Nat.lt_succ_of_lt hb),hne,Nat.ne_of_lt hb⟩) (by rw [Heap.size_push];exact Nat.le_succ _) (.drawn es ep t _ 0 ys (Heap.get?_push_size _ rfl) (Heap.get?_push_of_some _ (Heap.get?_push_of_some _ ho)) hf (Heap.get?_push_of_some _ (Heap.get?_push_size _ rfl)) rfl (fun p hm=>List.mem_range.mp (hy.mem_iff.mp hm)) rfl) h1 h2 fun b o e=>Heap.get?_push_of_some _ (Heap.get?_push_of_some _ e)
  ·rw [kj hz,Bool.and_false,Bool.and_false,kD ke]
   refine wpAny_bind (wpAny_pure (wpAny_bind (wpAny_setEpoch_of ho rfl hf ?_)))
   by_cases h0:es.size=0
   ·have e0:es=#[]:=Array.size_eq_zero_iff.mp h0
    subst e0
    exact plain [] (fun h' e1 e2=>.nil ep t e1 e2 hf hbt hl rfl rfl) .nil
   ·obtain ⟨e,he⟩:∃e,es=#[e]:=Array.size_eq_one_iff.mp (by lia)
    subst he
    have hpz:t.place.size=1:=by
     simp only [SetTable.fits,yg,beq_iff_eq] at hf
     exact hf.1
    obtain ⟨j,hj⟩:∃j,t.place=#[j]:=Array.size_eq_one_iff.mp hpz
    exact plain [e.2] (fun h' e1 e2=>.one e ep t j e1 e2 hf hbt hl hj rfl) (.refl _)
theorem JV {S:Addr} {ks:List Str} {Q:List Value→Shared→Prop} (hh:A.handled=none) (X:TxS prog w s.heap S ks)
  (q:∀s' vs,StrsAre vs (vs.map strOf)→(vs.map strOf).Perm ks→(∀b o,s.heap.get? b=some o→s'.heap.get? b=some o)→s'.gens=s.gens→s'.os=s.os→s.heap.objs.size≤s'.heap.objs.size→Q vs s'):
  wpAny (model prog w) A (collect (.ref S)) Q E s:=by
 obtain ⟨es,ep,t,ho,X2⟩:=id X
 have lt:=Heap.lt_size ho
 have hks:ks.length < scanBound:=X2.2.2.1
 unfold collect
 refine wpAny_bind (wpAny_runValue (codeAny_builtin PySem.F.entry_proto_collect ?_))
 rw [Around.under_plainId PySem.F.plain_proto_collect _]
 show wpAny _ A.in1 (newList [] >>= fun l=>again (.builtin "list.__iadd__" ⟨[l,.ref S],[]⟩)) _ _ s
 refine wpAny_bind (wpAny_newObj_type (wpAny_pure ⟨plainId_quiet PySem.F.plain_list_iadd _,codeAny_builtin PySem.F.entry_list_iadd ?_⟩))
 rw [Around.under_plainId PySem.F.plain_list_iadd _]
 show wpAny _ A.in1 (Builtin.List.listExtendWith (.ref s.heap.objs.size) (.ref S) (.ref s.heap.objs.size)) _ _ _
 unfold Builtin.List.listExtendWith
 have push:∀b o,s.heap.get? b=some o→(s.heap.push { cls:=.type "list",data:=.seq ([]:List Value).toArray }).get? b=some o:=fun b o e=>Heap.get?_push_of_some _ e
 have ty1:Shared.TypeIs { s with heap:=s.heap.push { cls:=.type "list",data:=.seq ([]:List Value).toArray } } (.ref S) "set":=⟨_,push _ _ ho,rfl⟩
 refine wpAny_bind (wpAny_typeOf ty1 ?_)
 have n1:Builtin.List.listSameRef (.ref s.heap.objs.size) (.ref S)=false:=by
  show (s.heap.objs.size == S)=false
  exact beq_eq_false_iff_ne.mpr (Nat.ne_of_gt lt)
 have n2:(Value.type "set" == Value.type "list")=false:=by decide
 have n3:(Value.type "set" == Value.type "tuple")=false:=by decide
 simp only [n1,n2,n3,Bool.or_false,Bool.false_eq_true,if_false]
 have X1:TxS prog w (s.heap.push { cls:=.type "list",data:=.seq ([]:List Value).toArray }) S ks:=X.kept fun o e=>push _ o e
 refine wpAny_bind (z2q X1 fun I T vs h' d f1 f2 f3 f4 st hs hp k=>?_)
 refine wpAny_bind (wpAny_holding ?_)
 have ty2:Shared.TypeIs { s with heap:=h',drawn:=d } (.ref S) "set":=⟨_,k _ _ (push _ _ ho),rfl⟩
 unfold Builtin.List.listLengthHint
 refine wpAny_bind (wpAny_specialOf ty2 PySem.F.slot_set_len.lookup ?_)
 wp_delta
 refine wpAny_bind (wpAny_isInstance (b:=true) ty2 sub_set_self ?_)
 show wpAny _ A.in1 (typeOf (Value.ref S) >>= _) _ _ _
 refine wpAny_bind (wpAny_typeOf ty2 ?_)
 refine wpAny_pure ?_
 rw [kE (by decide)]
 refine wpAny_bind (wpAny_rule ?_)
 refine wpAny_bind ?_
 show wpAny _ A.in1 (updateSeq s.heap.objs.size (·.push .none) >>= fun _=>updateSeq s.heap.objs.size (·.pop)) _ _ _
 have hL:h'.get? s.heap.objs.size=some { cls:=.type "list",data:=.seq #[] }:=k _ _ (Heap.get?_push_size _ rfl)
 refine wpAny_bind (wpAny_updateSeq hL rfl ?_)
 have hL2:=Heap.get?_update_self (Obj.mapSeq (·.push Value.none)) hL rfl
 refine wpAny_updateSeq (hz:=by seq_fits) hL2 rfl ?_
 have hL3:=Heap.get?_update_self (Obj.mapSeq (·.pop)) hL2 rfl
 have oth:∀b o,b≠s.heap.objs.size→h'.get? b=some o→((h'.update s.heap.objs.size (Obj.mapSeq (·.push Value.none))).update s.heap.objs.size (Obj.mapSeq (·.pop))).get? b=some o:=
  fun b o hb e=>(Heap.get?_update_other _ _ (Ne.symm hb)).trans ((Heap.get?_update_other _ _ (Ne.symm hb)).trans e)
 have hSf:s.heap.objs.size∉[I,S,T]:=f3 _ (by rw [Heap.size_push];exact ye _) (Nat.ne_of_gt lt)
 have hlen:vs.length≤sizeLine:=by
  have:=hp.length_eq
  rw [km] at this
  exact fits_of_scanBound (by lia)
 have hh2:A.in1.handled=none:=by simpa using hh
 have st2:WSt w I S T vs 0 ((h'.update s.heap.objs.size (Obj.mapSeq (·.push Value.none))).update s.heap.objs.size (Obj.mapSeq (·.pop))):=st.kept fun b hb o e=>oth b o (fun z=>hSf (z▸hb)) e
 refine wpAny_pure ⟨plainId_quiet PySem.F.plain_extend_loop _,codeAny_extend_loopS (A:=A) (z2G (prog:=prog) (w:=w) (vs:=vs) hh2 f1 f2).toS hlen s.heap.objs.size hSf _ vs.length 0 _ _ _ rfl (Nat.zero_le _) st2 hL3 (ItemsOf.nil _) fun s' acc c hm hS' hacc=>?_⟩
 show wpAny _ A (load s.heap.objs.size >>= _) _ _ s'
 refine wpAny_bind (wpAny_load hS' ?_)
 have e1:acc.toList=vs:=by
  refine List.ext_getElem? fun j=>?_
  rw [Array.getElem?_toList]
  cases e:acc[j]? with
  | some v=>exact (hacc.2 j v e).symm
  | none=>
   rw [List.getElem?_eq_none]
   have:=Array.getElem?_eq_none_iff.mp e
   have h1:=hacc.1
   lia
 show wpAny _ _ (pure acc.toList) Q E s'
 rw [e1]
 have keep:∀b o,s.heap.get? b=some o→s'.heap.get? b=some o:=fun b o e=>by
  have lb:=Heap.lt_size e
  refine hm.heap b o ?_ (oth b o (Nat.ne_of_lt lb) (k _ _ (push _ _ e)))
  simp only [kH,ky,or_false,not_or]
  refine ⟨Nat.ne_of_lt lb,fun z=>?_⟩
  rw [Heap.size_push] at f4
  rw [z] at lb
  exact absurd (kP lb (Nat.le_of_succ_le f4)) (Nat.lt_irrefl _)
 refine wpAny_pure (q s' vs hs hp keep hm.gens hm.os ?_)
 exact Nat.le_of_lt (Heap.lt_size hS')
theorem z06 {S:Addr} {ks:List Str} {Q:Value→Shared→Prop} (hh:A.handled=none) (X:TxS prog w s.heap S ks) (h64:ks.length < 64)
  (q:∀s' D (out:Array Value) (ks':List Str) e,StrsAre out.toList ks'→ks'.Perm ks→sortedS ks'=true→s.heap.objs.size≤D→s'.heap.get? D=some (seqObj "list" out e)→(∀b o,s.heap.get? b=some o→s'.heap.get? b=some o)→s'.gens=s.gens→s'.os=s.os→Q (.ref D) s'):
  wpAny (model prog w) A (call (.builtin "sorted") [.ref S]) Q E s:=by
 refine Calls.call_function_entry kind_sorted plain_sorted entry_sorted (args_sorted1 _) ?_
 unfold Builtin.«sorted»
 refine wpAny_bind (m:=checkCount "sorted" 1 1 _) (wpAny_pure ?_)
 refine wpAny_bind (JV (by simpa using hh) X fun s' vs hs hp keep hg hos hsz=>?_)
 have hl64:vs.length < 64:=by
  have:=hp.length_eq
  rw [km] at this
  lia
 refine wpAny_bind (wpAny_newList ?_ (by rw [sizeLine_eq];lia))
 have hoL:(s'.heap.push (seqObj "list" vs.toArray 0)).get? s'.heap.objs.size=some (seqObj "list" vs.toArray 0):=Heap.get?_push_size _ rfl
 refine wpAny_bind (wpAny_holding (wpAny_call_entry slot_list_sort ⟨_,hoL,rfl⟩ entry_list_sort (list_sort_treeK strKind_oneLt hoL hs.keysOf (fun v₁ v₂ rest e=>keyKind_strs (by rw [←e];exact hs)) hl64 fun st' a1 a2=>⟨_,rfl,?_⟩) (args_list_sort _)))
 obtain ⟨ks',b1,b2,b3⟩:=sorted_out_str hs a1 a2
 refine wpAny_pure ⟨_,rfl,?_⟩
 obtain ⟨e,he⟩:∃e,(sortedHeap (s'.heap.push (seqObj "list" vs.toArray 0)) s'.heap.objs.size vs ((arrOf st').map (·.2))).get? s'.heap.objs.size=some (seqObj "list" ((arrOf st').map (·.2)) e):=sortedHeap_at (n:=0) hoL
 refine q _ s'.heap.objs.size _ ks' e b1 (b2.trans hp) b3 hsz he (fun b o eb=>?_) hg hos
 have lb:=Heap.lt_size (keep b o eb)
 rw [sortedHeap_old (Nat.ne_of_lt lb) (by rw [Heap.size_push];exact Nat.lt_succ_of_lt lb)]
 exact Heap.get?_push_of_some _ (keep b o eb)
end
section
variable {X:Cx}
noncomputable def J1 (P:Program) (w:World) (a:Addr) (ks:List Str):HO:=.ext fun h=>TxS P w h a ks
theorem z5I:∀{ks:List Str} {us:List Value},Vals (ks.map V.str) us→StrsAre us ks
 | [],us,h=>by cases h;exact .nil
 | k :: ks,us,h=>by
  cases h with
  | cons r t=>
   obtain ⟨tk,rfl⟩:=r
   exact .cons k tk (z5I t)
theorem z1q:∀{us:List Value} {ks:List Str},StrsAre us ks→Vals (ks.map V.str) us
 | _,_,.nil=>.nil
 | _,_,.cons k t h=>.cons ⟨t,rfl⟩ (z1q h)
theorem z4a (hc:X.calm=true):Z8 X (.type "set") (fun xs H Q=>∃(l:Addr) (ks:List Str),xs=[V.ref l]∧H l=some (.lst (ks.map V.str))∧ks.length≤1000∧∀p,H p=none→Q (.ref p) (upd H p (J1 X.prog X.w p (ks.foldl addT [])))):=by
 intro pins s σ H xs us Q I r h
 obtain ⟨l,ks,rfl,hl,hz,q⟩:=h
 obtain ⟨u,rfl,ru⟩:=QD r
 cases ru
 obtain ⟨_,its,n,rv,ho⟩:=(show qz X.prog X.w H s.heap l (.lst (ks.map V.str)) from I.hok l _ hl)
 have hn:=I.hok.fresh (kh s.heap.objs.size)
 refine J7 (items:=its.toArray) (zs:=ks) (I.ok.hd hc) ho rfl rfl (by simpa using z5I rv) (by unfold scanBound;lia) fun s' T o1 o2 keep=>?_
 have I':=I.laid (a:=s.heap.objs.size) (o:=J1 X.prog X.w s.heap.objs.size (ks.foldl addT [])) (h':=s'.heap) (t':=s'.toks) keep (kh _) ⟨T,by obtain ⟨es,ep,t,g,_⟩:=T;exact ⟨_,g⟩,fun h1 h2 p k=>p.kept k⟩
 exact ⟨.ref s.heap.objs.size,_,⟨I'.ok,o1.trans I'.os,by rw [o2];exact I'.bare,I'.base,I'.loc,I'.cell,I'.free,I'.freeC,I'.pin,I'.hok,I'.len⟩,rfl,q _ hn⟩
theorem z0F (hc:X.calm=true):Z8 X (.builtin "sorted") (fun xs H Q=>∃(p:Addr) (ks:List Str),xs=[V.ref p]∧H p=some (J1 X.prog X.w p ks)∧ks.length < 64∧∀(d:Addr) (ks':List Str),H d=none→ks'.Perm ks→sortedS ks'=true→Q (.ref d) (upd H d (.lst (ks'.map V.str)))):=by
 intro pins s σ H xs us Q I r h
 obtain ⟨p,ks,rfl,hl,hz,q⟩:=h
 obtain ⟨u,rfl,ru⟩:=QD r
 cases ru
 have T:TxS X.prog X.w s.heap p ks:=(show qz X.prog X.w H s.heap p (J1 X.prog X.w p ks) from I.hok p _ hl).1
 refine z06 (I.ok.hd hc) T hz fun s' D out ks' e h1 h2 h3 h4 h5 keep o2 o1=>?_
 have hn:=I.hok.fresh h4
 have I':=I.laid (a:=D) (o:=.lst (ks'.map V.str)) (h':=s'.heap) (t':=s'.toks) keep h4 ⟨by rw [km,h2.length_eq,sizeLine_eq];lia,out.toList,e,z1q h1,by simpa using h5⟩
 exact ⟨.ref D,_,⟨I'.ok,o1.trans I'.os,by rw [o2];exact I'.bare,I'.base,I'.loc,I'.cell,I'.free,I'.freeC,I'.pin,I'.hok,I'.len⟩,rfl,q _ _ hn h2 h3⟩
end
end L2
namespace L2
open PySem PySem.Spec PyProof.Rows
section
variable {X:Cx}
theorem z8s (hu:X.A.units < cLine):OpR X (compareOp .NotEq) (fun x y H Q=>∃(l l':Addr) (xs:List V),x=.ref l∧y=.ref l'∧SqL X.K H l xs∧SqL X.K H l' []∧Q (.bl (!xs.isEmpty)) H):=by
 intro pins s σ H x y v u Q I rx ry h
 obtain ⟨l,l',xs,rfl,rfl,hl,hl',q⟩:=h
 cases rx
 cases ry
 obtain ⟨its,rv,pl,_⟩:=I.list hl
 obtain ⟨its',rv',pl',_⟩:=I.list hl'
 cases rv'
 cases rv with
 | nil=>exact SeqAt.RcNeAt.lists (e:=fun j=>true) pl.isList pl'.isList rfl hu (fun j h1 h2=>absurd h1 (by simp)) X.prog X.w X.xe _ ⟨.bl _,H,I,rfl,q⟩
 | cons r t=>exact SeqAt.RcNeAt.lists_lengths pl.isList pl'.isList (by simp) hu X.prog X.w X.xe _ ⟨.bl _,H,I,rfl,q⟩
end
end L2
set_option maxHeartbeats 16000000
namespace My
open PySem PySem.Spec PyProof.Rows L2
variable {P:Program} {w:World} {K:kC} {mg:Str→Option Value} {base:Heap}
theorem z44 (ys:List V) (z:V):cutV (ys++[z]) (some (-1)) none=[z]:=by
 unfold cutV
 have hl:(ys++[z]).length=ys.length+1:=by simp
 have e1:HT.sIx (ys++[z]).length 0 (some (-1))=ys.length:=by
  rw [hl]
  show (if (-1:Int) < 0 then ((-1:Int)+((ys.length+1:Nat):Int)).toNat else min (-1:Int).toNat (ys.length+1))=_
  rw [kE (by decide)]
  lia
 have e2:HT.sIx (ys++[z]).length (ys++[z]).length none=ys.length+1:=by rw [hl];rfl
 rw [e1,e2,List.drop_left,show ys.length+1 - ys.length=1 by lia]
 rfl
theorem z45 (xs:List V):cutV xs (some (-1)) none=xs.getLast?.toList:=by
 by_cases h:xs=[]
 ·subst h;rfl
 ·rw [List.getLast?_eq_some_getLast h]
  conv=>lhs;rw [←List.dropLast_concat_getLast h]
  exact z44 _ _
theorem QA {b:Bool} {A X:Prop} {R:Hp→Prop} {H:Hp} (Good:Hp→Prop) (hR:∀H',Good H'→R H') (hg:Good H) (hA:b=true→(∀H',Good H'→R H')→A):if b=true then A else (if false=true then X else R H):=by
 cases b with
 | true=>rw [kE rfl];exact hA rfl hR
 | false=>rw [kD ke,kD ke];exact hR H hg
theorem z2J {rs:List Row} {fin:Fnd} (B:BInv rs fin []):ZS rs fin:=by
 have key:∀(p:Nat) r s,rs[p]?=some r→fin[p]?=some (some s)→z69 rs fin p s:=fun p r s _ hs=>by
  rcases B.done p s hs with z | z
  ·cases z
  ·exact z
 refine ⟨B.len,B.zero,fun p r s hr hs=>?_,fun p r s hr hs=>?_⟩
 ·obtain ⟨r',e1,e2,e3,e4⟩:=key p r s hr hs
  rw [hr] at e1
  cases e1
  exact ⟨e2,e3⟩
 ·obtain ⟨r',e1,e2,e3,e4⟩:=key p r s hr hs
  rw [hr] at e1
  cases e1
  exact e4
theorem z9r {rs:List Row} (hc:Code rs):∀r∈rs,r.op="swap"→∀n,r.arg=.int n→n≤9:=fun r hr ho n hn=>by
 obtain ⟨k,e,_,h⟩:=Z5 (hc.ok r hr) (by rw [ho];decide+kernel)
 rw [hn] at e
 cases e
 exact h
theorem z7p (op:Str):(valV ([(Sum.inr "copy",.int 0),(Sum.inr "swap",.int 9)]:List (Key × V)) (Sum.inr op:Key)).getD (.int 2)=.int (dueD op:Nat):=by
 unfold dueD
 by_cases h1:op="copy"
 ·subst h1;rw [kE rfl,qu rfl];rfl
 ·rw [kD h1,qp (fun z=>h1 (by injection z with z;exact z.symm))]
  by_cases h2:op="swap"
  ·subst h2;rw [kE rfl,qu rfl];rfl
  ·rw [kD h2,qp (fun z=>h2 (by injection z with z;exact z.symm))];rfl
theorem z4Y {b:Bool} {A:Prop} {R:Int→Hp→Prop} {H:Hp} {d:Int} (Good:Int→Hp→Prop) (hR:∀d H',Good d H'→R d H') (hg:b=false→Good d H) (hA:b=true→(∀d H',Good d H'→R d H')→A):if b=true then A else R d H:=by
 cases b with
 | true=>rw [kE rfl];exact hA rfl hR
 | false=>rw [kD ke];exact hR d H (hg rfl)
theorem z1L {kn:List (Key × V)} (h:jY kn):∃zs:List Str,kn.map (fun p=>kV p.1)=zs.map V.str∧zs.length=kn.length∧∀z∈zs,z∈(["a","b","c"]:List Str):=by
 induction kn with
 | nil=>exact ⟨[],rfl,rfl,fun z hz=>by cases hz⟩
 | cons q kn ih=>
  obtain ⟨zs,h1,h2,h3⟩:=ih fun z hz=>h z (kW _ hz)
  obtain ⟨nm,e1,e2⟩:=h q (kU ..)
  refine ⟨nm :: zs,?_,by rw [kS,kS,h2],fun z hz=>?_⟩
  ·rw [kY,kY,h1,e1];rfl
  ·rcases kH.mp hz with rfl | hz
   ·exact e2
   ·exact h3 z hz
theorem z0g:∀(ks l:List Str),ks.Nodup→(∀z∈ks,z∈l)→ks.length≤l.length
 | [],l,_,_=>Nat.zero_le _
 | x :: ks,l,h,g=>by
  obtain ⟨h1,h2⟩:=List.nodup_cons.mp h
  have hx:=g x (kU ..)
  have:=z0g ks (l.erase x) h2 fun z hz=>(List.mem_erase_of_ne fun e=>h1 (by rw [←e];exact hz)).mpr (g z (kW _ hz))
  have hl:=List.length_erase_of_mem hx
  have:0 < l.length:=List.length_pos_of_mem hx
  rw [kS]
  lia
theorem z4l:∀(zs ks l:List Str),ks.Nodup→(∀z∈ks,z∈l)→(∀z∈zs,z∈l)→(zs.foldl addT ks).Nodup∧∀z∈zs.foldl addT ks,z∈l
 | [],ks,l,h,g,_=>⟨h,g⟩
 | z :: zs,ks,l,h,g,g2=>by
  refine z4l zs (addT ks z) l ?_ ?_ fun y hy=>g2 y (kW _ hy)
  ·unfold addT
   split
   ·exact h
   ·rename_i hz
    refine List.nodup_append.mpr ⟨h,by simp,fun a ha b hb=>?_⟩
    rw [ku.mp hb]
    exact fun e=>hz (e▸ha)
  ·unfold addT
   split
   ·exact g
   ·intro y hy
    rcases kX.mp hy with hy | hy
    ·exact g y hy
    ·rw [ku.mp hy]
     exact g2 z (kU ..)
section
variable {CW CH:Addr}
theorem jK {H:Hp} {l:Addr} {xs:List V} (h:H l=some (.lst xs)) (b:∀x∈xs,Q7 x) (hl:xs.length≤1000) {Q:VK} {E:XK} (q:Q (.str (PyData.list (xs.map jy)).shown) H):z0W K [.ref l] H Q E:=
 ⟨l,_,rfl,.lst (SqL.of h) (z08 (QX b).1),z36 b hl,q⟩
def z4u (K:kC):Sp:=fun vs H Q _=>∃(a:Addr) (ns:List Int),vs=[.ref a]∧Scr K H a (ns.map V.int)∧ns.length≤63∧∀H',Q (.bl true) H'
theorem z84:zi ["_law_script","_law_town_here","_law_code_here","_law_walk","_law_k","_law_place","_law_op","_law_arg","_law_line","_law_stack","_law_names","_law_told","_law_guards","_law_name","_law_later","_law_changed","_law_depth"] ["_law_script"] (zc (top 114)):=fsM
theorem z8K {H0 H:Hp} {a:WAd} {rs:List Row} {m:Mst} {gs:List Gd} {pas:List Nat} {e:List V} {here:Option Nat} (W:zC K H0 H CW CH a rs m gs pas e here) {gas:List Addr} {gz:List Gd} (h:GsIn H gas gz):GsIn (offW a H) gas gz:=by
 induction h with
 | nil=>exact .nil
 | cons x t ih=>
  refine .cons ?_ ih
  rw [Zk fun z=>?_]
  ·exact x
  ·obtain ⟨ea,i1,_⟩:=W.ins
   obtain ⟨gas,w1,_⟩:=W.wards
   simp only [ownW,kH,ky,or_false] at z
   rcases z with rfl | rfl | rfl | rfl | rfl | rfl | rfl
   ·rw [i1] at x;cases x
   ·rw [W.passed] at x;cases x
   ·rw [W.hold.held] at x;cases x
   ·rw [W.hold.known] at x;cases x
   ·rw [W.hold.said] at x;cases x
   ·rw [w1] at x;cases x
   ·rw [W.hold.ins] at x;cases x
def LInv (K:kC) (CW CH:Addr) (rs:List Row) (as:List Addr) (s0:S5) (a t l wk:Addr) (i:Nat) (σ:L2.St) (H9:Hp):Prop:=
 ∃(v4 v5 v6 v7 v8 v9 v10 v11 v12 v13 v14 v15 v16:Option V) (HB:Hp) (aw:WAd),σ=[some (.ref a),some (.ref t),some (.ref l),some (.ref wk),v4,v5,v6,v7,v8,v9,v10,v11,v12,v13,v14,v15,v16]∧HB l=some (.lst (as.map V.ref))∧zV HB as rs∧aw.wk=wk∧
  zC K HB H9 CW CH aw rs (seqM rs s0 i).m (seqM rs s0 i).gs (seqM rs s0 i).pas (seqM rs s0 i).e (seqM rs s0 i).here∧jY (seqM rs s0 i).m.kn
theorem z8S {f:Addr} {fd:FuncData} (D:Fun K "law" "law" (top 114) f fd) (G:Glo mg) (c:Qr K CW) (hmW:mg "Walk"=some (.ref CW)) (hms:mg "sorted"=none) (hmt:mg "set"=none) (FT:FN P w K mg base 1 "_law_town" ["_law_script"] (z5L K)) (FLC:FN P w K mg base 17 "_law_code" ["_law_script","_law_town_here","_law_many"] (z03 K))
  (FG:FN P w K mg base 4 "_law_given" ["_law_script","_law_town_here"] (z31 K)) (FS:FN P w K mg base 2 "_law_shown" ["_law_thing"] (z0W K))
  (FI:IN P w K mg base 11 CW ["self","code","names"] (z5Q K CW CH)) (FP:MN P w K mg base 1 CW "place" ["self"] (z2W K CW CH)) (FO:MN P w K mg base 1 CW "told" ["self"] (z5M K CW CH))
  (FK:MN P w K mg base 1 CW "stack" ["self"] (z2U K CW CH)) (FU:MN P w K mg base 1 CW "guards" ["self"] (z1x K CW CH)) (FN':MN P w K mg base 1 CW "names" ["self"] (z1v K CW CH))
  (FSp:MN P w K mg base 6 CW "step" ["self"] (z2T K CW CH)):FnOk P w K mg base CX0 18 f fd ["_law_script"] (z4u K):=by
 refine D.ok z84 (fun vs H Q E h=>by obtain ⟨a,ns,rfl,_⟩:=h;rfl) (fun cdv A outer s H vs Q E hr h=>?_)
 obtain ⟨a,ns,rfl,hS,hns,q⟩:=h
 have hr1:=hr.mono (show 1≤17 by decide)
 have hr2:=hr.mono (show 2≤17 by decide)
 have hr4:=hr.mono (show 4≤17 by decide)
 have hr6:=hr.mono (show 6≤17 by decide)
 have hr12:=hr.mono (show 12≤17 by decide)
 have hu:=Qo hr
 have hu0:(A.deeper (envOfC "law" (zc (top 114)) s.heap.objs.size f cdv)).units < cLine:=by have:=hr.un;lia
 have nd:=z84.nd
 refine ⟨_,z8 (zG (i:=1) nd rfl (Or.inl rfl) (zo FT hr1 rfl (z6 (pv 0) z7)))
  (z8 (zG (i:=2) nd rfl (Or.inl rfl) (zo FLC hr rfl (z6 (pv 0) (z6 (pv 1) (z6 zg z7)))))
  (z8 (zG (i:=3) nd rfl (Or.inl rfl) (z8n FI hr12 rfl hmW (z6 (pv 2) (z6 (zo FG hr4 rfl (z6 (pv 0) (z6 (pv 1) z7))) z7))))
  (z8 (Zb PassesOwn.never rfl (jO rfl G.range (z6 zg z7)) (zu (i:=4) nd rfl (Or.inl rfl))
   (z8 (zG (i:=5) nd rfl (Or.inl rfl) (jC (pv 3) c.cl FP hr1))
   (z8 (zJ (zm Qd (pv 5) qm (zq _)) (zd (zl (qI z8t (jC (pv 3) c.cl FSp hr6) ZZ (zq _)))) zw)
   (z8 (jb (qc zT (pv 2) (pv 5) (fun _ _=>rfl)) (jc rfl (zr (zu (i:=6) nd rfl (Or.inl rfl)) (zr (zu (i:=7) nd rfl (Or.inl rfl)) (zr (zu (i:=8) nd rfl (Or.inl rfl)) qx)))))
   (z8 (jb (zZ (z6 (jC (pv 3) c.cl FK hr1) (z6 (jC (pv 3) c.cl FN' hr1) (z6 (jC (pv 3) c.cl FO hr1) (z6 (jC (pv 3) c.cl FU hr1) z7))))) (jc rfl (zr (zu (i:=9) nd rfl (Or.inl rfl)) (zr (zu (i:=10) nd rfl (Or.inl rfl)) (zr (zu (i:=11) nd rfl (Or.inl rfl)) (zr (zu (i:=12) nd rfl (Or.inl rfl)) qx))))))
   (z8 (zj (jC (pv 3) c.cl FSp hr6))
   (z8 (zJ (PW.pt (Qa (zm qJ (pv 6) zk (zq _)) (jM (zm z0d (zo FS hr2 rfl (z6 (jC (pv 3) c.cl FO hr1) z7)) (zo FS hr2 rfl (z6 (zO z1J (pv 11) (ZD Js (pv 9) (QI (Z7 qY zg)) QJ)) z7)) (zq _))))) (zd (zl ZZ)) zw)
   (z8 (zJ (PW.pt (Qa (zm z0d (pv 6) zk (zq _)) (jM (zm z0d (zo FS hr2 rfl (z6 (jC (pv 3) c.cl FO hr1) z7)) (zo FS hr2 rfl (z6 (pv 11) z7)) (zq _))))) (zd (zl ZZ)) zw)
   (z8 (Zb PassesOwn.never rfl (Jw (zy (z0F rfl) rfl hms boot_sorted (z6 (qD (z4a rfl) rfl hmt boot_set (z6 (zO z1J (qD (Jo rfl) rfl G.list qW (z6 (z3j (pv 10)) z7)) (qD (Jo rfl) rfl G.list qW (z6 (z3j (jC (pv 3) c.cl FN' hr1)) z7))) z7)) z7))) (zu (i:=13) nd rfl (Or.inl rfl))
    (z8 (zG (i:=14) nd rfl (Or.inl rfl) (jC (pv 3) c.cl FN' hr1))
    (z8 (zG (i:=15) nd rfl (Or.inl rfl) (qI z0d (zo FS hr2 rfl (z6 (qq (z6 (z1F (z3l hu (pv 13) (pv 10))) (z6 (Qy hu (pv 10) (pv 13) ⟨rfl,rfl,rfl,rfl⟩) z7))) z7)) (zo FS hr2 rfl (z6 (qq (z6 (z1F (z3l hu (pv 13) (pv 14))) (z6 (Qy hu (pv 14) (pv 13) ⟨rfl,rfl,rfl,rfl⟩) z7))) z7)) (zq _)))
    (zd (zJ (PW.pt (Qa (qZ (pv 15)) (jM (PW.pt (Jv (zm Qc (pv 6) (zZ (z6 zk (z6 zk z7))) rfl) (ZC (zm z0d (pv 13) (pv 7) (zq _)))))))) (zd (zl ZZ)) zw)))))
   (z8 (zG (i:=16) nd rfl (Or.inl rfl) (zO j4 (zy zL rfl G.len qv (z6 (pv 9) z7)) (z4J hu (z19 (ju zk zg (ju zk zg z17)) rfl rfl nofun (by decide)) (pv 6) zg ⟨rfl,rfl,rfl,rfl⟩)))
   (z8 (zJ (zm (z8s hu0) (pv 12) (qq z7) (zq _)) (zd (zG (i:=16) nd rfl (Or.inl rfl) (zy (z0G rfl) rfl G.min z1Z (z6 (pv 16) (z6 (qc qE (qc zT (pv 12) (Z7 qY zg) (fun _ _=>rfl)) zg (fun _ _=>rfl)) z7))))) zw)
   (zd (zJ (PW.pt (Qa (zm JD (pv 16) zg (zq _)) (jM (zm z0d (zo FS hr2 rfl (z6 (ZD Js (jC (pv 3) c.cl FK hr1) QJ (QI (pv 16))) z7)) (zo FS hr2 rfl (z6 (ZD Js (pv 9) QJ (QI (pv 16))) z7)) (zq _))))) (zd (zl ZZ)) zw)))))))))))))
  (zd (zl ZZ))))),?_⟩
 dsimp only [L2.cxOf,L2.Cx.nox]
 refine ⟨_,rfl,a,ns,rfl,hS,by lia,fun t H1 s1 ht hT1=>?_⟩
 have hS1:Scr K H1 a (ns.map V.int):=hS.keep fun o u e=>s1 _ _ e
 refine ⟨_,rfl,_,rfl,a,t,ns,0,ns,4,rfl,hS1,by lia,rfl,hT1,by lia,by decide,by decide,fun l as rs k c2 cells2 H2 hl2 hR2 gd hΓ hk hlo hhi hlt hcl2 hT2 hc2 kp2=>?_⟩
 have hS2:=hS1.keep1 kp2 hT1
 refine ⟨_,rfl,_,rfl,_,rfl,a,t,ns,c2,cells2,rfl,hS2,by lia,hcl2,hT2,by lia,fun d kvs c3 cells3 H3 hd3 hgv hcl3 hT3 hc3 kp3=>?_⟩
 have hl3:=kp3 _ _ hl2 hlt
 have hR3:zV H3 as rs:=hR2.keep fun b xs e=>kp3 b _ e (zA e hT2 nofun)
 have hC:=gd.code hk hlo (by lia)
 obtain ⟨Sx,TY⟩:=gd.typed hΓ
 obtain ⟨fin,hfin,hfl,_⟩:=z2R TY (by lia)
 have B:=z0T (by lia) hfin
 have TF:=z2J B
 have hpush:=gd.push
 have hstore:=gd.store
 have hN:=hgv.names
 have hkv:∀q∈kvs,okV q.2=true:=fun q hq=>(hgv.all q hq).2
 have hk8:kvs.length≤8:=by have:=hgv.len;lia
 have keys0:jY kvs:=fun q hq=>(hgv.all q hq).1
 obtain ⟨p0,g0,e0,st0⟩:=Q5 TF hC (d:=0) 200 0 [] (by have:=hC.hi;lia) TF.zero .nil
 have ok0:OkM ⟨[],kvs,[]⟩ 0:=⟨okVs.nil,hkv,okVs.nil,kh _,by show kvs.length≤_;lia,kh _⟩
 have h0:z4o rs fin 0 ⟨⟨[],kvs,[]⟩,g0,[],onE,some p0⟩:=⟨p0,rfl,rfl,rfl,ok0,st0⟩
 clear hl2 hR2 hT2 hT1 hS1 hS2 hS kp2 kp3 hT3 s1 ht TY gd hΓ hcl2 hcl3 B
 intro x dx hx hdx ndx
 have sA:=zh hdx (.own x)
 have hx':(upd H3 dx (.own x)) x=none:=by rw [zf ndx.symm];exact hx
 have sB:=sA.trans (zh hx' (.ins CW dx []))
 refine ⟨x,l,d,dx,as,rs,fin,kvs,200,p0,g0,H3,rfl,zb,hx,sB,sB _ _ hl3,hR3.same sB,hC,hfin,sB _ _ hd3,hN,e0,fun a0 H5 hw W5=>⟨rfl,?_⟩⟩
 subst hw
 clear sA hx' sB hx hdx ndx
 have Sok:=z5V TF hC hpush h0
 have W9:zC K H3 H5 CW CH a0 rs (seqM rs ⟨⟨[],kvs,[]⟩,g0,[],onE,some p0⟩ 0).m (seqM rs ⟨⟨[],kvs,[]⟩,g0,[],onE,some p0⟩ 0).gs (seqM rs ⟨⟨[],kvs,[]⟩,g0,[],onE,some p0⟩ 0).pas (seqM rs ⟨⟨[],kvs,[]⟩,g0,[],onE,some p0⟩ 0).e (seqM rs ⟨⟨[],kvs,[]⟩,g0,[],onE,some p0⟩ 0).here:=W5
 have K9:jY (seqM rs ⟨⟨[],kvs,[]⟩,g0,[],onE,some p0⟩ 0).m.kn:=keys0
 clear W5 keys0 ok0 e0 st0 hN hgv hkv hk8
 generalize (⟨⟨[],kvs,[]⟩,g0,[],onE,some p0⟩:S5)=s0 at *
 have dI:∀x:V,(!decide (x=x))=false:=fun x=>by rw [kl rfl];rfl
 refine ⟨120,rfl,by decide,by decide,jU (n:=120) (LInv K CW CH rs as s0 a t l a0.wk)
  ⟨none,none,none,none,none,none,none,none,none,none,none,none,none,H3,a0,rfl,hl3,hR3,rfl,W9,K9⟩ ?_ ?_⟩
 case refine_2=>
  rintro σ H9 ⟨v4,v5,v6,v7,v8,v9,v10,v11,v12,v13,v14,v15,v16,HB,aw,rfl,_⟩
  exact q H9
 clear W9 K9 hl3 hR3 hd3
 intro i σ H9 hi L
 obtain ⟨v4,v5,v6,v7,v8,v9,v10,v11,v12,v13,v14,v15,v16,HB,aw,rfl,hlB,hRB,hwk,W,kk⟩:=L
 rw [←hwk]
 generalize hNX:LInv K CW CH rs as s0 a t l aw.wk (i+1)=NX
 have SI:=Sok i (by lia)
 have hs1:seqM rs s0 (i+1)=stp rs (seqM rs s0 i):=rfl
 generalize seqM rs s0 i=S at *
 obtain ⟨m,gs,pas,e,here⟩:=S
 dsimp only at W kk
 obtain ⟨ea,i1,-⟩:=W.ins
 refine ⟨_,rfl,aw.wk,aw.dw,_,rfl,i1,rfl,aw,HB,rs,_,_,_,_,_,W,rfl,?_⟩
 refine ⟨_,rfl,rfl,_,rfl,?_⟩
 rcases SI with ⟨p,hp,he,hn,hI⟩ | hE
 case inr=>
  have hh:here=none:=hE.here
  subst hh
  exact iteT ⟨_,rfl,aw.wk,aw.dw,_,rfl,i1,rfl,.inr ⟨aw,HB,rs,m,gs,pas,e,none,W,rfl,rfl,false,rfl,q _⟩⟩
 have hp:here=some p:=hp
 have he:e=onE:=he
 have hn:pas.length=i:=hn
 have hI:InvM rs fin m gs p i:=hI
 subst hp he hn
 dsimp only at hI hs1 hi
 refine iteF ?_
 obtain ⟨okm,hst,hgk,r,hrp,hsil⟩:=id hI
 obtain ⟨ra,hra,har⟩:=(hRB.same W.same).get' hrp
 refine ⟨_,rfl,_,rfl,l,_,_,_,rfl,rfl,SqL.of (W.same _ _ hlB),zt hra,ra,_,rfl,SqT.of har,rfl,_,_,rfl,_,_,rfl,_,_,rfl,rfl,?_⟩
 refine ⟨_,rfl,aw.wk,aw.dw,_,rfl,i1,rfl,aw,HB,rs,_,_,_,_,_,W,rfl,fun l9 hl9=>?_⟩
 have n9:l9∉ownW aw:=fun z=>W.some_of z hl9
 have W1:=W.same' (zh hl9 (.lst m.st))
 have F9:upd H9 l9 (.lst m.st) l9=some (.lst m.st):=zb
 generalize upd H9 l9 (.lst m.st)=H10 at *
 clear i1 ea har hl9
 obtain ⟨ea,i1,-⟩:=W1.ins
 refine ⟨_,rfl,aw.wk,aw.dw,_,rfl,i1,rfl,aw,HB,rs,_,_,_,_,_,W1,rfl,fun d10 hd10=>?_⟩
 have n10:d10∉ownW aw:=fun z=>W1.some_of z hd10
 have sx:=zh hd10 (.dK m.kn)
 have W2:=W1.same' sx
 have F9:=sx _ _ F9
 have F10:upd H10 d10 (.dK m.kn) d10=some (.dK m.kn):=zb
 generalize upd H10 d10 (.dK m.kn)=H11 at *
 clear i1 ea hd10 W W1 sx
 obtain ⟨ea,i1,-⟩:=W2.ins
 refine ⟨_,rfl,aw.wk,aw.dw,_,rfl,i1,rfl,aw,HB,rs,_,_,_,_,_,W2,rfl,fun l11 hl11=>?_⟩
 have n11:l11∉ownW aw:=fun z=>W2.some_of z hl11
 have sx:=zh hl11 (.lst m.sd)
 have W3:=W2.same' sx
 have F9:=sx _ _ F9
 have F10:=sx _ _ F10
 have F11:upd H11 l11 (.lst m.sd) l11=some (.lst m.sd):=zb
 generalize upd H11 l11 (.lst m.sd)=H12 at *
 clear i1 ea hl11 W2 sx
 obtain ⟨ea,i1,-⟩:=W3.ins
 refine ⟨_,rfl,aw.wk,aw.dw,_,rfl,i1,rfl,aw,HB,rs,_,_,_,_,_,W3,rfl,fun l12 gas hl12 hgs=>?_⟩
 have n12:l12∉ownW aw:=fun z=>W3.some_of z hl12
 have sx:=zh hl12 (.lst (gas.map V.ref))
 have W4:=W3.same' sx
 have F9:=sx _ _ F9
 have F10:=sx _ _ F10
 have F11:=sx _ _ F11
 have F12:upd H12 l12 (.lst (gas.map V.ref)) l12=some (.lst (gas.map V.ref)):=zb
 have hgs:=hgs.same sx
 generalize upd H12 l12 (.lst (gas.map V.ref))=H13 at *
 clear i1 ea hl12 W3 sx
 refine ⟨(show (4:Nat)≤sizeLine by decide),fun t4 ht4=>⟨t4,_,rfl,SqT.of zb,rfl,_,_,rfl,_,_,rfl,_,_,rfl,_,_,rfl,rfl,?_⟩⟩
 have sx:=zh ht4 (.tup [.ref l9,.ref d10,.ref l11,.ref l12])
 have W5:=W4.same' sx
 have F9:=sx _ _ F9
 have F10:=sx _ _ F10
 have F11:=sx _ _ F11
 have F12:=sx _ _ F12
 have hgs:=hgs.same sx
 generalize upd H13 t4 (.tup [.ref l9,.ref d10,.ref l11,.ref l12])=H14 at *
 clear ht4 W4 sx
 have HBl:=W5.old hlB
 have HBr:zV (offW aw H14) as rs:=hRB.keep fun b xs e=>W5.old e
 have F9:offW aw H14 l9=some (.lst m.st):=by rw [Zk n9];exact F9
 have F10:offW aw H14 d10=some (.dK m.kn):=by rw [Zk n10];exact F10
 have F11:offW aw H14 l11=some (.lst m.sd):=by rw [Zk n11];exact F11
 have F12:offW aw H14 l12=some (.lst (gas.map V.ref)):=by rw [Zk n12];exact F12
 have hgs:GsIn (offW aw H14) gas gs:=z8K W5 hgs
 have W6:=W5.rebase
 generalize offW aw H14=HC at *
 clear n9 n10 n11 n12 W5 hlB hRB hra
 obtain ⟨ea,i1,-⟩:=W6.ins
 obtain ⟨m',gs',e',here',z1,_,z3,z4⟩:=z2Q TF hC hpush hI (by lia)
 have es:stp rs ⟨m,gs,pas,onE,some p⟩=⟨m',gs',pas++[p],e',here'⟩:=by
  unfold stp
  dsimp only
  rw [z1]
 rw [es] at hs1
 have kk':jY m'.kn:=kk.step hstore z1
 obtain ⟨r2,hr2',fsd,fkn,fst⟩:=z6o z1 (z9r hC) fun g eg=>(hgk.inv eg).1
 rw [hrp] at hr2'
 cases hr2'
 refine ⟨_,rfl,aw.wk,aw.dw,_,rfl,i1,rfl,.inl ⟨aw,HC,rs,m,gs,pas,p,m',gs',pas++[p],e',here',rfl,W6,z1,fun a' H15 ha W7=>?_⟩⟩
 clear W6 i1 ea
 rw [←ha] at hwk hNX ⊢
 have bsd:∀x∈m'.sd,Q7 x:=fun x hx=>jS (z3.sd x hx)
 have bsd0:∀x∈m.sd,Q7 x:=fun x hx=>jS (okm.sd x hx)
 have bst:∀x∈m.st,Q7 x:=fun x hx=>jS (okm.st x hx)
 have bst':∀x∈m'.st,Q7 x:=fun x hx=>jS (z3.st x hx)
 have lsd:=z3.lsd
 have lst:=okm.lst
 have lst':=z3.lst
 have lsd0:=okm.lsd
 refine ⟨_,rfl,rfl,_,rfl,?_⟩
 refine QA (fun H'=>zC K HC H' CW CH a' rs m' gs' (pas++[p]) e' here') ?_ W7 ?_
 case refine_2=>
  intro ht cont
  have ht:r.op="tell":=by have:=kG ht;injection this
  obtain ⟨ea,i1,-⟩:=W7.ins
  refine ⟨_,rfl,a'.wk,a'.dw,_,rfl,i1,rfl,a',HC,rs,_,_,_,_,_,W7,rfl,fun x1 hx1=>jK zb bsd (by lia) ?_⟩
  have W8:=W7.same' (zh hx1 (.lst m'.sd))
  generalize upd H15 x1 (.lst m'.sd)=H16 at *
  refine ⟨_,rfl,_,rfl,1,rfl,_,rfl,l9,_,rfl,SqL.of (W8.same _ _ F9),fun x2 hx2=>?_⟩
  have W9:=W8.same' (zh hx2 (.lst (cutV m.st (some (-1)) none)))
  have hx2:upd H16 x2 (.lst (cutV m.st (some (-1)) none)) x2=some (.lst (cutV m.st (some (-1)) none)):=zb
  rw [z45] at *
  generalize upd H16 x2 (.lst m.st.getLast?.toList)=H17 at *
  have esd:m.sd++m.st.getLast?.toList=m'.sd:=by rw [fsd,kE ht]
  refine ⟨l11,x2,_,_,rfl,rfl,W9.same _ _ F11,hx2,by rw [←ko,esd,sizeLine_eq];lia,fun x3 hx3=>?_⟩
  rw [esd]
  refine jK zb bsd (by lia) ⟨rfl,_,rfl,?_⟩
  rw [dI]
  exact iteF (cont _ (W9.same' (zh hx3 _)))
 clear W7 H15
 intro H15 W7
 refine ⟨_,rfl,rfl,_,rfl,?_⟩
 refine QA (fun H'=>zC K HC H' CW CH a' rs m' gs' (pas++[p]) e' here') ?_ W7 ?_
 case refine_2=>
  intro ht cont
  have ht:¬r.op="tell":=fun z=>by rw [z] at ht;revert ht;decide
  obtain ⟨ea,i1,-⟩:=W7.ins
  refine ⟨_,rfl,a'.wk,a'.dw,_,rfl,i1,rfl,a',HC,rs,_,_,_,_,_,W7,rfl,fun x1 hx1=>jK zb bsd (by lia) ?_⟩
  have W8:=W7.same' (zh hx1 (.lst m'.sd))
  generalize upd H15 x1 (.lst m'.sd)=H16 at *
  have esd:m'.sd=m.sd:=by rw [fsd,kD ht,kZ]
  refine ⟨_,rfl,jK (W8.same _ _ F11) bsd0 (by lia) ⟨rfl,_,rfl,?_⟩⟩
  rw [esd,dI]
  exact iteF (cont _ W8)
 clear W7 H15
 intro H15 W7
 obtain ⟨zs,ez1,ez2,ez3⟩:=z1L kk
 obtain ⟨zs',ey1,ey2,ey3⟩:=z1L kk'
 have lkn:=okm.lkn
 have lkn':=z3.lkn
 refine ⟨_,rfl,d10,_,rfl,Rd.of (W7.same _ _ F10),fun y1 hy1=>⟨y1,d10,_,rfl,zb,Rd.of (zh hy1 _ _ _ (W7.same _ _ F10)),fun y2 hy2=>?_⟩⟩
 have s1:=zh hy1 (KVw y1 d10)
 have s2:=zh hy2 (.lst (m.kn.map fun p=>kV p.1))
 have W8:=W7.same' (s1.trans s2)
 have Y2:upd (upd H15 y1 (KVw y1 d10)) y2 (.lst (m.kn.map fun p=>kV p.1)) y2=some (.lst (m.kn.map fun p=>kV p.1)):=zb
 generalize upd (upd H15 y1 (KVw y1 d10)) y2 (.lst (m.kn.map fun p=>kV p.1))=H16 at *
 clear s1 s2 hy1 hy2 W7
 obtain ⟨ea,i1,-⟩:=W8.ins
 refine ⟨_,rfl,a'.wk,a'.dw,_,rfl,i1,rfl,a',HC,rs,_,_,_,_,_,W8,rfl,fun y3 hy3=>⟨y3,_,rfl,Rd.of zb,fun y4 hy4=>⟨y4,y3,_,rfl,zb,Rd.of (zh hy4 _ _ _ zb),fun y5 hy5=>?_⟩⟩⟩
 have s3:=(zh hy3 (.dK m'.kn)).trans (zh hy4 (KVw y4 y3))
 have s4:=s3.trans (zh hy5 (.lst (m'.kn.map fun p=>kV p.1)))
 have W9:=W8.same' s4
 have Y2:=s4 _ _ Y2
 have Y5:upd (upd (upd H16 y3 (.dK m'.kn)) y4 (KVw y4 y3)) y5 (.lst (m'.kn.map fun p=>kV p.1)) y5=some (.lst (m'.kn.map fun p=>kV p.1)):=zb
 generalize upd (upd (upd H16 y3 (.dK m'.kn)) y4 (KVw y4 y3)) y5 (.lst (m'.kn.map fun p=>kV p.1))=H17 at *
 clear s3 s4 hy3 hy4 hy5 W8 i1 ea
 rw [ez1] at Y2
 rw [ey1] at Y5
 refine ⟨y2,y5,_,_,rfl,rfl,Y2,Y5,by rw [km,km,sizeLine_eq];lia,fun y6 hy6=>?_⟩
 refine ⟨y6,zs++zs',rfl,by rw [kN];exact zb,by rw [ko];lia,fun y7 hy7=>?_⟩
 obtain ⟨q1,q2⟩:=z4l (zs++zs') [] ["a","b","c"] .nil (fun _ h=>by cases h) fun z hz=>(kX.mp hz).elim (ez3 z) (ey3 z)
 have q3:=z0g _ _ q1 q2
 refine ⟨y7,_,rfl,zb,Nat.lt_of_le_of_lt q3 (by decide),fun y8 ks' hy8 hper hsrt=>?_⟩
 have s5:=(zh hy6 (.lst (zs.map V.str++zs'.map V.str))).trans (zh hy7 (J1 P w y7 ((zs++zs').foldl addT [])))
 have W10:=W9.same' (s5.trans (zh hy8 (.lst (ks'.map V.str))))
 have Y8:upd (upd (upd H17 y6 (.lst (zs.map V.str++zs'.map V.str))) y7 (J1 P w y7 ((zs++zs').foldl addT []))) y8 (.lst (ks'.map V.str)) y8=some (.lst (ks'.map V.str)):=zb
 generalize upd (upd (upd H17 y6 (.lst (zs.map V.str++zs'.map V.str))) y7 (J1 P w y7 ((zs++zs').foldl addT []))) y8 (.lst (ks'.map V.str))=H18 at *
 clear s5 hy6 hy7 hy8 W9 Y2 Y5 q1 q2 q3 hper hsrt ez1 ez2 ez3 ey1 ey2 ey3
 refine ⟨y8,rfl,⟨_,SqL.of Y8⟩,z1R (xs:=ks'.map V.str) (fun j σ H'=>(∃v13 v14 v15,σ=[some (.ref a),some (.ref t),some (.ref l),some (.ref a'.wk),some (.int (0+((pas.length:Nat):Int))),some (z1h (some p)),some (.str r.op),some r.arg,some (.int r.line),some (.ref l9),some (.ref d10),some (.ref l11),some (.ref l12),v13,v14,v15,v16])∧zC K HC H' CW CH a' rs m' gs' (pas++[p]) e' here'∧H' y8=some (.lst (ks'.map V.str)))
  ⟨⟨v13,v14,v15,rfl⟩,W10,Y8⟩ (fun j σ H' _ p=>SqL.of p.2.2) ?_ ?_⟩
 ·-- one name
  clear W10 Y8
  rintro j x σ H' hx ⟨⟨v13,v14,v15,rfl⟩,W,hy⟩
  rw [List.getElem?_map] at hx
  obtain ⟨nm,-,rfl⟩:=Option.map_eq_some_iff.mp hx
  obtain ⟨ea,i1,-⟩:=W.ins
  refine ⟨_,rfl,a'.wk,a'.dw,_,rfl,i1,rfl,a',HC,rs,_,_,_,_,_,W,rfl,fun d14 hd14=>?_⟩
  have s1:=zh hd14 (.dK m'.kn)
  have W1:=W.same' s1
  have F14:upd H' d14 (.dK m'.kn) d14=some (.dK m'.kn):=zb
  have hy:=s1 _ _ hy
  generalize upd H' d14 (.dK m'.kn)=H19 at *
  clear s1 hd14 W i1 ea
  have bkn:∀{kn:List (Key × V)},(∀q∈kn,okV q.2=true)→∀x∈([.bl (valV kn (Sum.inr nm:Key)).isSome,(valV kn (Sum.inr nm:Key)).getD .non]:List V),Q7 x:=fun {kn} hk x hx=>by
   refine jS ?_
   rcases kH.mp hx with rfl | hx
   ·rfl
   ·rw [ku.mp hx]
    cases e:valV kn (Sum.inr nm:Key) with
    | none=>rfl
    | some v=>
     obtain ⟨q,hq,rfl⟩:=z0P e
     exact hk q hq
  have G10:=W1.same _ _ F10
  refine ⟨_,rfl,_,rfl,d10,_,rfl,DGet.k (k:=Sum.inr nm) G10,_,rfl,d10,rfl,(.inl ⟨_,Rd.of G10⟩),_,rfl,_,DGet.k (k:=Sum.inr nm) G10,(show (2:Nat)≤sizeLine by decide),fun x1 hx1=>jK zb (bkn okm.kn) (show (2:Nat)≤1000 by decide) ?_⟩
  have s1:=zh hx1 (.lst [.bl (valV m.kn (Sum.inr nm:Key)).isSome,(valV m.kn (Sum.inr nm:Key)).getD .non])
  have W2:=W1.same' s1
  have F14:=s1 _ _ F14
  have hy:=s1 _ _ hy
  generalize upd H19 x1 (.lst [.bl (valV m.kn (Sum.inr nm:Key)).isSome,(valV m.kn (Sum.inr nm:Key)).getD .non])=H20 at *
  clear s1 hx1 W1 G10
  refine ⟨_,rfl,_,rfl,d14,_,rfl,DGet.k (k:=Sum.inr nm) F14,_,rfl,d14,rfl,(.inl ⟨_,Rd.of F14⟩),_,rfl,_,DGet.k (k:=Sum.inr nm) F14,(show (2:Nat)≤sizeLine by decide),fun x2 hx2=>jK zb (bkn z3.kn) (show (2:Nat)≤1000 by decide) ⟨rfl,?_⟩⟩
  have s1:=zh hx2 (.lst [.bl (valV m'.kn (Sum.inr nm:Key)).isSome,(valV m'.kn (Sum.inr nm:Key)).getD .non])
  have W3:=W2.same' s1
  have hy:=s1 _ _ hy
  generalize upd H20 x2 (.lst [.bl (valV m'.kn (Sum.inr nm:Key)).isSome,(valV m'.kn (Sum.inr nm:Key)).getD .non])=H21 at *
  clear s1 hx2 W2 F14
  refine ⟨_,rfl,_,rfl,?_⟩
  by_cases hq:¬(r.op="store"∨r.op="clear")∨r.arg≠.str nm
  ·rw [fkn nm hq,dI]
   exact iteF (iteF ⟨⟨_,_,_,rfl⟩,W3,hy⟩)
  ·have ⟨o1,o2⟩:(r.op="store"∨r.op="clear")∧r.arg=.str nm:=by
    by_cases h1:(r.op="store"∨r.op="clear")
    ·by_cases h2:r.arg=.str nm
     ·exact ⟨h1,h2⟩
     ·exact absurd (.inr h2) hq
    ·exact absurd (.inl h1) hq
   refine QA (fun H'=>zC K HC H' CW CH a' rs m' gs' (pas++[p]) e' here'∧H' y8=some (.lst (ks'.map V.str))) (fun H' g=>⟨⟨_,_,_,rfl⟩,g.1,g.2⟩) ⟨W3,hy⟩ fun hb cont=>?_
   refine ⟨_,rfl,(show (2:Nat)≤sizeLine by decide),fun x3 hx3=>⟨x3,_,rfl,.inr (SqT.of zb),rfl,rfl,_,rfl,?_⟩⟩
   have e1:(if true=true then !inV (.str r.op) [.str "store",.str "clear"] else inV (.str r.op) [.str "store",.str "clear"])=false:=by
    rcases o1 with o1 | o1 <;> rw [o1] <;> decide+kernel
   rw [e1]
   refine iteF ⟨_,rfl,_,rfl,by rw [o2];rfl,_,rfl,?_⟩
   rw [show (!decide (V.str nm=r.arg))=false by rw [o2];exact dI _]
   have s1:=zh hx3 (.tup [.str "store",.str "clear"])
   exact iteF (cont _ ⟨W3.same' s1,s1 _ _ hy⟩)
 clear W10 Y8
 rintro σ H19 ⟨⟨v13,v14,v15,rfl⟩,W,-⟩
 refine ⟨_,rfl,l9,_,rfl,.inl (SqL.of (W.same _ _ F9)),fun dd hdd=>⟨zb,[(Sum.inr "copy",.int 0),(Sum.inr "swap",.int 9)],rfl,by decide,?_⟩⟩
 rw [z2I]
 have em:ZF [] ([(Sum.inr "copy",.int 0),(Sum.inr "swap",.int 9)]:List (Key × V))=([(Sum.inr "copy",.int 0),(Sum.inr "swap",.int 9)]:List (Key × V)):=by trivial
 rw [em]
 refine ⟨dd,rfl,.inl ⟨_,Rd.of zb⟩,_,rfl,_,DGet.k (k:=Sum.inr r.op) zb,?_⟩
 rw [z7p]
 refine ⟨_,_,rfl,rfl,?_⟩
 dsimp only
 have W1:=W.same' (zh hdd (.dK [(Sum.inr "copy",.int 0),(Sum.inr "swap",.int 9)]))
 generalize upd H19 dd (.dK [(Sum.inr "copy",.int 0),(Sum.inr "swap",.int 9)])=H20 at *
 clear hdd W
 generalize edp:((m.st.length:Nat):Int) - ((dueD r.op:Nat):Int)=dp
 have hD:dp≤(m.st.length:Int) - (dueD r.op:Int):=by lia
 clear edp
 refine ⟨_,rfl,Nat.zero_le _,fun x1 hx1=>⟨l12,x1,_,rfl,rfl,SqL.of (zh hx1 _ _ _ (W1.same _ _ F12)),SqL.of zb,_,rfl,?_⟩⟩
 have W2:=W1.same' (zh hx1 (.lst []))
 generalize upd H20 x1 (.lst [])=H21 at *
 clear hx1 W1
 refine z4Y (d:=dp) (H:=H21) (R:=fun d H'=>z7L _ (List.set _ 16 (some (V.int d))) H') (fun dp H'=>dp≤(m.st.length:Int) - (dueD r.op:Int)∧(∀g,gs.getLast?=some g→dp≤g.2)∧zC K HC H' CW CH a' rs m' gs' (pas++[p]) e' here') ?_ (fun hb=>⟨hD,fun g hg=>?_,W2⟩) (fun hb cont=>?_)
 rotate_left
 ·rcases hgs.last with ⟨_,e2⟩ | ⟨bs,b,g',e1,e2,e3⟩
  ·rw [e2] at hg;cases hg
  ·rw [e1] at hb;simp at hb
 ·rcases hgs.last with ⟨e1,e2⟩ | ⟨bs,b,g,e1,e2,e3⟩
  ·rw [e1] at hb;cases hb
  ·refine ⟨_,rfl,_,rfl,1,rfl,l12,_,_,_,rfl,rfl,SqL.of (W2.same _ _ F12),by rw [e1,kN];exact QC _ _,b,_,_,_,rfl,rfl,SqT.of (W2.same _ _ e3),zt (j:=1) rfl,_,_,rfl,?_⟩
   refine cont _ _ ⟨?_,fun g' hg'=>?_,W2⟩
   ·split <;> lia
   ·rw [e2] at hg'
    cases hg'
    split <;> lia
 clear W2 hD dp H21 F12
 rintro dp H21 ⟨hD,hG,W2⟩
 refine ⟨_,rfl,_,_,rfl,rfl,_,rfl,?_⟩
 refine QA (fun H'=>zC K HC H' CW CH a' rs m' gs' (pas++[p]) e' here') (fun H' W=>?_) W2 fun hb cont=>?_
 ·rw [←hNX]
  unfold LInv
  rw [hs1]
  exact ⟨_,_,_,_,_,_,_,_,_,_,_,_,_,HC,a',rfl,HBl,HBr,rfl,W,kk'⟩
 have hb:0 < dp:=kG hb
 obtain ⟨ea,i1,-⟩:=W2.ins
 have k1:(0:Int)≤dp:=Int.le_of_lt hb
 have est:m'.st.take dp.toNat=m.st.take dp.toNat:=fst dp.toNat (by lia) fun g hg=>by have:=hG g hg;lia
 have bt:∀x∈m.st.take dp.toNat,Q7 x:=fun x hx=>bst x (List.mem_of_mem_take hx)
 have lt:(m.st.take dp.toNat).length≤1000:=by rw [List.length_take];lia
 refine ⟨_,rfl,a'.wk,a'.dw,_,rfl,i1,rfl,a',HC,rs,_,_,_,_,_,W2,rfl,fun x1 hx1=>⟨_,rfl,_,rfl,x1,_,rfl,SqL.of zb,fun x2 hx2=>?_⟩⟩
 have c1:cutV m'.st none (some dp)=m.st.take dp.toNat:=by rw [z1o _ k1,est]
 have c2:cutV m.st none (some dp)=m.st.take dp.toNat:=z1o _ k1
 rw [c1]
 refine jK zb bt lt ?_
 have W3:=W2.same' ((zh hx1 (.lst m'.st)).trans (zh hx2 (.lst (m.st.take dp.toNat))))
 generalize upd (upd H21 x1 (.lst m'.st)) x2 (.lst (m.st.take dp.toNat))=H22 at *
 refine ⟨_,rfl,_,rfl,_,rfl,l9,_,rfl,SqL.of (W3.same _ _ F9),fun x3 hx3=>?_⟩
 rw [c2]
 refine jK zb bt lt ⟨rfl,_,rfl,?_⟩
 rw [dI]
 exact iteF (cont _ (W3.same' (zh hx3 _)))
end
set_option maxHeartbeats 8000000
section
structure Clss (K:kC) (mg:Str→Option Value) (CW CH:Addr):Prop where
 mW:mg "Walk"=some (.ref CW)
 mH:mg "Hold"=some (.ref CH)
 cW:Qr K CW
 cH:jg K CH
 iW:HasI K CW "Walk.__init__" (My.mW 0)
 iH:HasI K CH "Hold.__init__" (My.mH 0)
 m1:HasM K CW "come_to" "Walk.come_to" (My.mW 1)
 m2:HasM K CW "finish" "Walk.finish" (My.mW 2)
 m3:HasM K CW "take_fault" "Walk.take_fault" (My.mW 3)
 m4:HasM K CW "step" "Walk.step" (My.mW 4)
 m5:HasM K CW "place" "Walk.place" (My.mW 5)
 m6:HasM K CW "stack" "Walk.stack" (My.mW 6)
 m7:HasM K CW "names" "Walk.names" (My.mW 7)
 m8:HasM K CW "guards" "Walk.guards" (My.mW 8)
 m9:HasM K CW "told" "Walk.told" (My.mW 9)
end
def LK (K:kC) (f:Addr) (x q:Str) (st:Stmt):Prop:=∃(oc:Value) (od an:Option Addr) (osl:Array (Option Value)) (kV doc pm cdv ct:Value),K.lookup f=some ⟨oc,od,.func (PySem.W.fnOf x q (qr st) (zK st) (zc st) .none kV doc pm an cdv ct),osl⟩∧PySem.W.codeIn K cdv q=true∧PySem.W.keepIn K (.ref f)=true
theorem lk_mk {K:kC} {f:Addr} {x q:Str} {st:Stmt} {oc:Value} {od an:Option Addr} {osl:Array (Option Value)} {kV doc pm cdv ct:Value} (l:K.lookup f=some ⟨oc,od,.func (PySem.W.fnOf x q (qr st) (zK st) (zc st) .none kV doc pm an cdv ct),osl⟩) (c:PySem.W.codeIn K cdv q=true) (k:PySem.W.keepIn K (.ref f)=true):LK K f x q st:=⟨_,_,_,_,_,_,_,_,_,l,c,k⟩
def HD (K:kC) (f:Addr) (x:Str) (n:Nat):Prop:=PySem.W.nsIn K mainGlobals x=some (some (.ref f))∧LK K f x x (top n)
theorem hdm {K:kC} {f:Addr} {x:Str} {n:Nat} {oc:Value} {od an:Option Addr} {osl:Array (Option Value)} {kV doc pm cdv ct:Value} (a:PySem.W.nsIn K mainGlobals x=some (some (.ref f))) (l:K.lookup f=some ⟨oc,od,.func (PySem.W.fnOf x x (qr (top n)) (zK (top n)) (zc (top n)) .none kV doc pm an cdv ct),osl⟩) (c:PySem.W.codeIn K cdv x=true) (k:PySem.W.keepIn K (.ref f)=true):HD K f x n:=⟨a,lk_mk l c k⟩
theorem z9L {K:kC} {h:Heap} {mg:Str→Option Value} {x:Str} {n:Nat} {f:Addr} (X:K.In h) (G:h.Ns mainGlobals mg) (l:HD K f x n):zn K mg x (top n):=by
 obtain ⟨a,_,_,_,_,_,_,_,_,_,l,c,k⟩:=l
 exact ⟨f,_,z1Q l c k,kq X G a⟩
theorem JN {K:kC} {C:Addr} {x q:Str} {st:Stmt} (l:∃f,PySem.W.findIn K (.ref C) x=some (some (.ref f))∧PySem.W.isFn K (.ref f)=true∧LK K f x q st):HasM K C x q st:=by
 obtain ⟨f,a,i,_,_,_,_,_,_,_,_,_,l,c,k⟩:=l
 exact ⟨f,_,z1Q l c k,⟨a,i,k⟩⟩
theorem z8J {K:kC} {C:Addr} {q:Str} {st:Stmt} {f:Addr} (mk:PySem.W.makesIn K C=true) (a:PySem.W.findIn K (.ref C) "__init__"=some (some (.ref f))) (i:PySem.W.isFn K (.ref f)=true) (l:LK K f "__init__" q st) (kc:PySem.W.keepIn K (.ref C)=true):HasI K C q st:=by
 obtain ⟨_,_,_,_,_,_,_,_,_,l,c,k⟩:=l
 exact ⟨f,_,z1Q l c k,⟨mk,a,i,kc⟩⟩
def CN (K:kC) (x:Str) (i:Int):Prop:=∃u,PySem.W.nsIn K mainGlobals x=some (some u)∧RelV (.int i) u
theorem cnm {K:kC} {x:Str} {i:Int} {u:Value} (a:PySem.W.nsIn K mainGlobals x=some (some u)) (r:RelV (.int i) u):CN K x i:=⟨u,a,r⟩
theorem z0D {K:kC} {h:Heap} {mg:Str→Option Value} {x:Str} {i:Int} (X:K.In h) (G:h.Ns mainGlobals mg) (l:CN K x i):∃u,mg x=some u∧RelV (.int i) u:=l.elim fun u q=>⟨u,kq X G q.1,q.2⟩
def KT (K:kC) (w:World) (x:Str) (tab:List (Str × V)):Prop:=∃a,PySem.W.nsIn K mainGlobals x=some (some (.ref a))∧KTab w.params K a tab
theorem ktm {K:kC} {w:World} {x:Str} {tab:List (Str × V)} {a:Addr} {e:Array DictEntry} {n:Nat} (h:PySem.W.nsIn K mainGlobals x=some (some (.ref a))) (l:K.lookup a=some ⟨.type "dict",none,.dict e n,#[]⟩) (k:PySem.W.KeysLit w.params e.toList) (m:(a == sysModules)=false)
  (p:Paired (fun (p:Str × V) (e:DictEntry)=>(∃t,e.key=.str p.1 t)∧RelV p.2 e.val) tab e.toList):KT K w x tab:=⟨a,h,e,n,l,k,m,p⟩
theorem ktg {K:kC} {w:World} {h:Heap} {mg:Str→Option Value} {x:Str} {tab:List (Str × V)} (X:K.In h) (G:h.Ns mainGlobals mg) (l:KT K w x tab):∃d,mg x=some (.ref d)∧KTab w.params K d tab:=l.elim fun d q=>⟨d,kq X G q.1,q.2⟩
def KU (K:kC) (x:Str) (xs:List V):Prop:=∃a,PySem.W.nsIn K mainGlobals x=some (some (.ref a))∧KTup K a xs
def MD (K:kC) (C:Addr) (x q:Str) (st:Stmt):Prop:=∃f,PySem.W.findIn K (.ref C) x=some (some (.ref f))∧PySem.W.isFn K (.ref f)=true∧LK K f x q st
theorem mdm {K:kC} {C f:Addr} {x q:Str} {st:Stmt} (a:PySem.W.findIn K (.ref C) x=some (some (.ref f))) (i:PySem.W.isFn K (.ref f)=true) (l:LK K f x q st):MD K C x q st:=⟨f,a,i,l⟩
theorem z6S {K:kC} {a:Addr} {xs:List V} {o:Obj} {its:Array Value} {n:Nat} (l:K.lookup a=some o) (c:o.cls=.type "tuple") (d:o.data=.seq its n) (v:Vals xs its.toList) (z:xs.length≤1000):KTup K a xs:=
 ⟨o,its,n,l,c,d,by have h1:xs.length=its.toList.length:=v.length;have h2:its.toList.length=its.size:=Array.length_toList;exact z1z (by lia),v⟩
theorem kum {K:kC} {x:Str} {a:Addr} {xs:List V} {o:Obj} {its:Array Value} {n:Nat} (h:PySem.W.nsIn K mainGlobals x=some (some (.ref a))) (l:K.lookup a=some o) (c:o.cls=.type "tuple") (d:o.data=.seq its n) (v:Vals xs its.toList) (z:xs.length≤1000):KU K x xs:=⟨a,h,z6S l c d v z⟩
theorem kug {K:kC} {h:Heap} {mg:Str→Option Value} {x:Str} {xs:List V} (X:K.In h) (G:h.Ns mainGlobals mg) (l:KU K x xs):∃a,mg x=some (.ref a)∧KTup K a xs:=l.elim fun d q=>⟨d,kq X G q.1,q.2⟩
theorem all_mk {l:PySem.W.OpenLaw} {w:World} {K:kC} {h:Heap} {mg:Str→Option Value} {fa CW CH T102 gfirst:Addr} {to102:Obj} {n102:Nat} (X:K.In h) (G:h.Ns mainGlobals mg) (hfa:mg "law"=some (.ref fa))
  {f13 f14 f15 f16 f17 f18 f19 f20 f21 f22 f23 f25 f26 f27 f28 f29 f30 f31 f32 f33 f43 f44 f45 f46 f47 f48 f49 f50 f51 f52 f53 f54 f57 f58 f59 f60 f61 f62 f63 f65 f66 f67 f74 f75 f77 f78 f79 f80 f81 f82 f83 f84 f85 f86 f87 f88 f89 f90 f91 f92 f93 f95 f98 f99 f100 f101 f103 f104 f105 f106 f107 f108 f109 f110 f111 f112 f113 f114 f102 fW0 fH0:Addr} {od102 an102:Option Addr} {sl102:Array (Option Value)} {oc102 kV102 dc102 pm102 cd102 ct102:Value}
  {tfirst:Addr} {ofirst:Obj} {ifirst:Array Value} {nfirst:Nat}
{ogfirst:Obj} {igfirst:Array Value} {ngfirst:Nat}
  (l13:HD K f13 "is_number" 13)
  (l14:HD K f14 "is_number_within" 14)
  (l15:HD K f15 "is_letters" 15)
  (l16:HD K f16 "is_name" 16)
  (l17:HD K f17 "is_kind" 17)
  (l18:HD K f18 "is_mark" 18)
  (l19:HD K f19 "is_value_within" 19)
  (l20:HD K f20 "is_pushed" 20)
  (l21:HD K f21 "is_copied" 21)
  (l22:HD K f22 "is_swapped_with" 22)
  (l23:HD K f23 "is_none" 23)
  (l25:HD K f25 "is_op" 25)
  (l26:HD K f26 "arg_sort" 26)
  (l27:HD K f27 "arg_fits" 27)
  (l28:HD K f28 "is_row" 28)
  (l29:HD K f29 "label_places" 29)
  (l30:HD K f30 "mark_fits" 30)
  (l31:HD K f31 "first_bad_place" 31)
  (l32:HD K f32 "has_places" 32)
  (l33:HD K f33 "check_code" 33)
  (l43:HD K f43 "uppermost" 43)
  (l44:HD K f44 "depth_asked" 44)
  (l45:HD K f45 "lacks_values" 45)
  (l46:HD K f46 "lacks_guard" 46)
  (l47:HD K f47 "takes_beneath" 47)
  (l48:HD K f48 "moves" 48)
  (l49:HD K f49 "words_lacking" 49)
  (l50:HD K f50 "guards_behind" 50)
  (l51:HD K f51 "next_states" 51)
  (l52:HD K f52 "state_words" 52)
  (l53:HD K f53 "searched" 53)
  (l54:HD K f54 "states" 54)
  (l57:HD K f57 "is_true" 57)
  (l58:HD K f58 "are_same" 58)
  (l59:HD K f59 "sum_of" 59)
  (l60:HD K f60 "difference_of" 60)
  (l61:HD K f61 "product_of" 61)
  (l62:HD K f62 "quotient_of" 62)
  (l63:HD K f63 "rest_of" 63)
  (l65:HD K f65 "made_of_two" 65)
  (l66:HD K f66 "made_of_one" 66)
  (l67:HD K f67 "kind_raised" 67)
  (l74:HD K f74 "is_names" 74)
  (l75:HD K f75 "check_names" 75)
  (l77:HD K f77 "do_push" 77)
  (l78:HD K f78 "do_load" 78)
  (l79:HD K f79 "do_quick" 79)
  (l80:HD K f80 "do_store" 80)
  (l81:HD K f81 "do_clear" 81)
  (l82:HD K f82 "do_drop" 82)
  (l83:HD K f83 "do_copy" 83)
  (l84:HD K f84 "do_swap" 84)
  (l85:HD K f85 "pushed_or_fault" 85)
  (l86:HD K f86 "do_two" 86)
  (l87:HD K f87 "do_one" 87)
  (l88:HD K f88 "do_tell" 88)
  (l89:HD K f89 "do_jump" 89)
  (l90:HD K f90 "do_if" 90)
  (l91:HD K f91 "do_or" 91)
  (l92:HD K f92 "do_return" 92)
  (l93:HD K f93 "do_raise" 93)
  (l95:HD K f95 "do_row" 95)
  (l98:HD K f98 "_law_town" 98)
  (l99:HD K f99 "_law_draw" 99)
  (l100:HD K f100 "_law_pick" 100)
  (l101:HD K f101 "_law_const" 101)
  (l103:HD K f103 "_law_mark" 103)
  (l104:HD K f104 "_law_value" 104)
  (l105:HD K f105 "_law_tried_value" 105)
  (l106:HD K f106 "_law_moved_value" 106)
  (l107:HD K f107 "_law_deed" 107)
  (l108:HD K f108 "_law_choice" 108)
  (l109:HD K f109 "_law_round" 109)
  (l110:HD K f110 "_law_tried" 110)
  (l111:HD K f111 "_law_code" 111)
  (l112:HD K f112 "_law_given" 112)
  (l113:HD K f113 "_law_shown" 113)
  (l114:HD K f114 "law" 114)
  (a102:PySem.W.nsIn K mainGlobals "_law_put"=some (some (.ref f102)))
  (l102:K.lookup f102=some ⟨oc102,od102,.func (PySem.W.fnOf "_law_put" "_law_put" (qr (top 102)) (zK (top 102)) (zc (top 102)) (.ref T102) kV102 dc102 pm102 an102 cd102 ct102),sl102⟩)
  (c102:PySem.W.codeIn K cd102 "_law_put"=true)
  (k102:PySem.W.keepIn K (.ref f102)=true)
  (t102:K.lookup T102=some to102)
  (s102:to102.data=.seq #[Value.none] n102)
  (aCW:PySem.W.nsIn K mainGlobals "Walk"=some (some (.ref CW)))
  (pgCW:PySem.W.plainGet K CW Str.empty=true)
  (hdCW:PySem.W.hasDictIn K CW=true)
  (poCW:PySem.W.plainOver K CW=true)
  (saCW:PySem.W.findIn K (.ref CW) "__setattr__"=some (some (.builtin "object.__setattr__")))
  (mkCW:PySem.W.makesIn K CW=true)
  (kcCW:PySem.W.keepIn K (.ref CW)=true)
  (nCWrows:PySem.W.findIn K (.ref CW) "rows"=some none)
  (nCWgoals:PySem.W.findIn K (.ref CW) "goals"=some none)
  (nCWhold:PySem.W.findIn K (.ref CW) "hold"=some none)
  (nCWwards:PySem.W.findIn K (.ref CW) "wards"=some none)
  (nCWpassed:PySem.W.findIn K (.ref CW) "passed"=some none)
  (nCWending:PySem.W.findIn K (.ref CW) "ending"=some none)
  (nCWhere:PySem.W.findIn K (.ref CW) "here"=some none)
  (aCH:PySem.W.nsIn K mainGlobals "Hold"=some (some (.ref CH)))
  (pgCH:PySem.W.plainGet K CH Str.empty=true)
  (hdCH:PySem.W.hasDictIn K CH=true)
  (poCH:PySem.W.plainOver K CH=true)
  (saCH:PySem.W.findIn K (.ref CH) "__setattr__"=some (some (.builtin "object.__setattr__")))
  (mkCH:PySem.W.makesIn K CH=true)
  (kcCH:PySem.W.keepIn K (.ref CH)=true)
  (nCHheld:PySem.W.findIn K (.ref CH) "held"=some none)
  (nCHknown:PySem.W.findIn K (.ref CH) "known"=some none)
  (nCHsaid:PySem.W.findIn K (.ref CH) "said"=some none)
  (aW0:PySem.W.findIn K (.ref CW) "__init__"=some (some (.ref fW0)))
  (iW0:PySem.W.isFn K (.ref fW0)=true)
  (lW0:LK K fW0 "__init__" "Walk.__init__" (mW 0))
  (aH0:PySem.W.findIn K (.ref CH) "__init__"=some (some (.ref fH0)))
  (iH0:PySem.W.isFn K (.ref fH0)=true)
  (lH0:LK K fH0 "__init__" "Hold.__init__" (mH 0))
  (mm1:MD K CW "come_to" "Walk.come_to" (mW 1))
  (mm2:MD K CW "finish" "Walk.finish" (mW 2))
  (mm3:MD K CW "take_fault" "Walk.take_fault" (mW 3))
  (mm4:MD K CW "step" "Walk.step" (mW 4))
  (mm5:MD K CW "place" "Walk.place" (mW 5))
  (mm6:MD K CW "stack" "Walk.stack" (mW 6))
  (mm7:MD K CW "names" "Walk.names" (mW 7))
  (mm8:MD K CW "guards" "Walk.guards" (mW 8))
  (mm9:MD K CW "told" "Walk.told" (mW 9))
  (z_isinstance:PySem.W.nsIn K mainGlobals "isinstance"=some none)
  (z_int:PySem.W.nsIn K mainGlobals "int"=some none)
  (z_bool:PySem.W.nsIn K mainGlobals "bool"=some none)
  (z_str:PySem.W.nsIn K mainGlobals "str"=some none)
  (z_tuple:PySem.W.nsIn K mainGlobals "tuple"=some none)
  (z_list:PySem.W.nsIn K mainGlobals "list"=some none)
  (z_len:PySem.W.nsIn K mainGlobals "len"=some none)
  (z_range:PySem.W.nsIn K mainGlobals "range"=some none)
  (z_enumerate:PySem.W.nsIn K mainGlobals "enumerate"=some none)
  (z_all:PySem.W.nsIn K mainGlobals "all"=some none)
  (z_dict:PySem.W.nsIn K mainGlobals "dict"=some none)
  (z_max:PySem.W.nsIn K mainGlobals "max"=some none)
  (z_min:PySem.W.nsIn K mainGlobals "min"=some none)
  (z_abs:PySem.W.nsIn K mainGlobals "abs"=some none)
  (z_sorted:PySem.W.nsIn K mainGlobals "sorted"=some none)
  (z_set:PySem.W.nsIn K mainGlobals "set"=some none)
  (q_rows:CN K "MOST_ROWS" 150)
  (q_line:CN K "MOST_LINE" 9999)
  (q_mark:CN K "MOST_MARK" 99)
  (q_pushed:CN K "MOST_PUSHED" 1000000000)
  (q_name:CN K "LONGEST_NAME" 4)
  (q_kind:CN K "LONGEST_KIND" 8)
  (q_made:CN K "MOST_MADE" 1000000000000000000)
  (q_names:CN K "MOST_NAMES" 8)
  (ta_sorts:KT K w "ARG_SORTS" z33)
  (ta_tests:KT K w "ARG_TESTS" [("value",.ref f20),("name",.ref f16),("copied",.ref f21),("swapped",.ref f22),("mark",.ref f18),("none",.ref f23)])
  (ta_takes:KT K w "TAKES" (z0r zD))
  (ta_pushes:KT K w "PUSHES" (z0r zH))
  (ta_gput:KT K w "GUARDS_PUT" (z0r zP))
  (ta_reck:KT K w "RECKONINGS" [("add",.ref f59),("sub",.ref f60),("mul",.ref f61),("div",.ref f62),("rest",.ref f63)])
  (ta_deeds:KT K w "DEEDS" (ZQ ⟨f77,f78,f79,f80,f81,f82,f83,f84,f86,f87,f88,f89,f90,f91,f92,f93⟩))
  (ua_jumping:KU K "JUMPING" (jumping.map V.str))
  (ua_leaving:KU K "LEAVING" (leaving.map V.str))
  (ua_never:KU K "NEVER_ON" (qi.map V.str))
  (ua_faulting:KU K "FAULTING" (faulting.map V.str))
  (ua_next:KU K "NEXT" [.str "next",.non])
  (ua_go:KU K "GO" [.str "go",.non])
  (ua_unset:KU K "UNSET" [.str "fault",.str "Unset"])
  (ua_on:KU K "ON" [.str "on"])
  (ua_first:PySem.W.nsIn K mainGlobals "FIRST_STATE"=some (some (.ref tfirst)))
  (ul_first:K.lookup tfirst=some ofirst)
  (uc_first:ofirst.cls=.type "tuple")
  (ud_first:ofirst.data=.seq ifirst nfirst)
  (uv_first:Vals [.int 0,.ref gfirst] ifirst.toList)
  (ul_gfirst:K.lookup gfirst=some ogfirst)
  (uc_gfirst:ogfirst.cls=.type "tuple")
  (ud_gfirst:ogfirst.data=.seq igfirst ngfirst)
  (uv_gfirst:Vals [] igfirst.toList)
  :∃fd:FuncData,(∀(s:Shared) (v:Value),BindsTo s fd ⟨[v],[]⟩ [("_law_script",v)])∧∀base:Heap,K.In base→base.Ns mainGlobals mg→FnOk l.prog w K mg base CX0 18 fa fd ["_law_script"] (z4u K):=by
 have e:=hfa.symm.trans (kq X G l114.1)
 cases e
 have D {f:Addr} {x:Str} {n:Nat} (l:HD K f x n):zn K mg x (top n):=z9L X G l
 have DP:z4n K mg "_law_put" (top 102):=⟨f102,T102,oc102,kV102,dc102,pm102,cd102,ct102,od102,an102,sl102,to102,n102,kq X G a102,k102,l102,c102,t102,s102⟩
 have GG:Glo mg:=⟨PySem.W.mg_none_of X G z_isinstance,PySem.W.mg_none_of X G z_int,PySem.W.mg_none_of X G z_bool,PySem.W.mg_none_of X G z_str,PySem.W.mg_none_of X G z_tuple,PySem.W.mg_none_of X G z_list,PySem.W.mg_none_of X G z_len,PySem.W.mg_none_of X G z_range,PySem.W.mg_none_of X G z_enumerate,z0D X G q_rows,z0D X G q_line,z0D X G q_mark,z0D X G q_pushed,z0D X G q_name,z0D X G q_kind,PySem.W.mg_none_of X G z_all,PySem.W.mg_none_of X G z_dict,PySem.W.mg_none_of X G z_max,PySem.W.mg_none_of X G z_min,PySem.W.mg_none_of X G z_abs,z0D X G q_made,z0D X G q_names⟩
 obtain ⟨dtests,mtests,ktests⟩:=ktg X G ta_tests
 obtain ⟨dreck,mreck,kreck⟩:=ktg X G ta_reck
 have TT:Tabs w K mg:=⟨ktg X G ta_sorts,⟨dtests,f20,f16,f21,f22,f18,f23,mtests,ktests,kq X G l20.1,kq X G l16.1,kq X G l21.1,kq X G l22.1,kq X G l18.1,kq X G l23.1⟩⟩
 have T2:z5G w K mg:=⟨ktg X G ta_takes,ktg X G ta_pushes,ktg X G ta_gput,kug X G ua_jumping,kug X G ua_leaving,kug X G ua_never,kug X G ua_faulting,⟨tfirst,gfirst,kq X G ua_first,z6S ul_first uc_first ud_first uv_first (by show 2≤1000;decide),z6S ul_gfirst uc_gfirst ud_gfirst uv_gfirst (by decide)⟩⟩
 have T3:z9c w K mg ⟨f77,f78,f79,f80,f81,f82,f83,f84,f86,f87,f88,f89,f90,f91,f92,f93⟩:=⟨ktg X G ta_deeds,kq X G l77.1,kq X G l78.1,kq X G l79.1,kq X G l80.1,kq X G l81.1,kq X G l88.1,kq X G l90.1,kq X G l91.1,kq X G l92.1,kq X G l86.1,kq X G l87.1,kq X G l89.1,kq X G l82.1,kq X G l83.1,kq X G l84.1,kq X G l93.1⟩
 have TR:TabR w K mg:=⟨dreck,f59,f60,f61,f62,f63,mreck,kreck,kq X G l59.1,kq X G l60.1,kq X G l61.1,kq X G l62.1,kq X G l63.1⟩
 have CC:Cons K mg:=⟨kug X G ua_next,kug X G ua_go,kug X G ua_unset,kug X G ua_on⟩
 have CL:Clss K mg CW CH:=⟨kq X G aCW,kq X G aCH,⟨⟨pgCW,hdCW,poCW,saCW⟩,nCWrows,nCWgoals,nCWhold,nCWwards,nCWpassed,nCWending,nCWhere⟩,⟨⟨pgCH,hdCH,poCH,saCH⟩,nCHheld,nCHknown,nCHsaid⟩,z8J mkCW aW0 iW0 lW0 kcCW,z8J mkCH aH0 iH0 lH0 kcCH,JN mm1,JN mm2,JN mm3,JN mm4,JN mm5,JN mm6,JN mm7,JN mm8,JN mm9⟩
 obtain ⟨_,_,_,an,_,kV,dc,pm,cd,ct,lk,c,k⟩:=l114
 refine ⟨PySem.W.fnOf "law" "law" (qr (top 114)) (zK (top 114)) (zc (top 114)) .none kV dc pm an cd ct,fun s v=>.of_eq rfl,fun base _ _=>?_⟩
 have nF {x:Str} {ps:List Str} {sp:Sp} {k:Nat} (F:FN l.prog w K mg base k x ps sp):=F
 have nM {C:Addr} {x:Str} {ps:List Str} {sp:Sp} {k:Nat} (F:MN l.prog w K mg base k C x ps sp):=F
 have nI {C:Addr} {ps:List Str} {sp:Sp} {k:Nat} (F:IN l.prog w K mg base k C ps sp):=F
 have num:=nF (z0w (D l13) GG)
 have qK:=z3G (D l14) GG num
 have jT:=nF (z2x (D l15) GG)
 have name:=z7c (D l16) GG jT
 have kind:=z7g (D l17) GG jT
 have mark:=z7d (D l18) GG qK
 have value:=z58 (D l19) GG qK kind
 have pushed:=z3K (D l20) GG value
 have copied:=z3L (D l21) qK
 have swapped:=z2w (D l22) qK
 have none:=nF (z7a (D l23))
 have op:=nF (z9T (D l25) GG TT)
 have sort:=nF (z73 (D l26) TT)
 have fits:=z7i (D l27) TT sort pushed name copied swapped mark none
 have row:=z8N (D l28) GG op fits qK
 have labs:=z7f (D l29) GG row
 have mfits:=z0v (D l30) sort
 have bad:=z8U (D l31) GG row labs mfits
 have has:=nF (z8T (D l32) GG)
 have check:=z5p (D l33) has bad
 have up:=up2 (nF (z9P (D l43)))
 have asked:=nF (z5q (D l44) T2)
 have lackV:=z5i (D l45) asked
 have Zn:=nF (z5j (D l46))
 have qw:=z2z (D l47) GG asked
 have moves:=z5f (D l48) T2 lackV Zn
 have words:=z57 (D l49) GG lackV Zn qw moves
 have gb:=nF (z9X (D l50))
 have next:=z7b (D l51) up moves gb
 have sw:=z9R (D l52) up words
 have searched:=z1j (D l53) GG T2 labs sw next
 have states:=z3H (D l54) check searched
 have tru:=nF (z6Z (D l57) GG)
 have names:=z5e (D l74) GG name value
 have chkn:=z7o (D l75) names
 have push:=nF (z77 (D l77) CL.cH CC)
 have load:=nF (z7e (D l78) CL.cH CC)
 have quick:=nF (z5d (D l79) CL.cH CC)
 have store:=nF (z5a (D l80) CL.cH CC)
 have clear:=nF (z5o (D l81) CL.cH CC)
 have drop:=nF (z7j (D l82) CL.cH CC)
 have copy:=nF (z7n (D l83) CL.cH CC)
 have swap:=nF (z72 (D l84) CL.cH CC)
 have tell:=nF (z71 (D l88) CL.cH CC)
 have ifs:=z9W (D l90) CL.cH CC tru
 have ors:=z9S (D l91) CL.cH CC tru
 have ret:=nF (z3J (D l92) CL.cH)
 have kr:=z5k (D l67) kind
 have rais:=z5c (D l93) CL.cH kr
 have same:=nF (z74 (D l58) GG)
 have sum:=nF (z8M (D l59))
 have diff:=nF (z7l (D l60))
 have prod:=nF (z78 (D l61))
 have quot:=nF (z76 (D l62))
 have rest:=nF (z75 (D l63))
 have Zm:=z5g (D l65) num same GG TR sum diff prod quot rest
 have z0j:=z5h (D l66) num tru
 have pof:=nF (z8P (D l85) CL.cH CC)
 have two:=z8L (D l86) CL.cH Zm pof
 have one:=z8Q (D l87) CL.cH z0j pof
 have jump:=nF (z7h (C:=CH) (D l89) CC)
 have dorow:=z5m (D l95) T3 push load quick store clear tell ifs ors ret two one jump drop copy swap rais
 have ihold:=nI (z6V CL.iH CL.cH GG)
 have come:=nM (z8B CL.m1 CL.cW CL.cH GG)
 have fin:=nM (z9I (CH:=CH) CL.m2 CL.cW)
 have take:=z8A CL.m3 CL.cW CL.cH fin come
 have step:=z6L CL.m4 CL.cW fin take come dorow
 have place:=nM (z6N (CH:=CH) CL.m5 CL.cW)
 have told:=nM (z8z CL.m9 CL.cW CL.cH GG)
 have stack:=nM (z6M CL.m6 CL.cW CL.cH GG)
 have guards:=nM (z4V (CH:=CH) CL.m8 CL.cW GG)
 have wnames:=nM (z6O CL.m7 CL.cW CL.cH GG)
 have iwalk:=z6U CL.iW CL.cW GG CC CL.mH states chkn labs ihold come
 have town:=nF (z70 (D l98) GG)
 have draw:=nF (z7k (D l99) GG)
 have pick:=z79 (D l100) GG draw
 have const:=z5n (D l101) pick
 have put:=z8O (P:=l.prog) (w:=w) (base:=base) DP GG
 have mk:=nF (z9V (D l103) GG)
 have S:jD l.prog w K mg base:=⟨draw,pick,const,put.1,put.2,mk⟩
 have VV:=z0u (D l104) (D l105) (D l106) GG S 3
 have DD:=z1U (D l107) (D l108) (D l109) (D l110) S VV 3
 have lcode:=z2y (D l111) GG S VV DD
 have given:=z5l (D l112) S
 have shown:=nF (z3I (D l113))
 exact z8S (z1Q (st:=top 114) lk c k) GG CL.cW CL.mW (PySem.W.mg_none_of X G z_sorted) (PySem.W.mg_none_of X G z_set) town lcode given shown iwalk place told stack guards wnames step
theorem z83 {K:kC} {H:Hp} {a:Addr} {xs:List V} (hO:Only H) (h:SqL K H a xs):Scr K H a xs:=by
 rcases h with h | h
 ·rcases h with h | ⟨o,h⟩
  ·rcases hO a with z | ⟨o,ys,z⟩
   ·rw [z] at h;cases h
   ·rw [z] at h;cases h
  ·exact .inl ⟨o,h⟩
 ·exact .inr h
theorem walk {l:PySem.W.OpenLaw} {q:Program} {loose:List Str} {XP:(Str→Option Value)→Heap→Prop} {YP:World→Heap→Prop} {d:DefRec} {K:Params→kC} (hn:l.most=some 63) (hdf:d.params.defaults=[])
  (hY:∀(w:World) (h:Heap),YP w h→(K w.params).In h)
  (F:∀(w:World) (mg:Str→Option Value) (fa:Addr) (h:Heap),(K w.params).In h→h.Ns mainGlobals mg→mg d.name=some (.ref fa)→
   ∃fd:FuncData,(∀(s:Shared) (u:Value),BindsTo s fd ⟨[u],[]⟩ [("_law_script",u)])∧∀base:Heap,(K w.params).In base→base.Ns mainGlobals mg→FnOk l.prog w (K w.params) mg base CX0 18 fa fd ["_law_script"] (z4u (K w.params))):
  PySem.W.WalkO q loose XP YP l.row.toRowW d [] (fun f vs=>PySem.call f vs):=
 L2.z6c (n:=63) (k:=18) (x:="_law_script") (CX:=fun _=>CX0) (sp:=fun w=>z4u (K w.params)) hn (by decide) hdf ⟨rfl,by decide,by decide,rfl⟩ hY F (fun _ _ a ns hl hO hS=>⟨a,ns,rfl,z83 hO hS,hl,fun _=>rfl⟩) fun _ _ _ _ _ z=>z
end My
namespace PySem.W.Fast
def tw5105673956185107153:=Prop
def tw9296360433889664002:=Prop
def tw16968176118458789586:=Prop
def tw1454219785156648487:=Prop
def tw9497945907656264259:=Prop
def tw1176975735165151067:=Prop
def tw13698048360955963301:=Prop
def tw10426125643436316091:=Prop
def tw906997338810173357:=Prop
def tw3528903376305711396:=Prop
def tw10199354318988768051:=Prop
def tw6397798872860733234:=Prop
def tw550859730669387710:=Prop
def tw13402640891724300857:=Prop
def tw14869557710840242666:=Prop
def tw8629223137936558018:=Prop
def tw16479022912942432158:=Prop
def tw17643754061406199020:=Prop
def tw4584130408075211490:=Prop
def tw8348929279939143713:=Prop
def tw8609586542792094281:=Prop
def tw3285859953031059425:=Prop
def tw11889039917686322224:=Prop
def tw5240190935848835389:=Prop
def tw9601000219436670146:=Prop
def tw15452572443179084588:=Prop
def tw16449049683821496617:=Prop
def tw9156678896304099913:=Prop
def tw15886500619415505586:=Prop
def tw3520363519792060846:=Prop
def tw531412535426860449:=Prop
def tw6486810437610700802:=Prop
def tw12048056826642495367:=Prop
def tw16075136791760097191:=Prop
def tw1099786997935966427:=Prop
def tw8428562227566387420:=Prop
def tw4419873286371483742:=Prop
def tw4491058772748593153:=Prop
def tw6494943896840636653:=Prop
def tw5671954072354940063:=Prop
def tw9986627191518016938:=Prop
def tw5856596252816178523:=Prop
def tw13436231055378572716:=Prop
def tw11930311979851757478:=Prop
def tw7503064181124827805:=Prop
def tw5055051069096525434:=Prop
def tw7398817070849623441:=Prop
def tw12798869161161681673:=Prop
def tw8393786181099783575:=Prop
def tw9774394379856643515:=Prop
def tw2257529940240947247:=Prop
def tw5891177449180782854:=Prop
def tw15402286563333779435:=Prop
def tw12533650973541477374:=Prop
def tw3101917741504857134:=Prop
def tw4359589691058243886:=Prop
def tw14048895322960730393:=Prop
def tw4540636511946744494:=Prop
def tw7523194637212750777:=Prop
def tw4361700775904427359:=Prop
def tw7498633149979677338:=Prop
def tw3092117133297227249:=Prop
def tw15335523830956845186:=Prop
def tw10299302589577801163:=Prop
def tw3470010718395615242:=Prop
def tw13840814423707232359:=Prop
def tw11483614926036402024:=Prop
def tw9563574807059059695:=Prop
def tw15348117752812372481:=Prop
def tw11519117686961666697:=Prop
def tw16231819489803491086:=Prop
def tw2947586027576077979:=Prop
def tw16932301668260661676:=Prop
def tw4157206338815638501:=Prop
def tw11630328935867623959:=Prop
def tw8879981774537637704:=Prop
def tw1349388230604553621:=Prop
def tw6822529714786804032:=Prop
def tw6734199854066611161:=Prop
def tw18324700857378425723:=Prop
def tw16472409268878238316:=Prop
def tw10700183255674453818:=Prop
def tw8164005668110941744:=Prop
def tw4961949625528378942:=Prop
def tw4770949888891906500:=Prop
def tw8981913638643619018:=Prop
def tw11832926541442806272:=Prop
def tw13426244417702134072:=Prop
def tw1462193419119380569:=Prop
def tw742405457713269000:=Prop
def tw234749781942434899:=Prop
def tw18145098415874279589:=Prop
def tw5681066748535004433:=Prop
def tw529536973988259948:=Prop
def tw5958337225494893492:=Prop
def tw17541053060092493725:=Prop
def tw1191315250883676292:=Prop
def tw1906743188756502811:=Prop
def tw8426798971799828003:=Prop
def tw11370914782968760983:=Prop
def tw10335527622381539264:=Prop
def tw9416359806053724237:=Prop
def tw14501001857826371202:=Prop
def tw5030944203280556702:=Prop
def tw4026151001005817321:=Prop
def tw7328447075739424539:=Prop
def tw4216363875500904389:=Prop
def tw16539199913488330184:=Prop
def tw13517250619966689955:=Prop
def tw853867870972434600:=Prop
def tw8933567498414919238:=Prop
def tw7492102371377302679:=Prop
def tw5623994078177797194:=Prop
def tw3761122049097509064:=Prop
def tw14191745827877185554:=Prop
def tw5312734613080425828:=Prop
def tw10502693668590426699:=Prop
def tw10155365746132046468:=Prop
def tw11112971261363487917:=Prop
def tw2563342435080024164:=Prop
def tw6548945272714408661:=Prop
def tw16364373167927100580:=Prop
def tw17849293660312457548:=Prop
def tw35568349831873098:=Prop
def tw14613296582639449008:=Prop
def tw12018387782679925087:=Prop
def tw12043681936756833108:=Prop
def tw11779420592341035236:=Prop
def tw4097071322456330496:=Prop
def tw16745343075639119971:=Prop
def tw16792704761308240420:=Prop
def tw16749348522385944071:=Prop
def tw1987508650992133761:=Prop
def tw18395511878220121235:=Prop
def tw2208741240797131588:=Prop
def tw140247042037892190:=Prop
def tw12027893231959348502:=Prop
def tw12996339429388188178:=Prop
def tw2283480497557504744:=Prop
def tw69414778264802052:=Prop
def tw416062468532545916:=Prop
def tw7175924686734873740:=Prop
def tw14285927966381778045:=Prop
def tw16550838102048051623:=Prop
def tw7537285074954141530:=Prop
def tw4654963303733061616:=Prop
def tw6285040191614719466:=Prop
def tw4571146918403064550:=Prop
def tw15904842870477748834:=Prop
def tw734138898119960010:=Prop
def tw3479469073905811116:=Prop
def tw16950569574821323974:=Prop
def tw3172541193896328996:=Prop
def tw4843473975253519250:=Prop
def tw6012122021747098740:=Prop
def tw4598012029387006661:=Prop
def tw16459021049253542911:=Prop
def tw3307598998989760257:=Prop
def tw11309342325655673037:=Prop
def tw1541540961381408409:=Prop
def tw15248526436251307398:=Prop
def tw8789256864460932259:=Prop
def tw15622835117965313283:=Prop
def tw5388663596951873645:=Prop
def tw12673549619886724666:=Prop
def tw11849525312028181438:=Prop
def tw10785849952161257653:=Prop
def tw8018341471551460276:=Prop
def tw15943592676296772274:=Prop
def tw9488181201213887302:=Prop
def tw2536771547969941856:=Prop
def tw16900098544317168846:=Prop
def tw18269924539489903889:=Prop
def tw7317576523658780031:=Prop
def tw16317983856663788926:=Prop
def tw1191518686258777599:=Prop
def tw10635065575864489283:=Prop
def tw8621301723031713458:=Prop
def tw14198735713732576978:=Prop
def tw17312996333117680517:=Prop
def tw4248988804066548162:=Prop
def tw3414106826494052011:=Prop
def tw12068798485007620914:=Prop
def tw7363425622247834253:=Prop
def tw143287661451841328:=Prop
def tw17287205074728517176:=Prop
def tw8934421753687110507:=Prop
def tw4537827082999213091:=Prop
def tw4203021270051977171:=Prop
def tw3801760983836956406:=Prop
def tw11418939547134857076:=Prop
def tw3638187344944282256:=Prop
def tw1944925098504758534:=Prop
def tw3094701115853657799:=Prop
def tw13197444509695450237:=Prop
def tw1385777081429181588:=Prop
def tw16279701975793424917:=Prop
def tw4179031660912777645:=Prop
def tw1481561522626788794:=Prop
def tw9597476570122768466:=Prop
def tw371976131940695897:=Prop
def tw3857615796733700780:=Prop
def tw6586766797330607371:=Prop
def tw15508019666092448443:=Prop
def tw804092199982636349:=Prop
def tw14326666937008165477:=Prop
def tw13829591483307370896:=Prop
def tw2133357390318303931:=Prop
def tw16131418979919672264:=Prop
def tw17969941481158815411:=Prop
def tw15213048550514571353:=Prop
def tw7523960725538707817:=Prop
def tw2133271169735087666:=Prop
def tw2451202640524662777:=Prop
def tw1165732905965986049:=Prop
def tw17427895641331663283:=Prop
def tw6459200953577825518:=Prop
def tw4033379813872489195:=Prop
def tw3166399620581321579:=Prop
def tw14712817762504950641:=Prop
def tw8903238766108814736:=Prop
def tw8181798732573668865:=Prop
def tw539595736760451978:=Prop
def tw16149030986926176842:=Prop
def tw11622863634709415212:=Prop
def tw7610715734942229976:=Prop
def tw8704305404121857298:=Prop
def tw4290539585013091505:=Prop
def tw13478877428745155630:=Prop
def tw7247118927824095897:=Prop
def tw1820406046763328738:=Prop
def tw8436589768386056944:=Prop
def tw18192907663531859256:=Prop
def tw17483246593336843265:=Prop
def tw10137764753370060610:=Prop
def tw6200747210346194187:=Prop
def tw17682402426280554898:=Prop
def tw6708892414054319099:=Prop
def tw6807009207803952845:=Prop
def tw15382044423783582273:=Prop
def tw10097012582147076362:=Prop
def tw18238527295441131724:=Prop
def tw12565002596728077416:=Prop
def tw17721039672839981703:=Prop
def tw112567504061534027:=Prop
def tw182668025278835697:=Prop
def tw9192171586001469603:=Prop
def tw14846608996346228861:=Prop
def tw9455475090630465045:=Prop
def tw17980745110099312959:=Prop
def tw2766794811542550618:=Prop
def tw17004574920194074796:=Prop
def tw10097206405949888370:=Prop
def tw1880258362356491002:=Prop
def tw4402504706719581215:=Prop
def tw17845374550828520631:=Prop
def tw17619882183920601743:=Prop
def tw11392713097197983755:=Prop
def tw16268753175028127129:=Prop
def tw14439765378166140033:=Prop
def tw8454840944936950519:=Prop
def tw18221076124747093969:=Prop
def tw10752687858943698738:=Prop
def tw13432873828021710899:=Prop
def tw9629638568524466495:=Prop
def tw7470021291188754609:=Prop
def tw17601101962401091345:=Prop
def tw1291100630677660343:=Prop
def tw13884827974113296321:=Prop
def tw14864845329073380503:=Prop
def tw8162408487105142038:=Prop
def tw7586693836618795562:=Prop
def tw4074981978428682757:=Prop
def tw12059592832596718669:=Prop
def tw1678685284944356640:=Prop
def tw7249538410202319208:=Prop
def tw13624067223694474022:=Prop
def tw16118103595353321548:=Prop
def tw14395535763308203431:=Prop
def tw11712190458185945011:=Prop
def tw10746989603658154836:=Prop
def tw17180906862757672473:=Prop
def tw7394473655412076685:=Prop
def tw14977872999208125893:=Prop
def tw12976177241038019767:=Prop
def tw10762484250532422250:=Prop
def tw13231743877010270464:=Prop
def tw14566440943485919492:=Prop
def tw14374603453287560736:=Prop
def tw15069716523494295500:=Prop
def tw9183887234732007851:=Prop
def tw14790834132378566595:=Prop
def tw17798109276220946204:=Prop
def tw8839083969933755074:=Prop
def tw13148303815899264127:=Prop
def tw5047655472420816975:=Prop
def tw8369868683130302868:=Prop
def tw802917404587063742:=Prop
def tw17546005709695080877:=Prop
def tw10845176269288740530:=Prop
def tw11764051201032110199:=Prop
def tw2294854397974045510:=Prop
def tw12221415409051222339:=Prop
def tw13260146092877858203:=Prop
def tw9685044298169568939:=Prop
def tw17714833071000019117:=Prop
def tw264859973967348148:=Prop
def tw15845117809764550140:=Prop
def tw6664951462986138201:=Prop
def tw15314323031021625729:=Prop
def tw278057108609374583:=Prop
def tw6638926791290424541:=Prop
def tw13359630831485827548:=Prop
def tw11769617611247221923:=Prop
def tw15679247252792206210:=Prop
def tw8160871880118814707:=Prop
def tw6951939212644042833:=Prop
def tw7805864855692585105:=Prop
def tw9715166753854553471:=Prop
def tw17100184641858439841:=Prop
def tw15632388027458123374:=Prop
def tw7799292279061216081:=Prop
def tw5613845454599061817:=Prop
def tw7160180452043601882:=Prop
def tw15431134087688302020:=Prop
def tw9897558803702562313:=Prop
def tw12978678129208030876:=Prop
def tw8008005557923197168:=Prop
def tw9508736203920968164:=Prop
def tw18363613149180712908:=Prop
def tw10543178825980762907:=Prop
def tw7900839787485558254:=Prop
def tw10884089432341657690:=Prop
def tw6585068141940680455:=Prop
def tw11990459337992974956:=Prop
def tw6582134788679801411:=Prop
def tw8085317222854131807:=Prop
def tw4952506757814975653:=Prop
def tw17548501875881557423:=Prop
def tw5036445103931068615:=Prop
def tw517312751163448032:=Prop
def tw10780761586765376359:=Prop
def tw11732214188671553305:=Prop
def tw603919011924581760:=Prop
def tw6834397320308548248:=Prop
def tw13792483299354683862:=Prop
def tw4954584648838934644:=Prop
def tw3482820431698744051:=Prop
def tw6511239469406747073:=Prop
def tw11002848052431835627:=Prop
def tw1313047135445303594:=Prop
def tw6737687440995333003:=Prop
def tw11973505968982382900:=Prop
def tw11289143093466461953:=Prop
def tw2478928736998500339:=Prop
def tw16919330064296535691:=Prop
def tw12725296767022386299:=Prop
def tw8086373703447589959:=Prop
def tw13989995598129119793:=Prop
def tw1712973634487312807:=Prop
def tw1948689806639624469:=Prop
def tw2852278927748849453:=Prop
def tw5427499738942290107:=Prop
def tw18189533506524829052:=Prop
def tw10042499479572932358:=Prop
def tw1138913362466708187:=Prop
def tw6731276024794131016:=Prop
def tw14010756937746569603:=Prop
def tw4626940704210403192:=Prop
def tw1873328127978622562:=Prop
def tw13305670439411429421:=Prop
def tw178168908405807006:=Prop
def tw17996964024917085871:=Prop
def tw15726315211890062517:=Prop
def tw3992908553847606798:=Prop
def tw7042659310547366237:=Prop
def tw931956834028986255:=Prop
def tw13078823862939028812:=Prop
def tw17857563459279650048:=Prop
def tw4211952112222678748:=Prop
def tw14729990847023682631:=Prop
def tw7479925121973489306:=Prop
def tw8864380892348041232:=Prop
def tw1322031339247656150:=Prop
def tw7388713464098733815:=Prop
def tw12434779806091606683:=Prop
def tw7499281151589028774:=Prop
def tw12380031433413146341:=Prop
def tw1201823643857629683:=Prop
def tw13673065589402620214:=Prop
def tw15740581520725410121:=Prop
def tw4268201051430804902:=Prop
def tw14858129598448742980:=Prop
def tw13218621648322568166:=Prop
def tw14495299557687959983:=Prop
def tw2644793928968540899:=Prop
def tw5107255825281412738:=Prop
def tw6192104577313164617:=Prop
def tw380267787363406661:=Prop
def tw12184380411685104690:=Prop
def tw9001960471440542311:=Prop
def tw6108208118871286908:=Prop
def tw9308127886482624579:=Prop
def tw10693841506766600124:=Prop
def tw2348382526199129394:=Prop
def tw15724745641170818534:=Prop
def tw3555141088238359772:=Prop
def tw13481268755573549168:=Prop
def tw5485572742587201778:=Prop
def tw11081772624950168284:=Prop
def tw6203606158221864914:=Prop
def tw17093224777342109595:=Prop
def tw14255533807856875452:=Prop
def tw4466625985826531108:=Prop
def tw13419329186978087958:=Prop
def tw8237626310708396552:=Prop
def tw12004313012329915033:=Prop
def tw17837415989878807268:=Prop
def tw9585978970863474492:=Prop
def tw5272677748111154927:=Prop
def tw10987736105736012968:=Prop
def tw4982327473614321822:=Prop
def tw4674102799890499726:=Prop
def tw14207915657524821833:=Prop
def tw5286587840749011222:=Prop
def tw17974404532321089622:=Prop
def tw6183355688225794848:=Prop
def tw9218752888244210615:=Prop
def tw6415066574636824545:=Prop
def tw5552461122284547459:=Prop
def tw6315216371427503177:=Prop
def tw5260856337621036202:=Prop
def tw15862806813707239167:=Prop
def tw17545862747986772839:=Prop
def tw7877236402650122457:=Prop
def tw12132578266924881344:=Prop
def tw9305391788130653963:=Prop
def tw11637195238256488622:=Prop
def tw8824595633291508535:=Prop
def tw16116135819603233207:=Prop
def tw9308725717764142674:=Prop
def tw12847321847948890356:=Prop
def tw15568136977402293060:=Prop
def tw8954067861541931720:=Prop
def tw14199714164133228370:=Prop
def tw9761588102954696855:=Prop
def tw4449657751673405704:=Prop
def tw14805814515597417852:=Prop
def tw5764117369366255280:=Prop
def tw726985913927333873:=Prop
def tw15718574390098580149:=Prop
def tw2385268686561707046:=Prop
def tw2335157872551914648:=Prop
def tw2927799364441409784:=Prop
def tw729466047920990731:=Prop
def tw11717690317537128808:=Prop
def tw15137687247720179910:=Prop
def tw17513604867990543079:=Prop
def tw9122274009815981030:=Prop
def tw8445716188487379795:=Prop
def tw347805415268056836:=Prop
def tw8605165415444627158:=Prop
def tw1840282097412291383:=Prop
def tw14987661418082201831:=Prop
def tw571030836065106013:=Prop
def tw1722802803701587481:=Prop
def tw3382304716988349589:=Prop
def tw15934030157929616494:=Prop
def tw2754692670688779762:=Prop
def tw2923001932562327482:=Prop
def tw11056378351747038870:=Prop
def tw712222309637291157:=Prop
def tw5426448371682200115:=Prop
def tw3450989490954552525:=Prop
def tw17230770501986531994:=Prop
def tw8126552424372712672:=Prop
def tw5661640270340304354:=Prop
def tw17094580856887593759:=Prop
def tw3904583755211930517:=Prop
def tw838488071084229480:=Prop
def tw17119971604622065936:=Prop
def tw14583267516977433036:=Prop
def tw14788362278542820120:=Prop
def tw16025434724436758002:=Prop
def tw1901531775752417231:=Prop
def tw9316670756482807701:=Prop
def tw14124935244785052151:=Prop
def tw2648174423076098445:=Prop
def tw10069975712529536831:=Prop
def tw4425046354534653865:=Prop
def tw2969480146181677978:=Prop
def tw3373145609055282853:=Prop
def tw9832553117377153458:=Prop
def tw14722794537435163219:=Prop
def tw18431155831084640082:=Prop
def tw11069628954808310989:=Prop
def tw2337977823195543630:=Prop
def tw3892864765347196996:=Prop
def tw7942853410682446962:=Prop
def tw9210994340424595770:=Prop
def tw17698735102306075112:=Prop
def tw317932667124481529:=Prop
def tw5635732757303927080:=Prop
def tw15078095837771203109:=Prop
def tw11118301316682269745:=Prop
def tw11188117447681078326:=Prop
def tw4227517698962585424:=Prop
def tw14749253800190834908:=Prop
def tw6215920317759002765:=Prop
def tw519266280920424228:=Prop
def tw9466130334346563993:=Prop
def tw11763852733077360975:=Prop
def tw143782271200020318:=Prop
def tw8526028360262338249:=Prop
def tw10052001805573714066:=Prop
def tw17398146341500462573:=Prop
def tw1877378965866140348:=Prop
def tw12694589447371642155:=Prop
def tw17882641709403210578:=Prop
def tw4153491320931672185:=Prop
def tw15545184769064153574:=Prop
def tw5565376262109202332:=Prop
def tw11165118516710488114:=Prop
def tw10267551232223586437:=Prop
def tw16396790404030501481:=Prop
def tw12067549021546063074:=Prop
def tw15755044616229629136:=Prop
def tw2857234818492195956:=Prop
def tw4916127144345927284:=Prop
def tw17401831432661337422:=Prop
def tw1647960591809683682:=Prop
def tw2791417458454038152:=Prop
def tw17878424488110687958:=Prop
def tw14267268813261638861:=Prop
def tw12662363693902343356:=Prop
def tw5835942142707902020:=Prop
def tw4185518321428705831:=Prop
def tw10015450608781386451:=Prop
def tw3345597093286824917:=Prop
def tw5680315236850328200:=Prop
def tw11786325122171474085:=Prop
def tw15325311475551686242:=Prop
def tw15639028444304104736:=Prop
def tw1349615225243010270:=Prop
def tw15223397061033166810:=Prop
def tw763151578990004582:=Prop
def tw7343611390307366373:=Prop
def tw4543556514994620149:=Prop
def tw7089793799200125183:=Prop
def tw8159976661246289121:=Prop
def tw7340446101256811000:=Prop
def tw3121739546393284973:=Prop
def tw14323227155912201964:=Prop
def tw14734032772098568817:=Prop
def tw12815670308626618822:=Prop
def tw8553059368797141306:=Prop
def tw14900259974334564751:=Prop
def tw5769997320742902227:=Prop
def tw2962324470309885386:=Prop
def tw16266442582153907279:=Prop
def tw8667492640987031791:=Prop
def tw13669522585143040522:=Prop
def tw11320351676317602388:=Prop
def tw11329467641453361123:=Prop
def tw4693335582198445222:=Prop
def tw13774056567397157767:=Prop
def tw13252108370143244208:=Prop
def tw5541168653056121806:=Prop
def tw6793172497655745189:=Prop
def tw6857339639742657550:=Prop
def tw6905212232875527693:=Prop
def tw13952158723898717365:=Prop
def tw18012574323051992567:=Prop
def tw5310652868755799522:=Prop
def tw10378583025934500588:=Prop
def tw7524379617451308511:=Prop
def tw18167724695441219349:=Prop
def tw12392129776423771058:=Prop
def tw1672204981616886009:=Prop
def tw7420531298404749032:=Prop
def tw4968929673044707356:=Prop
def tw13887902116395311400:=Prop
def tw1391549112126926301:=Prop
def tw12712400820596877648:=Prop
def tw10846345724684618374:=Prop
def tw16228728417992630932:=Prop
def tw13055661147411815287:=Prop
def tw3934833063311361131:=Prop
def tw7076977106511060911:=Prop
def tw274189353798237994:=Prop
def tw2873748437651673626:=Prop
def tw10896712999787139778:=Prop
def tw14029171239946634462:=Prop
def tw6771182271545134960:=Prop
def tw3664731896753646195:=Prop
def tw5315833730557488597:=Prop
def tw6873971014812347169:=Prop
def tw8891557043749499067:=Prop
def tw6999419289813526679:=Prop
def tw644751248652905101:=Prop
def tw10497823618577955822:=Prop
def tw13508602156133886167:=Prop
def tw2680141511932349947:=Prop
def tw10733525418748422364:=Prop
def tw897888412878121761:=Prop
def tw17719364405881837276:=Prop
def tw10497042534595344180:=Prop
def tw14279065940840616024:=Prop
def tw4038909232737020655:=Prop
def tw10131873952172028942:=Prop
def tw18329075359065952542:=Prop
def tw1267704075650749254:=Prop
def tw7431412026099729193:=Prop
def tw10039880896571965473:=Prop
def tw16463793508043411602:=Prop
def tw4888033052430993751:=Prop
def tw5587484289544270231:=Prop
def tw8131721106225051767:=Prop
def tw5847202018973711932:=Prop
def tw3808584094389355786:=Prop
def tw15261137711255440680:=Prop
def tw10800367221633172730:=Prop
def tw10134030333460990790:=Prop
def tw8860130008918733972:=Prop
def tw2202087279664922802:=Prop
def tw4773397407553703792:=Prop
def tw3471986238504059686:=Prop
def tw16925118299729312639:=Prop
def tw4799189423077775474:=Prop
def tw16699019767340423185:=Prop
def tw17456480263006714056:=Prop
def tw16034362830870596112:=Prop
def tw14763428746477059428:=Prop
def tw5363195699714531557:=Prop
def tw1567247161763788871:=Prop
def tw17666627728419048244:=Prop
def tw18182889222666715495:=Prop
def tw14335355579717207800:=Prop
def tw5845538515087863352:=Prop
def tw7090585071989052306:=Prop
def tw438459731153329746:=Prop
def tw11224361182253327997:=Prop
def tw12111957463147405440:=Prop
def tw11896190001472655623:=Prop
def tw15888159438429106303:=Prop
def tw10729351905339586543:=Prop
def tw4188684199736651882:=Prop
def tw1826987945724244988:=Prop
def tw7767600555257307780:=Prop
def tw17338234738716814015:=Prop
def tw18145377420945558387:=Prop
def tw12325562205625792791:=Prop
def tw704147369595269066:=Prop
def tw6623812351622530092:=Prop
def tw1998032249293215463:=Prop
def tw14113110954290816071:=Prop
def tw9161490523856799436:=Prop
def tw6760056911573607715:=Prop
def tw6089177832033215386:=Prop
def tw11300376045408061371:=Prop
def tw12011070553636201877:=Prop
def tw15196435062632127612:=Prop
def tw18277388166739348960:=Prop
def tw6429450841261186155:=Prop
def tw4403367617266980805:=Prop
def tw3133745999044795564:=Prop
def tw5590363086789879750:=Prop
def tw9751423446361702133:=Prop
def tw1061639710858884176:=Prop
def tw17570062618377817894:=Prop
def tw8369655760788974282:=Prop
def tw10232147439284725336:=Prop
def tw670427922429333600:=Prop
def tw2374466318677132124:=Prop
def tw12319733152821033628:=Prop
def tw18443007809517869832:=Prop
def tw3083371992184736890:=Prop
def tw10354477200866600673:=Prop
def tw7395645310213146516:=Prop
def tw3302770140995672700:=Prop
def tw10661956449011590994:=Prop
def tw3048301304931576756:=Prop
def tw6252695792229605141:=Prop
def tw5802571108899374253:=Prop
def tw12487779173672901959:=Prop
def tw10393078302967963895:=Prop
def tw8478550097109946567:=Prop
def tw6205024481829086969:=Prop
def tw16884622931589843948:=Prop
def tw5015507407206683207:=Prop
def tw1786580016645180315:=Prop
def tw8621336744817483243:=Prop
def tw10412780308102683651:=Prop
def tw1817805791611690161:=Prop
def tw14064692534454641163:=Prop
def tw5425125011635884837:=Prop
def tw9513619709740374535:=Prop
def tw8886442042033028919:=Prop
def tw10728712052571211117:=Prop
def tw11586196018267737339:=Prop
def tw11522840503767320408:=Prop
def tw16061800364364160699:=Prop
def tw5805183375971660199:=Prop
def tw4842887358765978389:=Prop
def tw14398365135244066966:=Prop
def tw6999941293234460784:=Prop
def tw14009581584578638139:=Prop
def tw10285885531015897042:=Prop
def tw3321576952164483024:=Prop
def tw8249347019533418915:=Prop
def tw17960406059949683352:=Prop
def tw14112606434462084385:=Prop
def tw14593252181223967585:=Prop
def tw15988265368706215130:=Prop
def tw3488647797146898431:=Prop
def tw3903891618737965568:=Prop
def tw7158441374720773216:=Prop
def tw7834740603555865465:=Prop
def tw12590770754756799043:=Prop
def tw133755455108545178:=Prop
def tw16286715671046524454:=Prop
def tw12514039047250868702:=Prop
def tw5609530884314319229:=Prop
def tw6788773261714906821:=Prop
def tw7945405709010385892:=Prop
def tw12694112234171929671:=Prop
def tw6147076586173037292:=Prop
def tw2484844197603217540:=Prop
def tw7717702957765121957:=Prop
def tw13350131943787299761:=Prop
def tw1354003750591732747:=Prop
def tw14731147920152588799:=Prop
def tw11887224372650548316:=Prop
def tw8078195926588453703:=Prop
def tw3822784309164373692:=Prop
def tw5674458297940323589:=Prop
def tw12523711969749109062:=Prop
def tw11269825475406603969:=Prop
def tw11389117665151840592:=Prop
def tw5011889884212318148:=Prop
def tw1041263688889175116:=Prop
def tw10184835648761350555:=Prop
def tw11970942820725077907:=Prop
def tw8175973581910071180:=Prop
def tw16717272659965454103:=Prop
def tw14245618210516037357:=Prop
def tw6381902497316938245:=Prop
def tw6784790241324674965:=Prop
def tw8697654515486363317:=Prop
def tw2456577590951144490:=Prop
def tw8877373362634485534:=Prop
def tw12661032092557703082:=Prop
def tw12436235973947379448:=Prop
def tw4636031889025220839:=Prop
def tw3981585000120243262:=Prop
def tw12737541344736672974:=Prop
def tw6595744693926533701:=Prop
def tw5399014298235654608:=Prop
def tw16607927582987124570:=Prop
def tw13949155002146243131:=Prop
def tw4589182232624314844:=Prop
def tw14949513074056673275:=Prop
def tw15755219311246346914:=Prop
def tw16970792351503237766:=Prop
def tw13708279966662545973:=Prop
def tw16372584530490662585:=Prop
def tw10149639745659574222:=Prop
def tw13323373534744806615:=Prop
def tw15854262060937163188:=Prop
def tw17960848765466677729:=Prop
def tw1096354831752916523:=Prop
def tw7910172739516966087:=Prop
def tw7263363503728760936:=Prop
def tw17802128708061929859:=Prop
def tw9835382159548102362:=Prop
def tw19751972998642308:=Prop
def tw11943773105449008187:=Prop
def tw5185991453625059868:=Prop
def tw14650769484350525481:=Prop
def tw5713610079918043996:=Prop
def tw2162080455258581682:=Prop
def tw592193406742131962:=Prop
def tw11982959770356382578:=Prop
def tw1833547357909804662:=Prop
def tw3942624392001961204:=Prop
def tw12328853128172473661:=Prop
def tw6728313399510405491:=Prop
def tw2450569374399577549:=Prop
def tw6662249597110656733:=Prop
def tw11654023200298843171:=Prop
def tw11843833423457600547:=Prop
def tw15536387163757344236:=Prop
def tw15719748902143223830:=Prop
def tw16504757533647375273:=Prop
end PySem.W.Fast
open PySem PySem.W PyProof.Rows
set_option maxRecDepth 100000
set_option maxHeartbeats 0
open_top head for PySem.Challenge.rw_codemill_k18_whole_told_step_by_step
theorem PySem.Challenge.cw_codemill_k18_whole_told_step_by_step_holds : PySem.Challenge.rw_codemill_k18_whole_told_step_by_step.Holds :=
 head (by
 k_fill
 refine My.walk (l:=PySem.Challenge.rw_codemill_k18_whole_told_step_by_step) rfl rfl (fun w h Y=>PySem.W.kIn_of Y) ?F
 case F=>
  intro w mg fa h KX G hmg
  refine' My.all_mk KX G hmg ?_ ?_ ?_ ?_ ?_ ?_ ?_ ?_ ?_ ?_ ?_ ?_ ?_ ?_ ?_ ?_ ?_ ?_ ?_ ?_ ?_ ?_ ?_ ?_ ?_ ?_ ?_ ?_ ?_ ?_ ?_ ?_ ?_ ?_ ?_ ?_ ?_ ?_ ?_ ?_ ?_ ?_ ?_ ?_ ?_ ?_ ?_ ?_ ?_ ?_ ?_ ?_ ?_ ?_ ?_ ?_ ?_ ?_ ?_ ?_ ?_ ?_ ?_ ?_ ?_ ?_ ?_ ?_ ?_ ?_ ?_ ?_ ?_ ?_ ?_ ?_ ?_ ?_ ?_ ?_ ?_ ?_ ?_ ?_ ?_ ?_ ?_ ?_ ?_ ?_ ?_ ?_ ?_ ?_ ?_ ?_ ?_ ?_ ?_ ?_ ?_ ?_ ?_ ?_ ?_ ?_ ?_ ?_ ?_ ?_ ?_ ?_ ?_ ?_ ?_ ?_ ?_ ?_ ?_ ?_ ?_ ?_ ?_ ?_ ?_ ?_ ?_ ?_ ?_ ?_ ?_ ?_ ?_ ?_ ?_ ?_ ?_ ?_ ?_ ?_ ?_ ?_ ?_ ?_ ?_ ?_ ?_ ?_ ?_ ?_ ?_ ?_ ?_ ?_ ?_ ?_ ?_ ?_ ?_ ?_ ?_ ?_ ?_ ?_ ?_ ?_ ?_ ?_ ?_ ?_ ?_
  any_goals exact My.hdm (by k_is) (by k_is) (by k_is) (by k_is)
  any_goals exact My.cnm (by k_is) (by first | exact rfl | exact ⟨_,rfl⟩)
  any_goals exact My.ktm (by k_is) (by k_is) (by k_keys) (by first | exact rfl | decide) (by repeat (first | exact .nil | refine .cons ⟨⟨_,rfl⟩,(by first | exact rfl | exact ⟨_,rfl⟩)⟩ ?_))
  any_goals exact My.kum (by k_is) (by k_is) rfl rfl (by repeat (first | exact .nil | refine .cons (by first | exact rfl | exact ⟨_,rfl⟩) ?_)) (by decide)
  any_goals k_is
  any_goals exact My.mdm (by k_is) (by k_is) (My.lk_mk (by k_is) (by k_is) (by k_is))
  any_goals exact My.lk_mk (by k_is) (by k_is) (by k_is)
  any_goals first | exact rfl | exact ⟨_,rfl⟩ | k_keys | decide
  any_goals (repeat (first | exact .nil | refine .cons (by first | exact rfl | exact ⟨_,rfl⟩) ?_))
  any_goals k_is
  any_goals exact rfl)
