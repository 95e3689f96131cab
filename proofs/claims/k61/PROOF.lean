import PyProof.Rows.All
import Wide.All
import OpenK.AllK
import Wide.FinOn
import Lean
import PyProof.EqAt
import PyProof.EqKinds
import PyProof.TupleCall
import PyProof.DictItems
import PyProof.Rows.SortStr
import PyProof.Rows.StrInSeq3
import PyProof.ZipIter
import PyProof.Draws
import PyProof.TupleIter
import PyProof.Rows.SortShell
import PyProof.ListRange
import KE.KPar
import PySem.Challenge.RW_codemill_k61_whole_sure_is_set
local macro_rules | `(tactic| trivial) => `(tactic| (dsimp only; decide +kernel))
local macro_rules | `(tactic| trivial) => `(tactic| decide +kernel)
abbrev ke:=@Bool.false_ne_true
abbrev kh:=@Option.bind_some
abbrev ki:=@Nat.le_refl
abbrev kj:=@List.getElem?_eq_some_iff
abbrev km:=@decide_eq_false
abbrev ko:=@decide_eq_true
abbrev kq:=@List.length_map
abbrev ku:=@List.length_append
abbrev ky:=@PySem.W.mg_of
abbrev kz:=@List.mem_singleton
abbrev kC:=@List.not_mem_nil
abbrev kD:=@Nat.le_trans
abbrev kE:=PySem.W.Frag
abbrev kF:=@if_neg
abbrev kG:=@if_pos
abbrev kH:=@Option.some.inj
abbrev kI:=@of_decide_eq_true
abbrev kJ:=@List.mem_cons
abbrev kK:=@List.size_toArray
abbrev kL:=@List.length_singleton
abbrev kM:=@List.mem_of_getElem?
abbrev kN:=@List.dropLast_concat
abbrev kO:=@List.getLast?_concat
abbrev kP:=@List.map_append
abbrev kQ:=@List.getElem?_eq_getElem
abbrev kR:=@Nat.lt_of_lt_of_le
abbrev kU:=@List.mem_append_right
abbrev kW:=@List.mem_append_left
abbrev kX:=@List.length_cons
abbrev kY:=@List.mem_cons_self
abbrev kZ:=@List.mem_cons_of_mem
abbrev ya:=@List.mem_append
abbrev yb:=@List.map_cons
abbrev yc:=@List.append_nil
abbrev yd:=@List.append_assoc
abbrev ye:=@Nat.le_of_eq
abbrev yf:=@Int.eq_ofNat_of_zero_le
abbrev yg:=@Int.toNat_natCast
abbrev yh:=@Nat.lt_succ_self
abbrev yj:=@Bool.and_eq_true
abbrev yk:=@decide_eq_true_eq
abbrev yl:=@List.mem_map
abbrev ym:=@List.getElem?_append_left
abbrev yn:=@List.getElem?_append_right
set_option genInjectivity true
set_option genSizeOf false
set_option Elab.async false
set_option linter.all false
set_option maxRecDepth 100000
theorem aR (h:True=True:=by rfl) (k:(0:Nat)=0:=by decide):True:=trivial
section
open PySem PySem.Spec PyProof.Rows
theorem vV {p:Prop} (h:p:=by trivial):p:=h
abbrev va:=@wpAny_bind
abbrev vb:=@Heap.get?_push_of_some
abbrev vc:=@PySem.mem_of_lookup
abbrev vd:=@absurd
abbrev ve:=@wpAny_pure
abbrev vf:=@Heap.lt_size
abbrev vg:=@Heap.get?_push_size
abbrev vh:=@List.getElem?_map
abbrev vi:=@Nat.zero_le
abbrev vj:=@List.length_replicate
abbrev vk:=@PySem.W.mg_none_of
abbrev vm:=@Nat.ne_of_lt
abbrev vn:=@PassesOwn.never
abbrev vo:=@List.getElem?_eq_none
abbrev vp:=@List.length_take
abbrev vq:=@List.getElem?_replicate
abbrev vt:=@List.getElem?_set_ne
abbrev vv:=@PySem.W.kia_one
abbrev vw:=@List.getElem?_set_self
abbrev vx:=@List.getElem?_set
abbrev vy:=@Bool.false_and
abbrev vz:=@List.take_length
abbrev vA:=@Nat.lt_irrefl
abbrev vB:=@wpAny_truthy_bool
abbrev vC:=@Calls.callWith_builtin
abbrev vD:=@List.replicate_succ
abbrev vE:=@List.length_set
abbrev vF:=@congrArg
abbrev vG:=@wpAny_newObj_type
abbrev vH:=@PyProof.Rows.callWith_type1
abbrev vI:=@Nat.le_add_right
abbrev vJ:=@wpAny_mono
abbrev vK:=@Calls.spliced_cons
abbrev vL:=@List.countP_singleton
abbrev vM:=@List.find?_cons
abbrev vN:=@Int.add_zero
abbrev vO:=@PyProof.Rows.slot_tuple_getitem
abbrev vP:=@wpAny_Call_Name_kw
abbrev vQ:=@wpAny_passesOwn
abbrev vR:=@Bool.eq_iff_iff
abbrev vS:=@PySem.F.slot_dict_get
abbrev vT:=@List.length_filter_le
abbrev vU:=@List.flatten_cons
theorem vW {n:Nat} (h:Nat.ble n 1000=true:=by rfl):n≤sizeLine:=Nat.le_trans (Nat.le_of_ble_eq_true h) (by decide)
abbrev vZ:List Str:=["hold","op","arg"]
abbrev Va:List Str:=["first","second"]
abbrev Vb:List Str:=["thing"]
abbrev Vc:List Str:=["_law_script","_law_town_here"]
abbrev Vd:List Str:=["_law_script","_law_town_here","_law_many"]
abbrev Ve:List Str:=["code","labels","place","state"]
abbrev Vf:List Str:=["code","labels","place","depth","guard"]
abbrev Vg:List Str:=["_law_rows","_law_op","_law_arg"]
namespace L2
abbrev Key:=Sum Int Str
noncomputable def z1n:Key->Value->Bool
 | .inl k,v=>Value.isInt k v
 | .inr x,v=>Value.isStrOf x v
noncomputable def keyH (w:World):Key->Int
 | .inl k=>hashInt k
 | .inr x=>hashStr w x
theorem qD:∀{k:Key} {v:Value},z1n k v=true->(∃i t,k=Sum.inl i/\v=Value.int i t)\/(∃x t,k=Sum.inr x/\v=Value.str x t)
 | .inl i,v,h=>by
  obtain ⟨t,e⟩:=Value.isInt_shape (k:=i) (v:=v) h;exact .inl ⟨i,t,rfl,e⟩
 | .inr x,v,h=>by
  obtain ⟨t,e⟩:=Value.isStrOf_shape (x:=x) (v:=v) h;exact .inr ⟨x,t,rfl,e⟩
theorem z3A (i:Int) (t:Tok):z1n (.inl i) (.int i t)=true:=by simp [z1n,Value.isInt]
theorem z3y (x:Str) (t:Tok):z1n (.inr x) (.str x t)=true:=by simp [z1n,Value.isStrOf]
theorem z99 (a b:Int):decide ((Sum.inl a:Key)=Sum.inl b)=(a == b):=by
 by_cases e:a=b
 ·subst e;simp
 ·have h:¬(Sum.inl a:Key)=Sum.inl b:=fun q=>e (Sum.inl.inj q)
  rw [km h];exact (beq_eq_false_iff_ne.mpr e).symm
theorem z96 (a b:Str):decide ((Sum.inr a:Key)=Sum.inr b)=decide (a=b):=by
 by_cases e:a=b
 ·subst e;simp
 ·have h:¬(Sum.inr a:Key)=Sum.inr b:=fun q=>e (Sum.inr.inj q)
  rw [km h,km e]
theorem z98 (a:Int) (b:Str):decide ((Sum.inl a:Key)=Sum.inr b)=false:=km (fun q=>nomatch q)
theorem z97 (a:Str) (b:Int):decide ((Sum.inr a:Key)=Sum.inl b)=false:=km (fun q=>nomatch q)
noncomputable def qp (prog:Program) (w:World):PySem.KeyKind prog w Key where
 is:=z1n
 hash:=keyH w
 inj:=fun v a b ha hb=>by
  rcases qD ha with ⟨i,t,rfl,rfl⟩ | ⟨x,t,rfl,rfl⟩
  ·rcases qD hb with ⟨j,u,rfl,e⟩ | ⟨y,u,rfl,e⟩
   ·injection e with e1 _;rw [e1]
   ·exact nomatch e
  ·rcases qD hb with ⟨j,u,rfl,e⟩ | ⟨y,u,rfl,e⟩
   ·exact nomatch e
   ·injection e with e1 _;rw [e1]
 byValue:=fun k v h=>by
  rcases qD h with ⟨i,t,rfl,rfl⟩ | ⟨x,t,rfl,rfl⟩ <;> rfl
 pyHash:=fun hv h=>by
  rcases qD hv with ⟨i,t,rfl,rfl⟩ | ⟨x,t,rfl,rfl⟩
  ·exact wpAny_pyHash_int h
  ·exact wpAny_pyHash_str h
 eqBool:=fun hu hv h=>by
  rcases qD hu with ⟨i,t,rfl,rfl⟩ | ⟨x,t,rfl,rfl⟩
  ·rcases qD hv with ⟨j,u,rfl,rfl⟩ | ⟨y,u,rfl,rfl⟩
   ·rw [z99] at h;exact wpAny_eqBool_int h
   ·rw [z98] at h;exact SeqAt.EqAt.int_str i t y u _ _ _ _ h
  ·rcases qD hv with ⟨j,u,rfl,rfl⟩ | ⟨y,u,rfl,rfl⟩
   ·rw [z97] at h;exact SeqAt.EqAt.str_int x t j u _ _ _ _ h
   ·rw [z96] at h;exact wpAny_eqBool_str h
 «strs»:=fun k x t v h=>by
  rcases qD h with ⟨i,u,rfl,e⟩ | ⟨y,u,rfl,e⟩
  ·exact nomatch e
  ·injection e with e1 _
   subst e1;cases v <;> rfl
theorem z1j (prog:Program) (w:World) (i:Int) (t:Tok):(qp prog w).is (.inl i) (.int i t)=true:=z3A i t
theorem z1i (prog:Program) (w:World) (x:Str) (t:Tok):(qp prog w).is (.inr x) (.str x t)=true:=z3y x t
end L2
namespace L2
inductive V where
 | non | bl (b:Bool) | int (i:Int) | str (x:Str) | byt (b:Array UInt8) | flt (b:UInt64) | ref (a:Addr) | ty (n:String)
 deriving DecidableEq
def RelV:V->Value->Prop
 | .non,u=>u=Value.none
 | .bl b,u=>u=Value.bool b
 | .int i,u=>∃t,u=Value.int i t
 | .str x,u=>∃t,u=Value.str x t
 | .byt b,u=>∃t,u=Value.bytes b t
 | .flt b,u=>∃t,u=Value.float b t
 | .ref a,u=>u=Value.ref a
 | .ty n,u=>u=Value.type n
abbrev Vals:List V->List Value->Prop:=Paired RelV
theorem Vals.length {xs:List V} {us:List Value} (r:Vals xs us):xs.length=us.length:=Paired.length r
theorem Vals.get:∀{xs:List V} {us:List Value} {i:Nat} {x:V},Vals xs us->xs[i]?=some x->∃u,us[i]?=some u/\RelV x u
 | _,_,_,_,.nil,e=>by simp at e
 | _,_,0,_,.cons r _,e=>by simp at e;subst e;exact ⟨_,rfl,r⟩
 | _,_,i+1,x,.cons _ t,e=>by
  obtain ⟨u,h1,h2⟩:=Vals.get (i:=i) (x:=x) t (by simpa using e);exact ⟨u,by simpa using h1,h2⟩
theorem Vals.set {x:V} {u:Value} (r:RelV x u):∀{xs:List V} {us:List Value} (i:Nat),Vals xs us->Vals (xs.set i x) (us.set i u)
 | _,_,_,.nil=>.nil
 | _,_,0,.cons _ t=>.cons r t
 | _,_,i+1,.cons q t=>.cons q (Vals.set r i t)
theorem Vals.append:∀{xs ys:List V} {us ws:List Value},Vals xs us->Vals ys ws->Vals (xs++ys) (us++ws)
 | _,_,_,_,.nil,s=>s
 | _,_,_,_,.cons r t,s=>.cons r (Vals.append t s)
theorem Vals.take:∀{xs:List V} {us:List Value} (n:Nat),Vals xs us->Vals (xs.take n) (us.take n)
 | _,_,0,_=>.nil
 | _,_,_+1,.nil=>.nil
 | _,_,n+1,.cons r t=>.cons r (Vals.take n t)
theorem Vals.drop:∀{xs:List V} {us:List Value} (n:Nat),Vals xs us->Vals (xs.drop n) (us.drop n)
 | _,_,0,r=>r
 | _,_,_+1,.nil=>.nil
 | _,_,n+1,.cons _ t=>Vals.drop n t
def RelO:Option V->Option Value->Prop
 | some v,some u=>RelV v u
 | none,none=>True
 | _,_=>False
def KV {κ:Type}:List (κ × V)->List (κ × Value)->Prop:=Paired fun (p:κ × V) (q:κ × Value)=>p.1=q.1/\RelV p.2 q.2
noncomputable def kV:Key->V
 | .inl i=>.int i
 | .inr x=>.str x
inductive HO where
 | lst (xs:List V)
 | tup (xs:List V)
 | dK (kvs:List (Key × V)) | dT (kvs:List (List Key × V))
 | set (S:Int->Bool) (n:Nat)
 | ins (C dx:Addr) (fs:List (Str × V))
 | own (x:Addr)
 | xd (fs:List (Str × V))
 | met (f x:Addr)
 | rng (lo hi:Int)
 | frz (o:Obj) (u:HO)
 | tbl (ps:Array Value)
 | ext (φ:Heap->Prop)
abbrev Hp:=Addr->Option HO
noncomputable def upd (H:Hp) (a:Addr) (o:HO):Hp:=fun b=>if b=a then some o else H b
theorem zc {H:Hp} {a:Addr} {o:HO}:upd H a o a=some o:=by unfold upd;rw [kG rfl]
theorem zj {H:Hp} {a b:Addr} {o:HO} (h:b≠a):upd H a o b=H b:=by unfold upd;rw [kF h]
theorem z6y {H:Hp} {a:Addr} {o u:HO}:upd (upd H a o) a u=upd H a u:=by
 funext b;unfold upd;split <;> rfl
theorem zL {H:Hp} {a b:Addr} {o u:HO} (h:H a=some o) (h':H b=some u) (d:o≠u):a≠b:=by
 intro e;subst e;rw [h] at h';exact d (kH h')
theorem ze {H:Hp} {a b:Addr} {o:HO} (h:H a=some o) (h':H b=none):a≠b:=by
 intro e;subst e;rw [h] at h';cases h'
section
variable (P:Program) (w:World)
def qK (H:Hp) (h:Heap) (a:Addr):HO->Prop
 | .lst xs=>xs.length<=sizeLine/\∃(its:List Value) (n:Nat),Vals xs its/\h.get? a=some { cls:=.type "list",data:=.seq its.toArray n }
 | .tup xs=>xs.length<=sizeLine/\∃its:List Value,Vals xs its/\IsTup h a its.toArray
 | .dK kvs=>kvs.length<=sizeLine/\(a == sysModules)=false/\∃vs,KV kvs vs/\h.DictOf (qp P w) a vs
 | .dT kvs=>kvs.length<=sizeLine/\(a == sysModules)=false/\∃xs:List (List Key × Addr × Value),
   Paired (fun (p:List Key × V) (q:List Key × Addr × Value)=>p.1=q.1/\H q.2.1=some (.tup (p.1.map kV))/\RelV p.2 q.2.2) kvs xs/\
   ∃o es ep,h.get? a=some o/\o.ExactDict/\o.data=.dict es ep/\es.toList=xs.map (entryOfKey (tupleKind (qp P w)))/\(xs.map (·.1)).Nodup
 | .set S n=>h.SetOf (intKind P w) a S n
 | .ins C dx fs=>H dx=some (.own a)/\fs.length<=1000/\dx≠a/\h.get? a=some (PySem.W.instObj C dx)/\
   ∃mA,h.Ns1 dx mA/\(∀f,RelO (fs.lookup f) (mA f))/\PySem.Within mA (fs.map (·.1))
 | .own _=>∃o,h.get? a=some o
 | .xd fs=>∃mA,h.Ns1 a mA/\∀f,RelO (fs.lookup f) (mA f)
 | .rng lo hi=>∃t u v,h.get? a=some { cls:=.type "range",data:=.fields #[.int lo t,.int hi u,.int 1 v] }
 | .frz o u=>h.get? a=some o/\qK H h a u
 | .tbl ps=>h.get? a=some { cls:=.none,data:=.fields ps }
 | .met f x=>h.get? a=some (PySem.W.methodObj (.ref f) (.ref x))
 | .ext φ=>φ h/\(∃o,h.get? a=some o)/\∀h1 h2:Heap,φ h1->(∀o,h1.get? a=some o->h2.get? a=some o)->φ h2
def HOk (H:Hp) (h:Heap):Prop:=∀a o,H a=some o->qK P w H h a o
end
section
variable {P:Program} {w:World} {H H':Hp} {h h':Heap} {a:Addr} {o:HO}
theorem qK.lt (x:qK P w H h a o):a < h.objs.size:=by
 cases o with
 | lst xs=>obtain ⟨_,_,_,_,e⟩:=x;exact vf e
 | tup xs=>obtain ⟨_,_,_,p⟩:=x;exact p.lt
 | dK kvs=>obtain ⟨_,_,_,_,o,_,_,e,_⟩:=x;exact vf e
 | dT kvs=>obtain ⟨_,_,_,_,o,_,_,e,_⟩:=x;exact vf e
 | set S n=>obtain ⟨o,_,_,_,e,_⟩:=x;exact vf e
 | ins C dx fs=>obtain ⟨_,_,_,e,_⟩:=x;exact vf e
 | own y=>obtain ⟨_,e⟩:=x;exact vf e
 | xd fs=>obtain ⟨_,⟨_,_,_,e,_⟩,_⟩:=x;exact vf e
 | rng lo hi=>obtain ⟨_,_,_,e⟩:=x;exact vf e
 | frz ob u=>obtain ⟨e,_⟩:=x;exact vf e
 | tbl ps=>exact vf (show h.get? a=some _ from x)
 | met f y=>exact vf (show h.get? a=some _ from x)
 | ext φ=>obtain ⟨_,⟨_,e⟩,_⟩:=x;exact vf e
theorem Paired.mapP {α β:Type} {F G:α->β->Prop}:∀{l₁:List α} {l₂:List β},Paired F l₁ l₂->(∀a b,F a b->G a b)->Paired G l₁ l₂
 | _,_,.nil,_=>.nil
 | _,_,.cons r t,f=>.cons (f _ _ r) (Paired.mapP t f)
theorem qK.stay (x:qK P w H h a o) (k:∀b u,(b=a\/H b=some (.own a))->h.get? b=some u->h'.get? b=some u)
  (ho:∀b,H b=some (.own a)->H' b=some (.own a)) (ht:∀b xs,H b=some (.tup xs)->H' b=some (.tup xs)):qK P w H' h' a o:=by
 induction o with
 | lst xs=>obtain ⟨z,its,n,r,e⟩:=x;exact ⟨z,its,n,r,k _ _ (.inl rfl) e⟩
 | tup xs=>obtain ⟨z,its,r,ob,e,c⟩:=x;exact ⟨z,its,r,ob,k _ _ (.inl rfl) e,c⟩
 | dK kvs=>obtain ⟨z,y,vs,r,ob,es,ep,e,c⟩:=x;exact ⟨z,y,vs,r,ob,es,ep,k _ _ (.inl rfl) e,c⟩
 | dT kvs=>
  obtain ⟨z,y,xs,r,ob,es,ep,e,c⟩:=x;exact ⟨z,y,xs,Paired.mapP r fun p q z=>⟨z.1,ht _ _ z.2.1,z.2.2⟩,ob,es,ep,k _ _ (.inl rfl) e,c⟩
 | set S n=>obtain ⟨ob,es,ep,t,e,c⟩:=x;exact ⟨ob,es,ep,t,k _ _ (.inl rfl) e,c⟩
 | ins C dx fs=>
  obtain ⟨d,z,ne,e,mA,⟨od,es,ep,e2,c⟩,r⟩:=x;exact ⟨ho _ d,z,ne,k _ _ (.inl rfl) e,mA,⟨od,es,ep,k _ _ (.inr d) e2,c⟩,r⟩
 | own y=>obtain ⟨ob,e⟩:=x;exact ⟨ob,k _ _ (.inl rfl) e⟩
 | xd fs=>obtain ⟨mA,⟨od,es,ep,e,c⟩,r⟩:=x;exact ⟨mA,⟨od,es,ep,k _ _ (.inl rfl) e,c⟩,r⟩
 | rng lo hi=>obtain ⟨t,u,v,e⟩:=x;exact ⟨t,u,v,k _ _ (.inl rfl) e⟩
 | frz ob u ih=>obtain ⟨e,q⟩:=x;exact ⟨k _ _ (.inl rfl) e,ih q⟩
 | tbl ps=>
  have e:h.get? a=some { cls:=.none,data:=.fields ps }:=x;show h'.get? a=some { cls:=.none,data:=.fields ps };exact k a _ (.inl rfl) e
 | met f y=>
  have e:h.get? a=some (PySem.W.methodObj (.ref f) (.ref y)):=x;show h'.get? a=some (PySem.W.methodObj (.ref f) (.ref y));exact k a _ (.inl rfl) e
 | ext φ=>obtain ⟨p,⟨o,e⟩,st⟩:=x;exact ⟨st _ _ p fun o q=>k _ _ (.inl rfl) q,⟨o,k _ _ (.inl rfl) e⟩,st⟩
theorem HOk.lt (x:HOk P w H h) (e:H a=some o):a < h.objs.size:=(x a o e).lt
theorem HOk.fresh (x:HOk P w H h) (e:h.objs.size<=a):H a=none:=by
 cases q:H a with
 | none=>rfl
 | some u=>exact vd (kR (x.lt q) e) (vA _)
theorem HOk.kept (x:HOk P w H h) (k:∀b u,h.get? b=some u->h'.get? b=some u):HOk P w H h':=fun a o e=>
 (x a o e).stay (fun b u _ q=>k b u q) (fun _ q=>q) fun _ _ q=>q
theorem HOk.laid (x:HOk P w H h) (k:∀b u,h.get? b=some u->h'.get? b=some u) (hp:h.objs.size<=a) (new:qK P w (upd H a o) h' a o):HOk P w (upd H a o) h':=fun b u e=>by
 have hn:=x.fresh hp;by_cases hb:b=a
 ·subst hb;rw [zc] at e;cases e;exact new
 ·rw [zj hb] at e;exact (x b u e).stay (fun c v _ q=>k c v q) (fun c q=>by rw [zj (ze q hn)];exact q) fun c xs q=>by rw [zj (ze q hn)];exact q
end
def Rd (H:Hp) (a:Addr) (u:HO):Prop:=H a=some u\/∃o,H a=some (.frz o u)
theorem Rd.of {H:Hp} {a:Addr} {u:HO} (h:H a=some u):Rd H a u:=.inl h
theorem Rd.ok {P:Program} {w:World} {H:Hp} {h:Heap} {a:Addr} {u:HO} (r:Rd H a u) (x:HOk P w H h):qK P w H h a u:=by
 rcases r with r | ⟨o,r⟩
 ·exact x a u r
 ·obtain ⟨_,q⟩:=x a _ r;exact q
def Mut:Option HO->Prop
 | some (.lst _)=>True
 | some (.dK _)=>True
 | some (.dT _)=>True
 | some (.set _ _)=>True
 | some (.ins _ _ _)=>True
 | some (.ext _)=>True
 | _=>False
section
variable {P:Program} {w:World} {H:Hp} {h h':Heap} {x e:Addr} {o':HO}
theorem HOk.write (ok:HOk P w H h) (mu:Mut (H x)) (he:e=x\/H e=some (.own x)) (k:∀b u,b≠e->h.get? b=some u->h'.get? b=some u) (heo:∃u,h'.get? e=some u)
  (new:qK P w (upd H x o') h' x o'):HOk P w (upd H x o') h':=fun b u q=>by
 have nown:∀c y,H c=some (.own y)->c≠x:=fun c y r z=>by subst z;rw [r] at mu;exact mu
 have ntup:∀c xs,H c=some (.tup xs)->c≠x:=fun c xs r z=>by subst z;rw [r] at mu;exact mu
 by_cases hb:b=x
 ·subst hb;rw [zc] at q;cases q;exact new
 ·rw [zj hb] at q;by_cases hbe:b=e
  ·have q':H b=some (.own x):=by
    rcases he with z | z
    ·exact vd (hbe.trans z) hb
    ·rw [hbe];exact z
   rw [q] at q';cases q';obtain ⟨v,hv⟩:=heo;exact ⟨v,by rw [hbe];exact hv⟩
  ·refine (ok b u q).stay (fun c v hc r=>k c v ?_ r) (fun c r=>by rw [zj (nown c b r)];exact r) fun c xs r=>by rw [zj (ntup c xs r)];exact r
   rcases hc with rfl | hc
   ·exact hbe
   ·rintro rfl;rcases he with z | z
    ·exact nown c b hc z
    ·rw [hc] at z;cases z;exact hb rfl
end
structure Un (fs ex:List Addr) (H H':Hp) (h h':Heap):Prop where
 keep:∀b o,h.get? b=some o->H b=none->b∉fs->b∉ex->h'.get? b=some o
 slot:∀b o,h.get? b=some o->H b=none->b∈fs->b∉ex->∃sl,h'.get? b=some { o with slots:=sl }
 free:∀b o,h.get? b=some o->H b=none->b∉ex->H' b=none
 there:∀b o,h.get? b=some o->b∉ex->∃o',h'.get? b=some o'
 tups:∀b xs,H b=some (.tup xs)->H' b=some (.tup xs)
 frzs:∀b o u,H b=some (.frz o u)->H' b=some (.frz o u)
 tbls:∀b ps,H b=some (.tbl ps)->∃more,H' b=some (.tbl (ps++more))
section
variable {fs fs' ex ex':List Addr} {H H1 H2:Hp} {h h1 h2 h':Heap} {a x e:Addr} {o:HO}
theorem Un.any (u:Un fs ex H H1 h h1) {b:Addr} {ob:Obj} (q:h.get? b=some ob) (n:H b=none) (hx:b∉ex):∃sl,h1.get? b=some { ob with slots:=sl }:=by
 by_cases hb:b∈fs
 ·exact u.slot b ob q n hb hx
 ·exact ⟨ob.slots,u.keep b ob q n hb hx⟩
theorem Un.kept (k:∀b u,h.get? b=some u->h'.get? b=some u):Un fs ex H H h h':=
 ⟨fun b ob q _ _ _=>k b ob q,fun b ob q _ _ _=>⟨ob.slots,k b ob q⟩,fun _ _ _ n _=>n,fun b ob q _=>⟨ob,k b ob q⟩,fun _ _ q=>q,fun _ _ _ q=>q,fun _ ps q=>⟨#[],by rw [q];simp⟩⟩
theorem Un.refl:Un fs ex H H h h:=Un.kept fun _ _ q=>q
theorem Un.laid (k:∀b u,h.get? b=some u->h'.get? b=some u) (hp:h.objs.size<=a) (hn:H a=none):Un fs ex H (upd H a o) h h' where
 keep:=fun b u q _ _ _=>k b u q
 slot:=fun b u q _ _ _=>⟨u.slots,k b u q⟩
 free:=fun b u q n _=>by rw [zj (vm (kR (vf q) hp))];exact n
 there:=fun b u q _=>⟨u,k b u q⟩
 tups:=fun b xs q=>by rw [zj (ze q hn)];exact q
 frzs:=fun b u xs q=>by rw [zj (ze q hn)];exact q
 tbls:=fun b ps q=>⟨#[],by rw [zj (ze q hn),q];simp⟩
theorem Un.write (mu:Mut (H x)) (he:e=x\/H e=some (.own x)) (k:∀b u,b≠e->h.get? b=some u->h'.get? b=some u) (heo:∃u,h'.get? e=some u):Un fs ex H (upd H x o) h h':=by
 have hx:∀b,H b=none->b≠x:=fun b n z=>by subst z;rw [n] at mu;exact mu
 have hb:∀b,H b=none->b≠e:=fun b n z=>by
  subst z;rcases he with r | r
  ·exact hx b n r
  ·rw [n] at r;cases r
 have hm:∀b u,H b=some u->¬Mut (some u)->b≠x:=fun b u q nm z=>by subst z;rw [q] at mu;exact nm mu
 refine ⟨fun b u q n _ _=>k b u (hb b n) q,fun b u q n _ _=>⟨u.slots,k b u (hb b n) q⟩,fun b u q n _=>by rw [zj (hx b n)];exact n,fun b u q _=>?_,
  fun b xs q=>by rw [zj (hm b _ q fun z=>z)];exact q,fun b u xs q=>by rw [zj (hm b _ q fun z=>z)];exact q,fun b ps q=>⟨#[],by rw [zj (hm b _ q fun z=>z),q];simp⟩⟩
 by_cases hbe:b=e
 ·subst hbe;exact heo
 ·exact ⟨u,k b u hbe q⟩
end
noncomputable def trk (h:Heap) (H:Hp):List Addr:=(List.range h.objs.size).filter fun a=>(H a).isSome
noncomputable def hidT (h:Heap) (H:Hp):Heap:=PySem.W.hideAll h (trk h H)
theorem z3H (h:Heap) (H:Hp):(hidT h H).objs.size=h.objs.size:=PySem.W.hideAll_size _ _
theorem z58 {h:Heap} {H:Hp} {b:Addr} {o:Obj} (e:h.get? b=some o) (n:H b=none):(hidT h H).get? b=some o:=
 PySem.W.hideAll_get _ e fun hm=>by
  have q:(H b).isSome=true:=(List.mem_filter.mp hm).2;rw [n] at q;simp at q
theorem z72 {h:Heap} {H:Hp} {b:Addr} {o:Obj} (e:(hidT h H).get? b=some o):h.get? b=some o/\H b=none:=by
 have e':h.get? b=some o:=PySem.W.of_hideAll (trk h H) e;refine ⟨e',?_⟩;cases q:H b with
 | none=>rfl
 | some x=>
  have hm:b∈trk h H:=List.mem_filter.mpr ⟨List.mem_range.mpr (vf e'),by simp [q]⟩;have z:(hidT h H).get? b=none:=PySem.W.hideAll_none (trk h H) hm;rw [z] at e;cases e
end L2
namespace L2
structure Mod (K:kE) (mg:Str->Option Value) (base:Heap):Prop where
 kin:K.In base
 glob:base.Ns mainGlobals mg
 blt:∃mb,base.Ns builtinsNs mb/\∀x:Str,x≠"__name__"->mb x=bootBuiltins x
 nolimit:base.NoLimit
structure Cx where
 prog:Program
 w:World
 K:kE
 mg:Str->Option Value
 base:Heap
 A:Around
 N:List Str
 s₀:Shared
 H₀:Hp
 env:Env
 vY:List Env
 stack:List Env
 ex:List Addr
 fn:Str->Bool
 calm:Bool
 pn:List (Addr × Obj)
 xe:Value->Shared->Prop
noncomputable def frs (l:List Env):List Addr:=l.filterMap (·.frame)
noncomputable abbrev Cx.fs (X:Cx):List Addr:=frs X.vY
def Vis (sc:Scope) (x:Str):Prop:=sc.names.lookup x=some .local\/sc.names.lookup x=some .cell\/sc.names.lookup x=some .free
def Loc (sc:Scope) (x:Str):Prop:=sc.names.lookup x=some .local\/sc.names.lookup x=some .cell
def Look (env:Env) (h:Heap) (m:Str->Option Value) (x:Str) (u:Value):Prop:=
 (env.kindOf x=some .local/\m x=some u)\/((env.kindOf x=some .cell\/env.kindOf x=some .free)/\∃c,env.cells.lookup x=some c/\h.IsCell c (some u))
structure Cx.Ok (X:Cx):Prop where
 mod:Mod X.K X.mg X.base
 kind:X.env.scope.kind=.function
 glob:X.env.globals=mainGlobals
 blt:X.env.builtins=builtinsNs
 above:X.s₀.heap.objs.size<=X.env.locals
 inj:∀x y c,X.env.cells.lookup x=some c->X.env.cells.lookup y=some c->x=y
 has:∀x,(X.env.kindOf x=some .cell\/X.env.kindOf x=some .free)->∃c,X.env.cells.lookup x=some c
 cab:∀x c,X.fn x=true->X.env.cells.lookup x=some c->X.s₀.heap.objs.size<=c
 hd:X.calm=true->X.A.handled=none
 frames:X.A.frames=some X.stack
 stk:X.stack=X.vY\/(X.stack=X.env :: X.vY/\X.env.frame=some X.env.locals)
 exf:∀b∈X.ex,b≠X.env.locals/\∀x c,X.env.cells.lookup x=some c->c≠b
 bs:∀b o,X.base.get? b=some o->X.s₀.heap.get? b=some o/\X.H₀ b=none
 bsz:X.base.objs.size<=X.s₀.heap.objs.size
 noex:∀b o,X.base.get? b=some o->b∉X.ex
 exfs:∀b∈X.ex,b∉X.fs
 funs:X.s₀.heap.FunFrames X.base X.vY
 frf:∀b∈X.fs,X.H₀ b=none
structure Inv (X:Cx) (vX:List (Addr × Obj)) (σ:List (Option V)) (H:Hp) (s:Shared):Prop where
 ok:X.Ok
 os:s.os=X.s₀.os
 bare:AllBare s.gens
 base:Un X.fs X.ex X.H₀ H X.s₀.heap s.heap
 loc:∃m,s.heap.Ns X.env.locals m/\∀(i:Nat) (x:Str) (v:V),X.N[i]?=some x->σ[i]?=some (some v)->Vis X.env.scope x->∃u,RelV v u/\Look X.env s.heap m x u
 cell:∀x c,X.env.cells.lookup x=some c->∃v,s.heap.IsCell c v
 free:H X.env.locals=none
 freeC:∀x c,X.env.cells.lookup x=some c->H c=none
 pin:∀p∈X.pn++vX,s.heap.get? p.1=some p.2/\H p.1=none/\p.1≠X.env.locals/\p.1∉X.fs/\∀v,p.2.data≠.cell v
 hok:HOk X.prog X.w H s.heap
 len:σ.length=X.N.length
section
variable {X:Cx} {vX:List (Addr × Obj)} {σ:List (Option V)} {H H':Hp} {s:Shared} {h':Heap}
theorem Cx.Ok.nofr (ok:X.Ok) {b:Addr} {o:Obj} (e:X.base.get? b=some o):b∉X.fs:=fun hb=>by
 have:=(ok.funs.mem hb).1
 rw [e] at this;cases this
theorem Inv.bs (I:Inv X vX σ H s):∀b o,X.base.get? b=some o->s.heap.get? b=some o/\H b=none:=fun b o e=>
 ⟨I.base.keep b o (I.ok.bs b o e).1 (I.ok.bs b o e).2 (I.ok.nofr e) (I.ok.noex b o e),I.base.free b o (I.ok.bs b o e).1 (I.ok.bs b o e).2 (I.ok.noex b o e)⟩
theorem Inv.bk (I:Inv X vX σ H s):∀b o,X.base.get? b=some o->s.heap.get? b=some o:=fun b o e=>(I.bs b o e).1
theorem Inv.mod (I:Inv X vX σ H s):Mod X.K X.mg X.base:=I.ok.mod
theorem Inv.kIn (I:Inv X vX σ H s):X.K.In s.heap:=I.ok.mod.kin.keeps I.bk
theorem Inv.lt (I:Inv X vX σ H s):X.env.locals < s.heap.objs.size:=let ⟨_,hn,_⟩:=I.loc;hn.lt
theorem Inv.sz (I:Inv X vX σ H s):X.s₀.heap.objs.size<=s.heap.objs.size:=kD I.ok.above (Nat.le_of_lt I.lt)
theorem Inv.nofs (I:Inv X vX σ H s) {a:Addr} (h:s.heap.objs.size<=a):a∉X.fs:=fun hb=>by
 obtain ⟨_,o,ho,_⟩:=I.ok.funs.mem hb;exact vd (kR (vf ho) (kD I.sz h)) (vA _)
theorem Inv.cne (I:Inv X vX σ H s):∀x c,X.env.cells.lookup x=some c->c≠X.env.locals:=fun x c e z=>by
 obtain ⟨v,o,ho,hd⟩:=I.cell x c e;obtain ⟨m,⟨o',es,ep,ho',hd',_⟩,_⟩:=I.loc;rw [z,ho'] at ho;cases ho;rw [hd'] at hd;cases hd
theorem Inv.funs (I:Inv X vX σ H s):s.heap.FunFrames X.base X.vY:=by
 have all:∀(l:List Env),(∀b∈frs l,b∈X.fs)->X.s₀.heap.FunFrames X.base l->s.heap.FunFrames X.base l:=by
  intro l;induction l with
  | nil=>intro _ _;trivial
  | cons env r ih=>
   intro hs hl;obtain ⟨hk,⟨L,o,hf,hn,ho,hd⟩,hr⟩:=hl;have hL:L∈X.fs:=hs L (by unfold frs;rw [List.filterMap_cons,hf];exact kY);obtain ⟨sl,e⟩:=I.base.slot L o ho (I.ok.frf L hL) hL fun z=>I.ok.exfs L z hL
   exact ⟨hk,⟨L,_,hf,hn,e,hd⟩,ih (fun b hb=>hs b (by unfold frs;rw [List.filterMap_cons,hf];exact kZ _ hb)) hr⟩
 exact all X.vY (fun _ hb=>hb) I.ok.funs
theorem Inv.stack (I:Inv X vX σ H s):s.heap.FunFrames X.base X.stack:=by
 rcases I.ok.stk with e | ⟨e,hf⟩
 ·rw [e];exact I.funs
 ·rw [e];obtain ⟨m,hn,_⟩:=I.loc;refine .cons (by rw [I.ok.kind];decide) hf hn ?_ I.funs;exact Heap.get?_none_of_le (kD I.ok.bsz I.ok.above)
theorem Inv.stkSub (I:Inv X vX σ H s):∀b∈frs X.stack,b∈X.env.locals :: X.fs:=fun b hb=>by
 rcases I.ok.stk with e | ⟨e,hf⟩
 ·rw [e] at hb;exact kZ _ hb
 ·rw [e] at hb;unfold frs at hb;rw [List.filterMap_cons,hf] at hb;exact hb
theorem Inv.stkFree (I:Inv X vX σ H s):∀b∈frs X.stack,H b=none:=fun b hb=>by
 rcases kJ.mp (I.stkSub b hb) with e | hb
 ·rw [e];exact I.free
 ·obtain ⟨_,o,ho,_⟩:=I.ok.funs.mem hb;exact I.base.free b o ho (I.ok.frf b hb) fun z=>I.ok.exfs b z hb
theorem Inv.step {g':Array GenState} {t':Nat} {d':Drawn} {ch:List Addr} (I:Inv X vX σ H s)
  (hch:∀b∈ch,(b∈X.ex\/X.s₀.heap.objs.size<=b)/\b≠X.env.locals/\(∀x c,X.env.cells.lookup x=some c->c≠b)/\∀p∈X.pn++vX,p.1≠b)
  (keep:∀b o,b≠X.env.locals->b∉X.fs->b∉ch->s.heap.get? b=some o->H b=none->h'.get? b=some o)
  (slot:∀b o,b≠X.env.locals->b∈X.fs->b∉ch->s.heap.get? b=some o->H b=none->∃sl,h'.get? b=some { o with slots:=sl }) (free:∀b o,b∉ch->s.heap.get? b=some o->H b=none->H' b=none)
  (there:∀b o,b∉ch->s.heap.get? b=some o->∃o',h'.get? b=some o')
  (tups:∀b xs,H b=some (.tup xs)->H' b=some (.tup xs)) (frzs:∀b o u,H b=some (.frz o u)->H' b=some (.frz o u)) (tbls:∀b ps,H b=some (.tbl ps)->∃more,H' b=some (.tbl (ps++more)))
  (ns:∀m,s.heap.Ns X.env.locals m->h'.Ns X.env.locals m) (hok:HOk X.prog X.w H' h') (hg:AllBare g'):
  Inv X vX σ H' { s with heap:=h',gens:=g',drawn:=d',toks:=t' }:=by
 have neL:∀b o,X.s₀.heap.get? b=some o->b≠X.env.locals:=fun b o e=>vm (kR (vf e) I.ok.above)
 have neC:∀b o,X.s₀.heap.get? b=some o->b∉X.ex->b∉ch:=fun b o e hx hb=>by
  rcases (hch b hb).1 with z | z
  ·exact hx z
  ·exact vd (kR (vf e) z) (vA _)
 have cellK:∀x c,X.env.cells.lookup x=some c->∀v,s.heap.IsCell c v->h'.IsCell c v:=fun x c e v ⟨o,ho,hd⟩=>by
  have nch:c∉ch:=fun z=>(hch c z).2.2.1 x c e rfl
  by_cases hc:c∈X.fs
  ·obtain ⟨sl,q⟩:=slot c o (I.cne x c e) hc nch ho (I.freeC x c e);exact ⟨_,q,hd⟩
  ·exact ⟨o,keep c o (I.cne x c e) hc nch ho (I.freeC x c e),hd⟩
 refine ⟨I.ok,I.os,hg,⟨fun b o e n hb hx=>?_,fun b o e n hb hx=>?_,fun b o e n hx=>?_,fun b o e hx=>?_,fun b xs e=>tups b xs (I.base.tups b xs e),fun b o xs e=>frzs b o xs (I.base.frzs b o xs e),fun b ps e=>?_⟩,?_,fun x c e=>?_,?_,fun x c e=>?_,fun p hp=>?_,hok,I.len⟩
 ·exact keep b o (neL b o e) hb (neC b o e hx) (I.base.keep b o e n hb hx) (I.base.free b o e n hx)
 ·obtain ⟨sl,e1⟩:=I.base.slot b o e n hb hx;obtain ⟨sl',e2⟩:=slot b _ (neL b o e) hb (neC b o e hx) e1 (I.base.free b o e n hx);exact ⟨sl',e2⟩
 ·obtain ⟨o',e1⟩:=I.base.there b o e hx;exact free b o' (neC b o e hx) e1 (I.base.free b o e n hx)
 ·obtain ⟨o',e1⟩:=I.base.there b o e hx;exact there b o' (neC b o e hx) e1
 ·obtain ⟨m1,e1⟩:=I.base.tbls b ps e;obtain ⟨m2,e2⟩:=tbls b _ e1;exact ⟨m1++m2,by rw [e2,Array.append_assoc]⟩
 ·obtain ⟨m,hn,hl⟩:=I.loc;refine ⟨m,ns m hn,fun i x v e1 e2 e3=>?_⟩;obtain ⟨u,r,l⟩:=hl i x v e1 e2 e3;refine ⟨u,r,?_⟩;rcases l with l | ⟨k,c,e,z⟩
  ·exact .inl l
  ·exact .inr ⟨k,c,e,cellK x c e _ z⟩
 ·obtain ⟨v,z⟩:=I.cell x c e;exact ⟨v,cellK x c e v z⟩
 ·obtain ⟨m,⟨o,_,_,ho,_⟩,_⟩:=I.loc;exact free _ o (fun z=>(hch _ z).2.1 rfl) ho I.free
 ·obtain ⟨v,o,ho,hd⟩:=I.cell x c e;exact free c o (fun z=>(hch c z).2.2.1 x c e rfl) ho (I.freeC x c e)
 ·obtain ⟨e,n,ne,nf,d⟩:=I.pin p hp;have nch:p.1∉ch:=fun z=>(hch p.1 z).2.2.2 p hp rfl
  exact ⟨keep p.1 p.2 ne nf nch e n,free p.1 p.2 nch e n,ne,nf,d⟩
theorem Inv.un {t':Nat} (I:Inv X vX σ H s) (u:Un X.fs [] H H' s.heap h') (hok:HOk X.prog X.w H' h'):Inv X vX σ H' { s with heap:=h',toks:=t' }:=by
 obtain ⟨m,⟨o,es,ep,ho,r⟩,_⟩:=id I.loc;obtain ⟨sl,hL⟩:=u.any ho I.free (by simp);exact I.step (g':=s.gens) (d':=s.drawn) (ch:=[]) (fun _ z=>nomatch z) (fun b o _ hb _ e n=>u.keep b o e n hb (by simp)) (fun b o _ hb _ e n=>u.slot b o e n hb (by simp)) (fun b o _ e n=>u.free b o e n (by simp)) (fun b o _ e=>u.there b o e (by simp)) u.tups u.frzs u.tbls (fun m' hm=>by
  obtain ⟨o',es',ep',ho',r'⟩:=hm;rw [ho] at ho';cases ho';exact ⟨_,es',ep',hL,r'⟩) hok I.bare
theorem Inv.call {g':Array GenState} {t':Nat} {d':Drawn} {ch:List Addr} (I:Inv X vX σ H s) (u:Un (frs X.stack) ch H H' s.heap h') (hok:HOk X.prog X.w H' h') (hg:AllBare g')
  (hch:∀b∈ch,(b∈X.ex\/X.s₀.heap.objs.size<=b)/\b≠X.env.locals/\(∀x c,X.env.cells.lookup x=some c->c≠b)/\∀p∈X.pn++vX,p.1≠b):
  Inv X vX σ H' { s with heap:=h',gens:=g',drawn:=d',toks:=t' }:=by
 obtain ⟨m,⟨o,es,ep,ho,r⟩,_⟩:=id I.loc;obtain ⟨sl,hL⟩:=u.any ho I.free fun z=>(hch _ z).2.1 rfl
 exact I.step (ch:=ch) hch (fun b o hL hb hc e n=>u.keep b o e n (fun z=>(kJ.mp (I.stkSub b z)).elim hL hb) hc) (fun b o _ _ hc e n=>u.any e n hc) (fun b o hc e n=>u.free b o e n hc) (fun b o hc e=>u.there b o e hc) u.tups u.frzs u.tbls (fun m' hm=>by
  obtain ⟨o',es',ep',ho',r'⟩:=hm;rw [ho] at ho';cases ho';exact ⟨_,es',ep',hL,r'⟩) hok hg
theorem Inv.turned {t':Nat} {it:Addr} (I:Inv X vX σ H s) (k:∀b o,b≠it->s.heap.get? b=some o->h'.get? b=some o) (hn:H it=none) (hL:it≠X.env.locals)
  (h1:it∈X.ex\/X.s₀.heap.objs.size<=it) (h2:∀x c,X.env.cells.lookup x=some c->c≠it) (h3:∀p∈X.pn++vX,p.1≠it):Inv X vX σ H { s with heap:=h',toks:=t' }:=by
 have nit:∀b u,H b=some u->b≠it:=fun b u e z=>by rw [z,hn] at e;cases e
 refine I.step (g':=s.gens) (d':=s.drawn) (ch:=[it]) (fun b hb=>?_) (fun b o _ _ hc e _=>k b o (fun z=>hc (by simp [z])) e) (fun b o _ _ hc e _=>⟨o.slots,k b o (fun z=>hc (by simp [z])) e⟩) (fun _ _ _ _ n=>n)
  (fun b o hc e=>⟨o,k b o (fun z=>hc (by simp [z])) e⟩) (fun _ _ e=>e) (fun _ _ _ e=>e) (fun b ps e=>⟨#[],by rw [e];simp⟩) (fun m hm=>?_) (fun b u e=>?_) I.bare
 ·have e:b=it:=by simpa using hb
  subst e;exact ⟨h1,hL,h2,h3⟩
 ·obtain ⟨o,es,ep,ho,r⟩:=hm;exact ⟨o,es,ep,k _ o (Ne.symm hL) ho,r⟩
 ·refine (I.hok b u e).stay (fun c v hc q=>k c v ?_ q) (fun _ q=>q) fun _ _ q=>q
  rcases hc with z | z
  ·rw [z];exact nit b u e
  ·exact nit c _ z
theorem Inv.tok (I:Inv X vX σ H s) (t:Nat):Inv X vX σ H { s with toks:=t }:=I.un (h':=s.heap) (t':=t) Un.refl I.hok
theorem Inv.kept {t':Nat} (I:Inv X vX σ H s) (k:∀b u,s.heap.get? b=some u->h'.get? b=some u):Inv X vX σ H { s with heap:=h',toks:=t' }:=I.un (Un.kept k) (I.hok.kept k)
theorem Inv.laid {a:Addr} {o:HO} {t':Nat} (I:Inv X vX σ H s) (k:∀b u,s.heap.get? b=some u->h'.get? b=some u) (hp:s.heap.objs.size<=a) (new:qK X.prog X.w (upd H a o) h' a o):
  Inv X vX σ (upd H a o) { s with heap:=h',toks:=t' }:=I.un (Un.laid k hp (I.hok.fresh hp)) (I.hok.laid k hp new)
theorem Inv.write {x e:Addr} {o:HO} {t':Nat} (I:Inv X vX σ H s) (mu:Mut (H x)) (he:e=x\/H e=some (.own x)) (k:∀b u,b≠e->s.heap.get? b=some u->h'.get? b=some u) (heo:∃u,h'.get? e=some u)
  (new:qK X.prog X.w (upd H x o) h' x o):Inv X vX σ (upd H x o) { s with heap:=h',toks:=t' }:=I.un (Un.write mu he k heo) (I.hok.write mu he k heo new)
theorem Inv.pins_of {pins':List (Addr × Obj)} (I:Inv X vX σ H s) (h:∀p∈pins',s.heap.get? p.1=some p.2/\H p.1=none/\p.1≠X.env.locals/\p.1∉X.fs/\∀v,p.2.data≠.cell v):Inv X pins' σ H s:=
 ⟨I.ok,I.os,I.bare,I.base,I.loc,I.cell,I.free,I.freeC,fun p hp=>(ya.mp hp).elim (fun z=>I.pin p (kW _ z)) (h p),I.hok,I.len⟩
theorem z1P {N:List Str} (hN:N.Nodup) {i j:Nat} {x:Str} (a:N[i]?=some x) (b:N[j]?=some x):i=j:=by
 obtain ⟨h1,e1⟩:=kj.mp a;obtain ⟨h2,e2⟩:=kj.mp b;exact (List.getElem_inj hN).mp (e1.trans e2.symm)
theorem z0f {M:Model} {A:Around} {E:Value->Shared->Prop} {i:Nat} {x:Str} {v:V} {u:Value} {Q:Unit->Shared->Prop} (I:Inv X vX σ H s) (hN:X.N.Nodup) (hi:X.N[i]?=some x) (hx:Loc X.env.scope x) (r:RelV v u)
  (h:∀s',Inv X vX (σ.set i (some v)) H s'->(∃a,Heap.SameBut a s.heap s'.heap/\(a=X.env.locals\/X.env.cells.lookup x=some a))->Q () s') (hf:X.fn x=true\/X.env.scope.names.lookup x=some .local:=by first | exact .inl rfl | exact .inr rfl | assumption):wpAny M A (storeName X.env x u) Q E s:=by
 obtain ⟨m,hn,hl⟩:=id I.loc;have hcls:(X.env.scope.kind == .class||(X.env.scope.kind == .module&&X.env.locals != X.env.globals))=false:=by rw [I.ok.kind];rfl
 have hiσ:i < σ.length:=by rw [I.len];exact (kj.mp hi).1
 have cne:=I.cne;have tracked:∀{a:Addr} {h':Heap},(∃o,s.heap.get? a=some o/\H a=none)->Heap.SameBut a s.heap h'->HOk X.prog X.w H h':=fun {a h'} ha hs b ob e=>by
  obtain ⟨_,_,hfree⟩:=ha;refine (I.hok b ob e).stay (fun c w' hc q=>(hs.2 c ?_).trans q) (fun _ q=>q) fun _ _ q=>q
  rintro rfl;rcases hc with rfl | hc
  ·rw [hfree] at e;cases e
  ·rw [hfree] at hc;cases hc
 rcases hx with hk | hk
 ·refine wpAny_storeName_local hk hn (fun h' hn' hs=>?_) hcls;obtain ⟨oL,_,_,hoL,_⟩:=id hn;refine h _ ⟨I.ok,I.os,I.bare,⟨fun b o e n hb hx=>?_,fun b o e n hb hx=>?_,I.base.free,fun b o e hx=>?_,I.base.tups,I.base.frzs,I.base.tbls⟩,⟨_,hn',fun j y v' e1 e2 e3=>?_⟩,fun y c e=>?_,I.free,I.freeC,fun p hp=>?_,tracked ⟨oL,hoL,I.free⟩ hs,by simpa using I.len⟩ ⟨_,hs,.inl rfl⟩
  ·exact (hs.2 b (vm (kR (vf e) I.ok.above))).trans (I.base.keep b o e n hb hx)
  ·obtain ⟨sl,e1⟩:=I.base.slot b o e n hb hx;exact ⟨sl,(hs.2 b (vm (kR (vf e) I.ok.above))).trans e1⟩
  ·obtain ⟨o',e1⟩:=I.base.there b o e hx;exact ⟨o',(hs.2 b (vm (kR (vf e) I.ok.above))).trans e1⟩
  ·by_cases hj:j=i
   ·subst hj;rw [hi] at e1;cases e1;rw [vw hiσ] at e2;cases e2;exact ⟨u,r,.inl ⟨hk,by simp⟩⟩
   ·rw [vt (Ne.symm hj)] at e2;obtain ⟨u',r',q⟩:=hl j y v' e1 e2 e3;refine ⟨u',r',?_⟩;rcases q with ⟨k,e⟩ | ⟨k,c,e,z⟩
    ·refine .inl ⟨k,?_⟩;have:y≠x:=fun e=>hj (z1P hN e1 (e▸hi))
     simp [this,e]
    ·exact .inr ⟨k,c,e,z.sameBut hs (cne y c e)⟩
  ·obtain ⟨w',z⟩:=I.cell y c e;exact ⟨w',z.sameBut hs (cne y c e)⟩
  ·obtain ⟨e,n,ne,nf,d⟩:=I.pin p hp;exact ⟨(hs.2 p.1 ne).trans e,n,ne,nf,d⟩
 ·have hfn:X.fn x=true:=by
   rcases hf with z | z
   ·exact z
   ·rw [z] at hk;cases hk
  obtain ⟨c,hc⟩:=I.ok.has x (.inl hk);obtain ⟨w',z⟩:=I.cell x c hc;refine wpAny_storeName_cell I.ok.kind hk hc z (fun h' hc' hs=>?_);obtain ⟨oc,hoc,hocd⟩:=id z;refine h { s with heap:=h' } ⟨I.ok,I.os,I.bare,⟨fun b o e n hb hx=>?_,fun b o e n hb hx=>?_,I.base.free,fun b o e hx=>?_,I.base.tups,I.base.frzs,I.base.tbls⟩,⟨m,hn.sameBut hs (Ne.symm (cne x c hc)),fun j y v' e1 e2 e3=>?_⟩,fun y c' e=>?_,I.free,I.freeC,fun p hp=>?_,tracked ⟨oc,hoc,I.freeC x c hc⟩ hs,by simpa using I.len⟩ ⟨c,hs,.inr hc⟩
  ·exact (hs.2 b (vm (kR (vf e) (I.ok.cab x c hfn hc)))).trans (I.base.keep b o e n hb hx)
  ·obtain ⟨sl,e1⟩:=I.base.slot b o e n hb hx;exact ⟨sl,(hs.2 b (vm (kR (vf e) (I.ok.cab x c hfn hc)))).trans e1⟩
  ·obtain ⟨o',e1⟩:=I.base.there b o e hx;exact ⟨o',(hs.2 b (vm (kR (vf e) (I.ok.cab x c hfn hc)))).trans e1⟩
  ·by_cases hj:j=i
   ·subst hj;rw [hi] at e1;cases e1;rw [vw hiσ] at e2;cases e2;exact ⟨u,r,.inr ⟨.inl hk,c,hc,hc'⟩⟩
   ·rw [vt (Ne.symm hj)] at e2;obtain ⟨u',r',q⟩:=hl j y v' e1 e2 e3;refine ⟨u',r',?_⟩;rcases q with q | ⟨k,c',e,z'⟩
    ·exact .inl q
    ·refine .inr ⟨k,c',e,z'.sameBut hs ?_⟩;rintro rfl;exact hj (z1P hN e1 (I.ok.inj _ _ _ e hc▸hi))
  ·by_cases hcc:c'=c
   ·subst hcc;exact ⟨_,hc'⟩
   ·obtain ⟨w2,z2⟩:=I.cell y c' e;exact ⟨w2,z2.sameBut hs hcc⟩
  ·obtain ⟨e,n,ne,nf,d⟩:=I.pin p hp;refine ⟨(hs.2 p.1 ?_).trans e,n,ne,nf,d⟩;intro q;rw [q,hoc] at e;have q':oc=p.2:=kH e;exact d w' (by rw [<-q'];exact hocd)
theorem ZT {M:Model} {A:Around} {E:Value->Shared->Prop} {i:Nat} {x:Str} {v:V} {u:Value} {Q:Unit->Shared->Prop} (I:Inv X vX σ H s) (hN:X.N.Nodup) (hi:X.N[i]?=some x) (hx:Loc X.env.scope x) (r:RelV v u)
  (h:∀s',Inv X vX (σ.set i (some v)) H s'->Q () s') (hf:X.fn x=true\/X.env.scope.names.lookup x=some .local:=by first | exact .inl rfl | exact .inr rfl | assumption):wpAny M A (storeName X.env x u) Q E s:=
 z0f I hN hi hx r (fun s' I' _=>h s' I') hf
theorem Inv.call' {s':Shared} {ch:List Addr} (I:Inv X vX σ H s) (ho:s'.os=s.os) (u:Un (frs X.stack) ch H H' s.heap s'.heap) (hok:HOk X.prog X.w H' s'.heap) (hg:AllBare s'.gens)
  (hch:∀b∈ch,(b∈X.ex\/X.s₀.heap.objs.size<=b)/\b≠X.env.locals/\(∀x c,X.env.cells.lookup x=some c->c≠b)/\∀p∈X.pn++vX,p.1≠b):Inv X vX σ H' s':=by
 obtain ⟨h',g',d',t',o'⟩:=s';have e:o'=s.os:=ho;subst e;exact I.call (g':=g') (t':=t') (d':=d') u hok hg hch
end
abbrev XK:=Value->Option Addr->Hp->Prop
abbrev St:=List (Option V)
abbrev VK:=V->Hp->Prop
abbrev TE:=St->Hp->VK->Prop
abbrev TT:=St->Hp->(Bool->Hp->Prop)->Prop
abbrev TA:=St->Hp->(List V->Hp->Prop)->Prop
structure Ends where
 nx:St->Hp->Prop
 rt:VK
 bk:St->Hp->Prop:=fun _ _=>False
 ct:St->Hp->Prop:=fun _ _=>False
abbrev TS:=Ends->St->Hp->Prop
def EP (X:Cx) (vX:List (Addr × Obj)) (σ:St) (Q:VK) (u:Value) (s':Shared):Prop:=∃v H',Inv X vX σ H' s'/\RelV v u/\Q v H'
def TP (X:Cx) (vX:List (Addr × Obj)) (σ:St) (Q:Bool->Hp->Prop) (b:Bool) (s':Shared):Prop:=∃H',Inv X vX σ H' s'/\Q b H'
def AP (X:Cx) (vX:List (Addr × Obj)) (σ:St) (Q:List V->Hp->Prop) (us:List Value) (s':Shared):Prop:=∃vs H',Inv X vX σ H' s'/\Vals vs us/\Q vs H'
def SP (X:Cx) (vX:List (Addr × Obj)) (D:Ends) (f:Flow) (s':Shared):Prop:=
 match f with
 | .next=>∃σ' H',Inv X vX σ' H' s'/\D.nx σ' H'
 | .brk=>∃σ' H',Inv X vX σ' H' s'/\D.bk σ' H'
 | .cont=>∃σ' H',Inv X vX σ' H' s'/\D.ct σ' H'
 | .ret u=>∃v σ' H',Inv X vX σ' H' s'/\RelV v u/\D.rt v H'
def PE (X:Cx) (e:Expr) (t:TE):Prop:=
 ∀(vX:List (Addr × Obj)) (s:Shared) (σ:St) (H:Hp) (Q:VK),Inv X vX σ H s->t σ H Q->wpAny (model X.prog X.w) X.A (eval e X.env) (EP X vX σ Q) X.xe s
def PT (X:Cx) (e:Expr) (t:TT):Prop:=
 ∀(vX:List (Addr × Obj)) (s:Shared) (σ:St) (H:Hp) (Q:Bool->Hp->Prop),Inv X vX σ H s->t σ H Q->wpAny (model X.prog X.w) X.A (isTrue e X.env (eval e X.env)) (TP X vX σ Q) X.xe s
def PW (X:Cx) (e:Expr) (t:TT):Prop:=
 ∀(whole:Sem Value) (vX:List (Addr × Obj)) (s:Shared) (σ:St) (H:Hp) (Q:Bool->Hp->Prop),Inv X vX σ H s->t σ H Q->wpAny (model X.prog X.w) X.A (isTrue e X.env whole) (TP X vX σ Q) X.xe s
theorem PW.pt {X:Cx} {e:Expr} {t:TT} (h:PW X e t):PT X e t:=h _
def PA (X:Cx) (es:List Expr) (t:TA):Prop:=
 ∀(pos:Pos) (vX:List (Addr × Obj)) (s:Shared) (σ:St) (H:Hp) (Q:List V->Hp->Prop),Inv X vX σ H s->t σ H Q->wpAny (model X.prog X.w) X.A (spliced (backTo pos (starEach es X.env))) (AP X vX σ Q) X.xe s
def PS (X:Cx) (st:Stmt) (t:TS):Prop:=
 ∀(vX:List (Addr × Obj)) (s:Shared) (σ:St) (H:Hp) (D:Ends),Inv X vX σ H s->t D σ H->wpAny (model X.prog X.w) X.A (exec st X.env) (SP X vX D) X.xe s
def PSs (X:Cx) (st:List Stmt) (t:TS):Prop:=
 ∀(vX:List (Addr × Obj)) (s:Shared) (σ:St) (H:Hp) (D:Ends),Inv X vX σ H s->t D σ H->wpAny (model X.prog X.w) X.A (execs st X.env) (SP X vX D) X.xe s
theorem thn {α:Type} {t:Sem α} {Q Q':α->Shared->Prop} {M:Model} {A:Around} {E:Value->Shared->Prop} {s:Shared} (h:wpAny M A t Q E s) (hQ:∀a s,Q a s->Q' a s):wpAny M A t Q' E s:=vJ h hQ fun _ _ x=>x
end L2
namespace L2
section
variable {X:Cx}
def tVar (i:Nat):TE:=fun σ H Q=>(σ[i]?).join.elim False fun v=>Q v H
theorem z4u {i:Nat} {σ:St} {H:Hp} {Q:VK} {v:V} (e:σ[i]?=some (some v)) (h:Q v H):tVar i σ H Q:=by
 unfold tVar;rw [e];exact h
theorem z9M {i:Nat} {σ:St} {H:Hp} {Q:VK} (h:tVar i σ H Q):∃v,σ[i]?=some (some v)/\Q v H:=by
 unfold tVar at h;cases e:σ[i]? with
 | none=>rw [e] at h;exact h.elim
 | some o=>
  rw [e] at h;cases o with
  | none=>exact h.elim
  | some v=>exact ⟨v,rfl,h⟩
abbrev tC (v:V):TE:=fun _ H Q=>Q v H
theorem z6c {i:Nat} {x:Str} {pos:Pos} (hN:X.N[i]?=some x) (hv:Vis X.env.scope x) (hd:autoParam ((x == ("__debug__":Str))=false) aR._auto_2) (hcd:autoParam ((x == ("__classdict__":Str))=false) aR._auto_2):PE X (.Name x pos) (tVar i):=by
 intro vX s σ H Q I h;obtain ⟨v,e,h⟩:=z9M h;obtain ⟨m,hn,hl⟩:=I.loc;obtain ⟨u,r,l⟩:=hl i x v hN e hv;have fin:EP X vX σ Q u s:=⟨v,H,I,r,h⟩
 rcases l with ⟨hk,hm⟩ | ⟨hk,c,hc,hcell⟩
 ·exact wpAny_Name (wpAny_loadName_local I.ok.kind hk hn hm fin) hd
 ·rcases hk with hk | hk
  ·exact wpAny_Name (wpAny_loadName_cell I.ok.kind hk hc hcell fin) hd
  ·exact wpAny_Name (wpAny_loadName_free I.ok.kind hk hc hcell fin hcd) hd
def z29 (i:Nat):TE:=fun σ H Q=>∃v,σ[i]?=some (some v)/\Q v H
theorem PE.x {i:Nat} {e:Expr} (h:PE X e (tVar i)):PE X e (z29 i):=fun vX s σ H Q I q=>h vX s σ H Q I (by obtain ⟨v,a,b⟩:=q;exact z4u a b)
theorem zl {i j pos}:PE X (.Constant (.int i) j pos) (tC (.int i)):=fun _ _ _ H _ I h=>wpAny_Constant_int ⟨.int i,H,I.tok _,⟨_,rfl⟩,h⟩
theorem QT {b j pos}:PE X (.Constant (.bool b) j pos) (tC (.bl b)):=fun _ _ _ H _ I h=>Constant_bool ⟨.bl b,H,I,rfl,h⟩
theorem qk {j pos}:PE X (.Constant .none j pos) (tC .non):=fun _ _ _ H _ I h=>Constant_none ⟨.non,H,I,rfl,h⟩
theorem zq {x j pos}:PE X (.Constant (.str x) j pos) (tC (.str x)):=fun _ _ _ H _ I h=>Calls.Constant_str ⟨.str x,H,I.tok _,⟨_,rfl⟩,h⟩
def Gl (X:Cx) (x:Str):Prop:=X.env.kindOf x=some .globalImplicit
theorem ZM {E:Value->Shared->Prop} {vX:List (Addr × Obj)} {s:Shared} {σ:St} {H:Hp} {x:Str} {u:Value} {pos:Pos} {Q:Value->Shared->Prop} (I:Inv X vX σ H s) (hg:Gl X x) (hm:X.mg x=some u) (h:Q u s)
  (hd:autoParam ((x == ("__debug__":Str))=false) aR._auto_2):wpAny (model X.prog X.w) X.A (eval (.Name x pos) X.env) Q E s:=
 Calls.Name_function_global I.ok.kind hg (Calls.loadGlobal_global (by rw [I.ok.glob];exact I.mod.glob.keeps I.bk) hm h) hd
theorem J5 {E:Value->Shared->Prop} {vX:List (Addr × Obj)} {s:Shared} {σ:St} {H:Hp} {x:Str} {u:Value} {pos:Pos} {Q:Value->Shared->Prop} (I:Inv X vX σ H s) (hg:Gl X x) (hm:X.mg x=none) (hv:bootBuiltins x=some u) (h:Q u s)
  (hn:autoParam (x≠"__name__") aR._auto_2) (hd:autoParam ((x == ("__debug__":Str))=false) aR._auto_2):wpAny (model X.prog X.w) X.A (eval (.Name x pos) X.env) Q E s:=by
 obtain ⟨mb,h1,h2⟩:=I.mod.blt;exact Calls.Name_function_global I.ok.kind hg (Calls.loadGlobal_builtin (by rw [I.ok.glob];exact I.mod.glob.keeps I.bk) hm (by rw [I.ok.blt];exact h1.keeps I.bk) ((h2 x hn).trans hv) h) hd
theorem qo {x:Str} {v:V} {u:Value} {pos:Pos} (hg:Gl X x) (hm:X.mg x=some u) (r:RelV v u) (hd:autoParam ((x == ("__debug__":Str))=false) aR._auto_2):PE X (.Name x pos) (tC v):=
 fun _ _ _ H _ I h=>ZM I hg hm ⟨v,H,I,r,h⟩ hd
theorem z6W {x:Str} {v:V} {u:Value} {pos:Pos} (hg:Gl X x) (hm:X.mg x=none) (hv:bootBuiltins x=some u) (r:RelV v u) (hn:autoParam (x≠"__name__") aR._auto_2) (hd:autoParam ((x == ("__debug__":Str))=false) aR._auto_2):PE X (.Name x pos) (tC v):=
 fun _ _ _ H _ I h=>J5 I hg hm hv ⟨v,H,I,r,h⟩ hn hd
variable {a b:Expr} {ta tb:TE} {pos:Pos}
def PC (X:Cx) (op:CmpOp) (a b:Expr) (t:TE):Prop:=
 ∀(vX:List (Addr × Obj)) (s:Shared) (σ:St) (H:Hp) (Q:VK),Inv X vX σ H s->t σ H Q->
  wpAny (model X.prog X.w) X.A (eval a X.env) (fun v s₁=>wpAny (model X.prog X.w) X.A (eval b X.env) (fun u s₂=>wpAny (model X.prog X.w) X.A (compareOp op v u) (EP X vX σ Q) X.xe s₂) X.xe s₁) X.xe s
def tB (t:TE):TT:=fun σ H Q=>t σ H fun x H1=>∃c,x=.bl c/\Q c H1
theorem z6e {op:CmpOp} {t:TE} (h:PC X op a b t) (h1:behindInMarks op b=false:=by first | exact nobehind _ (by decide) (by decide) | rfl):PE X (.Compare a [op] [b] pos) t:=fun vX s σ H Q I hw=>wpAny_Compare1 (h vX s σ H Q I hw) h1
theorem z1H {op:CmpOp} {t:TE} (h:PC X op a b t) (h1:behindInMarks op b=false:=by first | exact nobehind _ (by decide) (by decide) | rfl):PT X (.Compare a [op] [b] pos) (tB t):=by
 intro vX s σ H Q I hw;refine wpAny_isTrue_Compare1 (thn (h vX s σ H _ I hw) fun v s1 h1=>thn h1 fun u s2 h2=>thn h2 fun c s3 ⟨x,H1,I1,r1,q1⟩=>?_) h1;obtain ⟨d,rfl,q⟩:=q1;cases r1;exact vB ⟨H1,I1,q⟩
theorem j8 {e:Expr} {t:TE} (h:PE X e t) (he:∀whole,isTrue e X.env whole=(do let v <-whole;standAt e.pos;holding [v] (truthy v)):=by intro _;rfl):PT X e (tB t):=by
 intro vX s σ H Q I hw;refine isTrue_plain (thn (h vX s σ H _ I hw) fun v s1 ⟨x,H1,I1,r1,q1⟩=>?_) (he _);obtain ⟨d,rfl,q⟩:=q1;cases r1;exact vB ⟨H1,I1,q⟩
variable {tA tB':TT} {rest:List Expr}
def tAnd (t u:TT):TT:=fun σ H Q=>t σ H fun c H1=>if c=true then u σ H1 Q else Q false H1
def tOr (t u:TT):TT:=fun σ H Q=>t σ H fun c H1=>if c=true then Q true H1 else u σ H1 Q
def tNot (t:TT):TT:=fun σ H Q=>t σ H fun c H1=>Q (!c) H1
theorem ZK (ha:PT X a tA):PW X (.BoolOp .And [a] pos) tA:=by
 intro wh vX s σ H Q I h;refine isTrue_and (thn (ha vX s σ H Q I h) fun c s1 e=>?_);cases c with
 | true=>exact isTrue_and_nil e
 | false=>exact e
theorem Z5 (ha:PT X a tA):PW X (.BoolOp .Or [a] pos) tA:=by
 intro wh vX s σ H Q I h;refine isTrue_or (thn (ha vX s σ H Q I h) fun c s1 e=>?_);cases c with
 | false=>exact isTrue_or_nil e
 | true=>exact e
theorem QP (ha:PT X a tA) (hb:PW X (.BoolOp .And (b :: rest) pos) tB'):PW X (.BoolOp .And (a :: b :: rest) pos) (tAnd tA tB'):=by
 intro wh vX s σ H Q I h;refine isTrue_and (thn (ha vX s σ H _ I h) fun c s1 zz=>?_);obtain ⟨H1,I1,q1⟩:=zz;cases c with
 | true=>exact hb wh vX s1 σ H1 Q I1 q1
 | false=>exact ⟨H1,I1,q1⟩
theorem QA (ha:PT X a tA) (hb:PW X (.BoolOp .Or (b :: rest) pos) tB'):PW X (.BoolOp .Or (a :: b :: rest) pos) (tOr tA tB'):=by
 intro wh vX s σ H Q I h;refine isTrue_or (thn (ha vX s σ H _ I h) fun c s1 zz=>?_);obtain ⟨H1,I1,q1⟩:=zz;cases c with
 | true=>exact ⟨H1,I1,q1⟩
 | false=>exact hb wh vX s1 σ H1 Q I1 q1
theorem jS (ha:PT X a tA):PT X (.UnaryOp .Not a pos) (tNot tA):=by
 intro vX s σ H Q I h;exact isTrue_not (ha vX s σ H (fun c H1=>Q (!c) H1) I h)
def z9V (ta tb:TE):TE:=fun σ H Q=>ta σ H fun x H1=>∃c,x=.bl c/\if c=true then tb σ H1 Q else Q (.bl false) H1
def tOrV (ta tb:TE):TE:=fun σ H Q=>ta σ H fun x H1=>∃c,x=.bl c/\if c=true then Q (.bl true) H1 else tb σ H1 Q
def z9Q (ta:TE):TE:=fun σ H Q=>ta σ H fun x H1=>∃c,x=.bl c/\Q (.bl (!c)) H1
theorem Z6 {op} {t:TE} (h:PE X a t):PE X (.BoolOp op [a] pos) t:=fun vX s σ H Q I hw=>BoolOp_one (h vX s σ H Q I hw)
theorem jU (ha:PE X a ta) (hb:PE X (.BoolOp .And (b :: rest) pos) tb):PE X (.BoolOp .And (a :: b :: rest) pos) (z9V ta tb):=by
 intro vX s σ H Q I h;refine BoolOp_and (thn (ha vX s σ H _ I h) fun v s1 zz=>?_);obtain ⟨x,H1,I1,r1,q1⟩:=zz;obtain ⟨c,rfl,q1⟩:=q1;cases r1;refine vB ?_;cases c with
 | true=>exact hb vX s1 σ H1 Q I1 q1
 | false=>exact ⟨.bl false,H1,I1,rfl,q1⟩
theorem z8J (ha:PE X a ta) (hb:PE X (.BoolOp .Or (b :: rest) pos) tb):PE X (.BoolOp .Or (a :: b :: rest) pos) (tOrV ta tb):=by
 intro vX s σ H Q I h;refine BoolOp_or (thn (ha vX s σ H _ I h) fun v s1 zz=>?_);obtain ⟨x,H1,I1,r1,q1⟩:=zz;obtain ⟨c,rfl,q1⟩:=q1;cases r1;refine vB ?_;cases c with
 | false=>exact hb vX s1 σ H1 Q I1 q1
 | true=>exact ⟨.bl true,H1,I1,rfl,q1⟩
theorem z6d (ha:PE X a ta):PE X (.UnaryOp .Not a pos) (z9Q ta):=by
 intro vX s σ H Q I h;refine UnaryOp_ (thn (ha vX s σ H _ I h) fun v s1 zz=>?_);obtain ⟨x,H1,I1,r1,q1⟩:=zz;obtain ⟨c,rfl,q1⟩:=q1;cases r1;exact not_of (vB ⟨.bl (!c),H1,I1,rfl,q1⟩)
def tIf (t:TT) (ta tb:TE):TE:=fun σ H Q=>t σ H fun c H1=>if c=true then ta σ H1 Q else tb σ H1 Q
theorem j6 {c:Expr} (hc:PT X c tA) (ha:PE X a ta) (hb:PE X b tb):PE X (.IfExp c a b pos) (tIf tA ta tb):=by
 intro vX s σ H Q I h;refine wpAny_IfExp (thn (hc vX s σ H _ I h) fun d s1 zz=>?_);obtain ⟨H1,I1,q1⟩:=zz;cases d with
 | true=>exact ha vX s1 σ H1 Q I1 q1
 | false=>exact hb vX s1 σ H1 Q I1 q1
end
end L2
namespace L2
def SqL (K:kE) (H:Hp) (a:Addr) (xs:List V):Prop:=
 Rd H a (.lst xs)\/
  ∃(o:Obj) (its:Array Value) (n:Nat),K.lookup a=some o/\o.cls=.type "list"/\o.dict=none/\o.data=.seq its n/\its.size<=sizeLine/\Vals xs its.toList
def SqT (K:kE) (H:Hp) (a:Addr) (xs:List V):Prop:=
 Rd H a (.tup xs)\/
  ∃(o:Obj) (its:Array Value) (n:Nat),K.lookup a=some o/\o.cls=.type "tuple"/\o.data=.seq its n/\its.size<=sizeLine/\Vals xs its.toList
noncomputable def absV:Value->Option V
 | .none=>some .non
 | .bool b=>some (.bl b)
 | .int i _=>some (.int i)
 | .str x _=>some (.str x)
 | .bytes b _=>some (.byt b)
 | .float b _=>some (.flt b)
 | .ref a=>some (.ref a)
 | .type n=>some (.ty n)
 | _=>none
theorem RelV.abs {x:V} {u:Value} (r:RelV x u):absV u=some x:=by
 cases x with
 | non=>cases r;rfl
 | bl _=>cases r;rfl
 | int _=>obtain ⟨t,rfl⟩:=r;rfl
 | str _=>obtain ⟨t,rfl⟩:=r;rfl
 | byt _=>obtain ⟨t,rfl⟩:=r;rfl
 | flt _=>obtain ⟨t,rfl⟩:=r;rfl
 | ref _=>cases r;rfl
 | ty _=>cases r;rfl
theorem RelV.inj {x y:V} {u:Value} (r:RelV x u) (q:RelV y u):x=y:=kH (r.abs.symm.trans q.abs)
theorem Vals.inj:∀{xs ys:List V} {us:List Value},Vals xs us->Vals ys us->xs=ys
 | _,_,_,.nil,.nil=>rfl
 | _,_,_,.cons r t,.cons r' t'=>by rw [r.inj r',Vals.inj t t']
section
variable {X:Cx} {vX:List (Addr × Obj)} {σ:St} {H:Hp} {s:Shared} {a:Addr} {xs ys:List V}
theorem SqL.of {K:kE} (h:H a=some (.lst xs)):SqL K H a xs:=.inl (.inl h)
theorem SqT.of {K:kE} (h:H a=some (.tup xs)):SqT K H a xs:=.inl (.inl h)
theorem Inv.list (I:Inv X vX σ H s) (h:SqL X.K H a xs):∃its:List Value,Vals xs its/\PlainL s.heap a its.toArray/\xs.length<=sizeLine:=by
 rcases h with h | ⟨o,its,n,hk,hc,hd,hs,hz,r⟩
 ·obtain ⟨z,its,n,r,e⟩:=h.ok I.hok;exact ⟨its,r,⟨_,n,e,rfl,rfl,rfl⟩,z⟩
 ·refine ⟨its.toList,r,⟨o,n,I.kIn a o hk,hc,hd,by simpa using hs⟩,?_⟩;have e:=r.length;simp only [Array.length_toList] at e;lia
theorem Inv.tuple (I:Inv X vX σ H s) (h:SqT X.K H a xs):∃its:List Value,Vals xs its/\IsTup s.heap a its.toArray/\xs.length<=sizeLine:=by
 rcases h with h | ⟨o,its,n,hk,hc,hs,hz,r⟩
 ·obtain ⟨z,its,r,p⟩:=h.ok I.hok;exact ⟨its,r,p,z⟩
 ·refine ⟨its.toList,r,⟨o,I.kIn a o hk,hc,n,by simpa using hs⟩,?_⟩;have e:=r.length;simp only [Array.length_toList] at e;lia
theorem Inv.list_inj (I:Inv X vX σ H s) (h:SqL X.K H a xs) (h':SqL X.K H a ys):xs=ys:=by
 obtain ⟨its,r,⟨o,n,e,_,_,d⟩,_⟩:=I.list h;obtain ⟨its',r',⟨o',n',e',_,_,d'⟩,_⟩:=I.list h';rw [e] at e';cases e';rw [d] at d';injection d' with d1 _
 have:its=its':=by simpa using vF Array.toList d1
 subst this;exact r.inj r'
theorem Inv.tuple_inj (I:Inv X vX σ H s) (h:SqT X.K H a xs) (h':SqT X.K H a ys):xs=ys:=by
 obtain ⟨its,r,⟨o,e,_,n,d⟩,_⟩:=I.tuple h;obtain ⟨its',r',⟨o',e',_,n',d'⟩,_⟩:=I.tuple h';rw [e] at e';cases e';rw [d] at d';injection d' with d1 _
 have:its=its':=by simpa using vF Array.toList d1
 subst this;exact r.inj r'
end
noncomputable abbrev Cx.wish (X:Cx) (E:Value->Shared->Prop):Cx:={ X with xe:=E }
noncomputable abbrev Cx.nox (X:Cx):Cx:=X.wish fun _ _=>False
theorem Cx.Ok.wish {X:Cx} (ok:X.Ok) (E:Value->Shared->Prop):(X.wish E).Ok:=
 ⟨ok.mod,ok.kind,ok.glob,ok.blt,ok.above,ok.inj,ok.has,ok.cab,ok.hd,ok.frames,ok.stk,ok.exf,ok.bs,ok.bsz,ok.noex,ok.exfs,ok.funs,ok.frf⟩
theorem Cx.Ok.unwish {X:Cx} {E:Value->Shared->Prop} (ok:(X.wish E).Ok):X.Ok:=
 ⟨ok.mod,ok.kind,ok.glob,ok.blt,ok.above,ok.inj,ok.has,ok.cab,ok.hd,ok.frames,ok.stk,ok.exf,ok.bs,ok.bsz,ok.noex,ok.exfs,ok.funs,ok.frf⟩
section
variable {X:Cx} {vX:List (Addr × Obj)} {σ:St} {H:Hp} {s:Shared} {E:Value->Shared->Prop}
theorem Inv.wish (I:Inv X vX σ H s) (E:Value->Shared->Prop):Inv (X.wish E) vX σ H s:=⟨I.ok.wish E,I.os,I.bare,I.base,I.loc,I.cell,I.free,I.freeC,I.pin,I.hok,I.len⟩
theorem Inv.unwish (I:Inv (X.wish E) vX σ H s):Inv X vX σ H s:=⟨I.ok.unwish,I.os,I.bare,I.base,I.loc,I.cell,I.free,I.freeC,I.pin,I.hok,I.len⟩
theorem SP.unwish {D:Ends} {f:Flow} {s':Shared} (h:SP (X.wish E) vX D f s'):SP X vX D f s':=by
 cases f with
 | next=>obtain ⟨σ',H',I,q⟩:=h;exact ⟨σ',H',I.unwish,q⟩
 | brk=>obtain ⟨σ',H',I,q⟩:=h;exact ⟨σ',H',I.unwish,q⟩
 | cont=>obtain ⟨σ',H',I,q⟩:=h;exact ⟨σ',H',I.unwish,q⟩
 | ret u=>obtain ⟨v,σ',H',I,r,q⟩:=h;exact ⟨v,σ',H',I.unwish,r,q⟩
theorem PSs.nox {st:List Stmt} {t:TS} (h:PSs X.nox st t):PSs X st t:=fun vX s σ H D I hw=>
 vJ (h vX s σ H D (I.wish _) hw) (fun _ _ q=>q.unwish) fun _ _ z=>False.elim z
end
section
variable {X:Cx} {st:Stmt} {rest:List Stmt} {t u:TS} {e:Expr} {te:TE} {pos:Pos}
def z9R:TS:=fun D σ H=>D.nx σ H
def tSeq (t u:TS):TS:=fun D σ H=>t { D with nx:=u D } σ H
theorem zE:PSs X [] z9R:=fun _ _ σ H _ I h=>wpAny_execs_nil ⟨σ,H,I,h⟩
theorem z8 (h1:PS X st t) (h2:PSs X rest u):PSs X (st :: rest) (tSeq t u):=by
 intro vX s σ H D I h;refine wpAny_execs_cons (thn (h1 vX s σ H { D with nx:=u D } I h) fun f s1 q=>?_);cases f with
 | next=>
  obtain ⟨σ',H',I',q⟩:=q;exact h2 vX s1 σ' H' D I' q
 | ret v=>exact q
 | brk=>exact q
 | cont=>exact q
theorem zi (h1:PS X st t):PSs X [st] t:=by
 intro vX s σ H D I h;refine wpAny_execs_cons (thn (h1 vX s σ H D I h) fun f s1 q=>?_);cases f with
 | next=>exact wpAny_execs_nil q
 | ret v=>exact q
 | brk=>exact q
 | cont=>exact q
theorem Inv.quiet {vX:List (Addr × Obj)} {σ:St} {H:Hp} {s:Shared} (I:Inv X vX σ H s):interactive X.env=false:=by simp [interactive,I.ok.kind]
def z8f (te:TE):TS:=fun D σ H=>te σ H fun _ H1=>D.nx σ H1
theorem zp (he:PE X e te) (hs:autoParam (swapsWith e none pos.line X.env=pure false) aR._auto_1):PS X (.Expr e pos) (z8f te):=by
 intro vX s σ H D I h;exact wpAny_Expr_any (thn (he vX s σ H _ I h) fun v s1 ⟨x,H1,I1,r1,q1⟩=>⟨σ,H1,I1,q1⟩) I.quiet hs
def tRet (te:TE):TS:=fun D σ H=>te σ H D.rt
theorem zu (he:PE X e te):PS X (.Return (some e) pos) (tRet te):=by
 intro vX s σ H D I h;exact wpAny_Return_some (thn (he vX s σ H _ I h) fun v s1 ⟨x,H1,I1,r1,q1⟩=>⟨x,σ,H1,I1,r1,q1⟩)
def z9O:TS:=fun D _ H=>D.rt .non H
theorem z6Q:PS X (.Return none pos) z9O:=fun _ _ σ H _ I h=>wpAny_Return_none ⟨.non,σ,H,I,rfl,h⟩
def tIfS (c:TT) (t u:TS):TS:=fun D σ H=>c σ H fun b H1=>if b=true then t D σ H1 else u D σ H1
theorem zY {c:Expr} {a b:List Stmt} {tc:TT} (hc:PT X c tc) (ha:PSs X a t) (hb:PSs X b u):PS X (.If c a b pos) (tIfS tc t u):=by
 intro vX s σ H D I h;refine wpAny_If (thn (hc vX s σ H _ I h) fun d s1 zz=>?_);obtain ⟨H1,I1,q1⟩:=zz;cases d with
 | true=>exact ha vX s1 σ H1 D I1 q1
 | false=>exact hb vX s1 σ H1 D I1 q1
def z8c:TS:=fun _ _ _=>False
theorem j4 {sts:List Stmt}:PSs X sts z8c:=fun _ _ _ _ _ _ h=>h.elim
end
abbrev TG:=V->St->Hp->(St->Hp->Prop)->Prop
abbrev TGs:=List V->St->Hp->(St->Hp->Prop)->Prop
def PG (X:Cx) (target:Expr) (t:TG):Prop:=
 ∀(vX:List (Addr × Obj)) (s:Shared) (σ:St) (H:Hp) (v:V) (u:Value) (Q:St->Hp->Prop),Inv X vX σ H s->RelV v u->t v σ H Q->
  wpAny (model X.prog X.w) X.A (assign target X.env u) (fun _ s'=>∃σ' H',Inv X vX σ' H' s'/\Q σ' H') X.xe s
def PGs (X:Cx) (ts:List Expr) (t:TGs):Prop:=
 ∀(vX:List (Addr × Obj)) (s:Shared) (σ:St) (H:Hp) (vs:List V) (us:List Value) (Q:St->Hp->Prop),Inv X vX σ H s->Vals vs us->t vs σ H Q->
  wpAny (model X.prog X.w) X.A (assignInOrder ((assignEach ts X.env).map (·.2)) us) (fun _ s'=>∃σ' H',Inv X vX σ' H' s'/\Q σ' H') X.xe s
abbrev TSet:=V->V->V->Hp->(Hp->Prop)->Prop
def PSet (X:Cx) (t:TSet):Prop:=
 ∀(vX:List (Addr × Obj)) (s:Shared) (σ:St) (H:Hp) (o i v:V) (ov iv u:Value) (Q:Hp->Prop),Inv X vX σ H s->RelV o ov->RelV i iv->RelV v u->t o i v H Q->
  wpAny (model X.prog X.w) X.A (setItem ov iv u) (fun _ s'=>∃H',Inv X vX σ H' s'/\Q H') X.xe s
abbrev TIp:=V->V->Hp->VK->Prop
def PIp (X:Cx) (op:Operator) (t:TIp):Prop:=
 ∀(vX:List (Addr × Obj)) (s:Shared) (σ:St) (H:Hp) (x y:V) (v u:Value) (Q:VK),Inv X vX σ H s->RelV x v->RelV y u->t x y H Q->
  wpAny (model X.prog X.w) X.A (inplaceOp op v u) (EP X vX σ Q) X.xe s
section
variable {X:Cx} {pos:Pos}
def z0C (i:Nat):TG:=fun v σ H Q=>Q (σ.set i (some v)) H
theorem zC {i:Nat} {x:Str} (hN:X.N.Nodup) (hi:X.N[i]?=some x) (hx:Loc X.env.scope x) (hf:X.fn x=true\/X.env.scope.names.lookup x=some .local:=by first | exact .inl rfl | exact .inr rfl | assumption):PG X (.Name x pos) (z0C i):=by
 intro vX s σ H v u Q I r h;exact wpAny_assign_Name (ZT I hN hi hx r (fun s' I'=>⟨_,H,I',h⟩) hf)
def gNil:TGs:=fun vs σ H Q=>vs=[]/\Q σ H
def z7d (t:TG) (u:TGs):TGs:=fun vs σ H Q=>∃v r,vs=v :: r/\t v σ H fun σ' H'=>u r σ' H' Q
theorem qC:PGs X [] gNil:=by
 intro vX s σ H vs us Q I r h;obtain ⟨e,h⟩:=h;subst e;cases r;exact assignInOrder_nil ⟨σ,H,I,h⟩
theorem zD {e:Expr} {es:List Expr} {t:TG} {u:TGs} (h1:PG X e t) (h2:PGs X es u)
  (hs:autoParam ((assignEach (e :: es) X.env).map (·.2)=assign e X.env :: (assignEach es X.env).map (·.2)) aR._auto_1):PGs X (e :: es) (z7d t u):=by
 intro vX s σ H vs us Q I r h;obtain ⟨v,vr,e1,h⟩:=h;subst e1;cases r with
 | cons r rr=>
  rw [hs];refine assignInOrder_cons (thn (h1 vX s σ H _ _ _ I r h) fun _ s1 zz=>?_);obtain ⟨σ1,H1,I1,q1⟩:=zz;exact h2 vX s1 σ1 H1 _ _ Q I1 rr q1
def gTup (K:kE) (n:Nat) (t:TGs):TG:=fun v σ H Q=>∃a xs,v=.ref a/\SqT K H a xs/\xs.length=n/\t xs σ H Q
theorem jr {es:List Expr} {k:Nat} {t:TGs} {n:Nat} (hc:X.calm=true) (h:PGs X es t)
  (hn:autoParam ((assignEach es X.env).length=n) aR._auto_1) (hst:autoParam ((assignEach es X.env).findIdx? (·.1)=none) aR._auto_1):PG X (.Tuple es k pos) (gTup X.K n t):=by
 intro vX s σ H v u Q I r hw;obtain ⟨a,xs,e1,hq,hl,hw⟩:=hw;subst e1;cases r;obtain ⟨its,rv,ht,hz⟩:=I.tuple hq;refine assign_Tuple_tuple (I.ok.hd hc) ht (by simp [hn,<-hl,rv.length]) hst fun h' hx=>?_
 have I1:Inv X vX σ H { s with heap:=h' }:=I.kept (t':=s.toks) fun b o e=>hx b o (vm (vf e)) e
 exact h vX _ σ H xs _ Q I1 (by simpa using rv) hw
def gSub (to ti:TE) (t:TSet):TG:=fun v σ H Q=>to σ H fun o H1=>ti σ H1 fun i H2=>t o i v H2 fun H3=>Q σ H3
theorem Qt {o i:Expr} {to ti:TE} {t:TSet} (ho:PE X o to) (hi:PE X i ti) (hs:PSet X t)
  (ha:∀v,assign (.Subscript o i pos) X.env v=(do
   let ov <-holding [v] (eval o X.env)
   let iv <-holding [v,ov] (eval i X.env)
   standAt pos
   holding [v,ov,iv] (setItem ov iv v)
   release [v,ov,iv] []):=by intro _;rfl):PG X (.Subscript o i pos) (gSub to ti t):=by
 intro vX s σ H v u Q I r h;rw [ha];refine va (wpAny_holding (thn (ho vX s σ H _ I h) fun ov s1 zz=>?_));obtain ⟨x,H1,I1,r1,q1⟩:=zz;refine va (wpAny_holding (thn (hi vX s1 σ H1 _ I1 q1) fun iv s2 zz=>?_));obtain ⟨y,H2,I2,r2,q2⟩:=zz;refine va (wpAny_standAt (va (wpAny_holding (thn (hs vX s2 σ H2 x y v ov iv u _ I2 r1 r2 r q2) fun _ s3 zz=>?_))));obtain ⟨H3,I3,q3⟩:=zz;exact wpAny_release ⟨σ,H3,I3,q3⟩
def tAsg (te:TE) (g:TG):TS:=fun D σ H=>te σ H fun x H1=>g x σ H1 D.nx
theorem jq {tg e:Expr} {te:TE} {g:TG} (he:PE X e te) (hg:PG X tg g) (hs:autoParam (swapsWithSole [tg] e pos.line X.env=pure false) aR._auto_1) (hw:autoParam (swappedStores [tg] e X.env=pure none) aR._auto_1)
  (h1:autoParam ((assignEach [tg] X.env).map (·.2)=[assign tg X.env]) aR._auto_1):PS X (.Assign [tg] e pos) (tAsg te g):=by
 intro vX s σ H D I h;refine wpAny_Assign_stores (thn (he vX s σ H _ I h) fun v s1 ⟨x,H1,I1,r1,q1⟩=>?_) hs hw;rw [h1];exact thn (hg vX s1 σ H1 x v _ I1 r1 q1) fun _ s2 q=>q
theorem zK {i:Nat} {x:Str} {e:Expr} {te:TE} {pos':Pos} (hN:X.N.Nodup) (hi:X.N[i]?=some x) (hx:Loc X.env.scope x) (he:PE X e te) (hs:autoParam (swapsWith e (some (.Name x pos')) pos.line X.env=pure false) aR._auto_1) (hf:X.fn x=true\/X.env.scope.names.lookup x=some .local:=by first | exact .inl rfl | exact .inr rfl | assumption):
  PS X (.Assign [.Name x pos'] e pos) (tAsg te (z0C i)):=by
 intro vX s σ H D I h;refine wpAny_Assign_Name (thn (he vX s σ H _ I h) fun v s1 ⟨y,H1,I1,r1,q1⟩=>?_) hs;exact ZT I1 hN hi hx r1 (fun s2 I2=>⟨_,H1,I2,q1⟩) hf
def tPar (i j:Nat) (ta:TA):TS:=fun D σ H=>ta σ H fun vs H1=>∃v w,vs=[v,w]/\D.nx ((σ.set i (some v)).set j (some w)) H1
theorem Qr {i j:Nat} {x y:Str} {a b:Expr} {ta:TA} {px py pt:Pos} {kt k2 pt2} (hc:X.calm=true) (hN:X.N.Nodup) (hi:X.N[i]?=some x) (hj:X.N[j]?=some y) (hij:i≠j)
  (hx:X.env.scope.names.lookup x=some .local) (hy:X.env.scope.names.lookup y=some .local) (ha:PA X [a,b] ta)
  (hw:swappedStores [.Tuple [.Name x px,.Name y py] kt pt] (.Tuple [a,b] k2 pt2) X.env=pure (some [x,y]))
  (hs:autoParam (swapsWithSole [.Tuple [.Name x px,.Name y py] kt pt] (.Tuple [a,b] k2 pt2) pos.line X.env=pure false) aR._auto_1):
  PS X (.Assign [.Tuple [.Name x px,.Name y py] kt pt] (.Tuple [a,b] k2 pt2) pos) (tPar i j ta):=by
 intro vX s σ H D I h;rw [exec_Assign_arm];refine va (wpAny_standAt ?_);rw [hs];refine va (ve ?_);rw [kF (by decide)];refine va (Tuple_ (thn (ha _ vX s σ H _ I h) fun us s1 zz=>?_));obtain ⟨vs,H1,I1,r1,q1⟩:=zz;obtain ⟨v,w,e1,q1⟩:=q1;subst e1;obtain ⟨u1,u2,rfl,rv,rw'⟩:∃u1 u2,us=[u1,u2]/\RelV v u1/\RelV w u2:=by
  cases r1 with
  | cons p q=>
   cases q with
   | cons p' q'=>
    cases q';exact ⟨_,_,rfl,p,p'⟩
 refine vG ?_ (vW);have I2:Inv X vX σ H1 { s1 with heap:=s1.heap.push { cls:=.type "tuple",data:=.seq [u1,u2].toArray } }:=I1.kept (t':=s1.toks) fun b o e=>vb _ e
 rw [hw];refine va (ve ?_);show wpAny (model X.prog X.w) X.A (do rule "assign.swapped-stores";let items <-unpackItems (.ref s1.heap.objs.size) 2 none;assignInOrder [fun v=>bindName X.env y v,fun v=>bindName X.env x v] items.reverse;pure Flow.next) _ _ _;refine va (wpAny_rule (va (unpackItems_tuple (items:=#[u1,u2]) (I.ok.hd hc) (IsTup.new s1.heap _) fun h' hx'=>?_)));have I3:=I2.kept (h':=h') (t':=s1.toks) fun b o e=>hx' b o (vm (vf e)) e
 show wpAny _ _ (assignInOrder [fun v=>bindName X.env y v,fun v=>bindName X.env x v] [u2,u1] >>= fun _=>pure Flow.next) _ _ _;refine va (assignInOrder_cons (wpAny_bindName (ZT I3 hN hj (.inl hy) rw' (fun s2 I4=>?_) (.inr hy))));refine assignInOrder_cons (wpAny_bindName (ZT I4 hN hi (.inl hx) rv (fun s3 I5=>assignInOrder_nil (ve ?_)) (.inr hx)));rw [List.set_comm _ _ (Ne.symm hij)] at I5;exact ⟨_,H1,I5,q1⟩
def tAug (i:Nat) (te:TE) (ti:TIp):TS:=fun D σ H=>∃x,σ[i]?=some (some x)/\te σ H fun y H1=>ti x y H1 fun z H2=>D.nx (σ.set i (some z)) H2
theorem z8F {i:Nat} {x:Str} {e:Expr} {te:TE} {op:Operator} {ti:TIp} {pos':Pos} (hN:X.N.Nodup) (hi:X.N[i]?=some x) (hx:Loc X.env.scope x) (he:PE X e te) (ho:PIp X op ti) (hf:X.fn x=true\/X.env.scope.names.lookup x=some .local:=by first | exact .inl rfl | exact .inr rfl | assumption):
  PS X (.AugAssign (.Name x pos') op e pos) (tAug i te ti):=by
 intro vX s σ H D I h;obtain ⟨v,e1,h⟩:=h;obtain ⟨m,hn,hl⟩:=I.loc;have vis:Vis X.env.scope x:=by rcases hx with k | k;exact .inl k;exact .inr (.inl k)
 obtain ⟨u,r,l⟩:=hl i x v hi e1 vis;refine wpAny_AugAssign_Name ?_;have go:wpAny (model X.prog X.w) X.A (eval e X.env) (fun w s₂=>wpAny (model X.prog X.w) X.A (inplaceOp op u w) (fun r s₃=>wpAny (model X.prog X.w) X.A (storeName X.env x r) (fun _=>SP X vX D .next) X.xe s₃) X.xe s₂) X.xe s:=by
  refine thn (he vX s σ H _ I h) fun w s1 zz=>?_
  obtain ⟨y,H1,I1,r1,q1⟩:=zz;refine thn (ho vX s1 σ H1 v y u w _ I1 r r1 q1) fun z s2 zz=>?_
  obtain ⟨zv,H2,I2,r2,q2⟩:=zz;exact ZT I2 hN hi hx r2 (fun s3 I3=>⟨_,H2,I3,q2⟩) hf
 rcases l with ⟨hk,hm⟩ | ⟨hk,c,hc,hcell⟩
 ·exact wpAny_loadName_local I.ok.kind hk hn hm go
 ·rcases hk with hk | hk
  ·exact wpAny_loadName_cell I.ok.kind hk hc hcell go
  ·rcases hx with k | k
   ·have:X.env.scope.names.lookup x=some .free:=hk
    rw [k] at this;cases this
   ·have:X.env.scope.names.lookup x=some .free:=hk
    rw [k] at this;cases this
def ipI (f:Int->Int->Int):TIp:=fun x y H Q=>∃i j,x=.int i/\y=.int j/\Q (.int (f i j)) H
theorem z9a:PIp X .Add (ipI fun i j=>i+j):=by
 intro vX s σ H x y v u Q I r1 r2 h;obtain ⟨i,j,e1,e2,q⟩:=h;subst e1;subst e2;obtain ⟨t,rfl⟩:=r1;obtain ⟨t',rfl⟩:=r2;exact iadd_int ⟨.int _,H,I.tok _,⟨_,rfl⟩,q⟩
end
section
variable {X:Cx} {pos:Pos}
def z8b (c:TT) (tb:TS):TS:=fun D σ H=>∃W:Nat->St->Hp->Prop,(∃m,W m σ H)/\∀m σ H,W m σ H->
 c σ H fun b H1=>if b=true then ∃N:St->Hp->Prop,(∀σ' H',N σ' H'->∃m',m' < m/\W m' σ' H')/\tb { D with nx:=N,ct:=N,bk:=D.nx } σ H1 else D.nx σ H1
theorem JD {c:Expr} {body:List Stmt} {tc:TT} {tb:TS} (hp:PassesOwn (model X.prog X.w) X.A X.env X.xe) (hc:PT X c tc) (hb:PSs X body tb):PS X (.While c body [] pos) (z8b tc tb):=by
 intro vX s σ H D I h;obtain ⟨W,⟨m0,w0⟩,turn⟩:=h;refine wpAny_While (codeAny_whileLoop (fun n s'=>∃σ' H',Inv X vX σ' H' s'/\W n σ' H') ?_ m0 ⟨σ,H,I,w0⟩);rintro n s1 ⟨σ1,H1,I1,w1⟩;refine vQ hp (thn (hc vX s1 σ1 H1 _ I1 (turn n σ1 H1 w1)) fun b s2 zz=>?_);obtain ⟨H2,I2,q2⟩:=zz;cases b with
 | true=>
  obtain ⟨N,hN,q2⟩:=q2;rw [kG rfl];refine vQ hp (thn (hb vX s2 σ1 H2 _ I2 q2) fun f s3 q3=>?_);cases f with
  | next=>
   obtain ⟨σ3,H3,I3,n3⟩:=q3;obtain ⟨m',hm,w3⟩:=hN σ3 H3 n3;exact ⟨m',hm,σ3,H3,I3,w3⟩
  | cont=>
   obtain ⟨σ3,H3,I3,n3⟩:=q3;obtain ⟨m',hm,w3⟩:=hN σ3 H3 n3;exact ⟨m',hm,σ3,H3,I3,w3⟩
  | brk=>exact q3
  | ret v=>exact q3
 | false=>
  rw [kF ke];exact wpAny_execs_nil ⟨σ1,H2,I2,q2⟩
end
structure It where
 go:Nat->Hp->Prop
 yld:Nat->Hp->V->Hp->Prop
 stop:Nat->Hp->Prop
def FpOk (X:Cx) (vX:List (Addr × Obj)) (H:Hp) (b:Addr):Prop:=
 H b=none/\b≠X.env.locals/\b∉X.fs/\(b∈X.ex\/X.s₀.heap.objs.size<=b)/\(∀x c,X.env.cells.lookup x=some c->c≠b)/\∀p∈X.pn++vX,p.1≠b
theorem Inv.fpOk {X:Cx} {vX:List (Addr × Obj)} {σ:St} {H H':Hp} {s:Shared} {b:Addr} (I:Inv X vX σ H s) (hb:s.heap.objs.size<=b) (hn:H' b=none):FpOk X vX H' b:=by
 refine ⟨hn,Nat.ne_of_gt (kR I.lt hb),I.nofs hb,.inr (kD I.sz hb),fun x c e z=>?_,fun p hp z=>?_⟩
 ·obtain ⟨v,q⟩:=I.cell x c e;exact vd (kR q.lt (by rw [z];exact hb)) (vA _)
 ·exact vd (kR (vf (I.pin p hp).1) (by rw [z];exact hb)) (vA _)
structure Turn (P:Program) (w:World) (K:kE) (tg:Expr) (J:It) (fp:List Addr) (it:Addr) (tn:Nat->Heap->Prop):Prop where
 mem:it∈fp
 obj:∀i h,tn i h->∀b∈fp,∃o,h.get? b=some o/\∀v,o.data≠.cell v
 keep:∀i h h',tn i h->(∀b∈fp,∀o,h.get? b=some o->h'.get? b=some o)->tn i h'
 item:∀(X:Cx),X.prog=P->X.w=w->X.K=K->X.calm=true->∀(i:Nat) (vX:List (Addr × Obj)) (s:Shared) (σ:St) (H:Hp) (E:Value->Shared->Prop),Inv X vX σ H s->(∀b∈fp,FpOk X vX H b)->tn i s.heap->J.go i H->
  wpAny (model P w) X.A (pyNext (.ref it)) (fun r s1=>∃u,r=some u/\
   wpAny (model P w) X.A (letOwnedTupleGo tg (.ref it) u) (fun _ s2=>∃x H',Inv X vX σ H' s2/\RelV x u/\J.yld i H x H'/\tn (i+1) s2.heap/\∀b∈fp,H' b=none) E s1) E s
 done:∀(X:Cx),X.prog=P->X.w=w->X.K=K->X.calm=true->∀(i:Nat) (vX:List (Addr × Obj)) (s:Shared) (σ:St) (H:Hp) (E:Value->Shared->Prop),Inv X vX σ H s->(∀b∈fp,FpOk X vX H b)->tn i s.heap->J.stop i H->
  wpAny (model P w) X.A (pyNext (.ref it)) (fun r s1=>r=none/\Inv X vX σ H s1) E s
 self:∀(A:Around) (i:Nat) (s:Shared) (Q:Value->Shared->Prop) (E:Value->Shared->Prop),tn i s.heap->Q (.ref it) s->wpAny (model P w) A (pyIter (.ref it)) Q E s
abbrev TI:=St->Hp->(It->Hp->Prop)->Prop
def PIE (X:Cx) (vX:List (Addr × Obj)) (σ:St) (tg:Expr) (R:It->Hp->Prop) (itv:Value) (s2:Shared):Prop:=
 ∃(it:Addr) (fp:List Addr) (tn:Nat->Heap->Prop) (J:It) (H':Hp),itv=.ref it/\Inv X vX σ H' s2/\Turn X.prog X.w X.K tg J fp it tn/\tn 0 s2.heap/\(∀b∈fp,FpOk X vX H' b)/\R J H'
def PI (X:Cx) (tg iter:Expr) (wi:TI):Prop:=
 ∀(vX:List (Addr × Obj)) (s:Shared) (σ:St) (H:Hp) (R:It->Hp->Prop),Inv X vX σ H s->wi σ H R->
  wpAny (model X.prog X.w) X.A (eval iter X.env) (fun v s1=>wpAny (model X.prog X.w) X.A (pyIter v) (PIE X vX σ tg R) X.xe s1) X.xe s
theorem z7b {M:Model} {A:Around} {E:Value->Shared->Prop} {s:Shared} {tg:Expr} {it:Addr} {u:Value} {o:Obj} {n:String} {vs:Array Value} {Q:Unit->Shared->Prop} (ho:s.heap.get? it=some o) (hc:o.cls=.type n) (hd:o.data=.fields vs)
  (hn:["enumerate","zip","dict_itemiterator","dict_reverseitemiterator","odict_iterator","itertools.zip_longest","itertools.pairwise"].contains n=false) (hQ:Q () s):wpAny M A (letOwnedTupleGo tg (.ref it) u) Q E s:=by
 unfold letOwnedTupleGo;cases tg <;> first
  | exact ve hQ
  | (cases u <;> first
    | exact ve hQ
    | (refine va (wpAny_load ho ?_);rw [hc,hd];show wpAny M A (if (["enumerate","zip","dict_itemiterator","dict_reverseitemiterator","odict_iterator","itertools.zip_longest","itertools.pairwise"].contains n&&vs[0]? == some (rawInt _))=true then _ else _) Q E s;rw [kF (by intro h;rw [hn,vy] at h;cases h)];exact ve hQ))
noncomputable def Itl (K:kE) (a:Addr):It:=
 ⟨fun i H=>∃xs x,SqL K H a xs/\xs[i]?=some x,fun i H x H'=>H'=H/\∀xs,SqL K H a xs->xs[i]?=some x,fun i H=>∃xs,SqL K H a xs/\xs.length<=i⟩
noncomputable def Itt (K:kE) (a:Addr):It:=
 ⟨fun i H=>∃xs x,SqT K H a xs/\xs[i]?=some x,fun i H x H'=>H'=H/\∀xs,SqT K H a xs->xs[i]?=some x,fun i H=>∃xs,SqT K H a xs/\xs.length<=i⟩
noncomputable def Itr (lo:Int) (n:Nat):It:=⟨fun i _=>i < n,fun i H x H'=>H'=H/\x=.int (lo+i),fun i _=>n<=i⟩
theorem z2M {P:Program} {w:World} {K:kE} {tg:Expr} (a it:Addr):Turn P w K tg (Itl K a) [it] it (fun i h=>h.IsListIter it a i) where
 mem:=by simp
 obj:=fun i h st b hb=>by
  have e:b=it:=by simpa using hb
  subst e;obtain ⟨o,e,c,d⟩:=st;exact ⟨o,e,fun v z=>by rw [d] at z;cases z⟩
 keep:=fun i h h' st k=>st.at fun o e=>k it (by simp) o e
 item:=by
  intro X hP hw hK hc i vX s σ H E I hf st hg;subst hP hw hK;obtain ⟨xs,x,hq,hx⟩:=hg;obtain ⟨its,rv,p,hz⟩:=I.list hq;obtain ⟨u,hu,ru⟩:=rv.get hx;obtain ⟨f0,f1,f2,f3,f4,f5⟩:=hf it (by simp);refine wpAny_pyNext_list_item st p.isList (x:=u) (by simpa using hu) fun h' st' sb=>?_
  have I1:Inv X vX σ H { s with heap:=h' }:=I.turned (t':=s.toks) (fun b o hb e=>(sb.2 b hb).trans e) f0 f1 f3 f4 f5;obtain ⟨o,e,c,d⟩:=id st';exact ⟨u,rfl,z7b (s:={ s with heap:=h' }) e c d (by decide) ⟨x,H,I1,ru,⟨rfl,fun ys hy=>by rw [I.list_inj hy hq];exact hx⟩,st',fun b hb=>(hf b hb).1⟩⟩
 done:=by
  intro X hP hw hK hc i vX s σ H E I hf st hg;subst hP hw hK;obtain ⟨xs,hq,hx⟩:=hg;obtain ⟨its,rv,p,hz⟩:=I.list hq;obtain ⟨f0,f1,f2,f3,f4,f5⟩:=hf it (by simp);have hl:=rv.length;exact wpAny_pyNext_list_end (I.ok.hd hc) st p.isList (by simp;lia) fun h' eb=>⟨rfl,I.turned (t':=s.toks) (fun b o hb e=>eb b o hb e) f0 f1 f3 f4 f5⟩
 self:=fun _ _ _ _ _ st h=>wpAny_pyIter_listiter st h
theorem z26 {P:Program} {w:World} {K:kE} {tg:Expr} (a it:Addr):Turn P w K tg (Itt K a) [it] it (fun i h=>h.IsTupleIter it a i) where
 mem:=by simp
 obj:=fun i h st b hb=>by
  have e:b=it:=by simpa using hb
  subst e;obtain ⟨o,e,c,d⟩:=st;exact ⟨o,e,fun v z=>by rw [d] at z;cases z⟩
 keep:=fun i h h' st k=>st.at fun o e=>k it (by simp) o e
 item:=by
  intro X hP hw hK hc i vX s σ H E I hf st hg;subst hP hw hK;obtain ⟨xs,x,hq,hx⟩:=hg;obtain ⟨its,rv,p,hz⟩:=I.tuple hq;obtain ⟨u,hu,ru⟩:=rv.get hx;obtain ⟨f0,f1,f2,f3,f4,f5⟩:=hf it (by simp);refine wpAny_pyNext_tuple_item st (show s.heap.IsTuple a its.toArray from p) (x:=u) (by simpa using hu) fun h' st' sb=>?_
  have I1:Inv X vX σ H { s with heap:=h' }:=I.turned (t':=s.toks) (fun b o hb e=>(sb.2 b hb).trans e) f0 f1 f3 f4 f5;obtain ⟨o,e,c,d⟩:=id st';exact ⟨u,rfl,z7b (s:={ s with heap:=h' }) e c d (by decide) ⟨x,H,I1,ru,⟨rfl,fun ys hy=>by rw [I.tuple_inj hy hq];exact hx⟩,st',fun b hb=>(hf b hb).1⟩⟩
 done:=by
  intro X hP hw hK hc i vX s σ H E I hf st hg;subst hP hw hK;obtain ⟨xs,hq,hx⟩:=hg;obtain ⟨its,rv,p,hz⟩:=I.tuple hq;obtain ⟨f0,f1,f2,f3,f4,f5⟩:=hf it (by simp);have hl:=rv.length;exact wpAny_pyNext_tuple_end (I.ok.hd hc) st (show s.heap.IsTuple a its.toArray from p) (by simp;lia) fun h' eb=>⟨rfl,I.turned (t':=s.toks) (fun b o hb e=>eb b o hb e) f0 f1 f3 f4 f5⟩
 self:=fun _ _ _ _ _ st h=>wpAny_pyIter_tupleiter st h
theorem z27 {P:Program} {w:World} {K:kE} {tg:Expr} (it:Addr) (lo:Int) (n:Nat):Turn P w K tg (Itr lo n) [it] it (fun i h=>IsRangeIter h it (lo+(i:Nat) * 1) ((n:Int) - (i:Nat)) 1) where
 mem:=by simp
 obj:=fun i h st b hb=>by
  have e:b=it:=by simpa using hb
  subst e;exact ⟨_,st,fun v z=>by
   have z':Data.fields _=Data.cell v:=z;cases z'⟩
 keep:=fun i h h' st k=>k it (by simp) _ st
 item:=by
  intro X hP hw hK hc i vX s σ H E I hf st hg;subst hP hw hK;obtain ⟨f0,f1,f2,f3,f4,f5⟩:=hf it (by simp);have W:=Walks.range (prog:=X.prog) (w:=X.w) (I.ok.hd hc) it lo 1 n;refine W.item i s _ _ hg st fun v h' tk hv st' kk=>?_
  obtain ⟨t,rfl⟩:=hv;have I1:Inv X vX σ H { s with heap:=h',toks:=tk }:=I.turned (fun b o hb e=>kk b o (by simpa using hb) e) f0 f1 f3 f4 f5;refine ⟨_,rfl,z7b (s:={ s with heap:=h',toks:=tk }) (n:="range_iterator") st' rfl rfl (by decide) ⟨.int (lo+i),H,I1,⟨t,?_⟩,⟨rfl,rfl⟩,st',fun b hb=>(hf b hb).1⟩⟩;rw [Int.mul_one]
 done:=by
  intro X hP hw hK hc i vX s σ H E I hf st hg;subst hP hw hK;obtain ⟨f0,f1,f2,f3,f4,f5⟩:=hf it (by simp);exact wpAny_pyNext_range_end (I.ok.hd hc) st (by have:n<=i:=hg;lia) fun h' eb=>⟨rfl,I.turned (t':=s.toks) (fun b o hb e=>eb b o hb e) f0 f1 f3 f4 f5⟩
 self:=fun _ _ _ _ _ st h=>wpAny_pyIter_rangeiter st h
end L2
namespace L2
section
variable {X:Cx} {tg:Expr}
def zai (K:kE) (tl:TE):TI:=fun σ H R=>tl σ H fun x H1=>∃a,x=.ref a/\(∃xs,SqL K H1 a xs)/\R (Itl K a) H1
def iTup (K:kE) (tl:TE):TI:=fun σ H R=>tl σ H fun x H1=>∃a,x=.ref a/\(∃xs,SqT K H1 a xs)/\R (Itt K a) H1
theorem jM {l:Expr} {tl:TE} (hl:PE X l tl):PI X tg l (zai X.K tl):=by
 intro vX s σ H R I h;refine thn (hl vX s σ H _ I h) fun v s1 zz=>?_
 obtain ⟨x,H1,I1,r1,q1⟩:=zz;obtain ⟨a,e,⟨xs,hq⟩,q⟩:=q1;subst e;cases r1;obtain ⟨its,rv,p,hz⟩:=I1.list hq;refine wpAny_pyIter_list p.isList ?_;refine ⟨s1.heap.objs.size,[s1.heap.objs.size],_,_,H1,rfl,I1.kept (t':=s1.toks) fun b o e=>vb _ e,z2M a _,⟨_,vg _ rfl,rfl,rfl⟩,fun b hb=>?_,q⟩;have e:b=s1.heap.objs.size:=by simpa using hb
 subst e;exact I1.fpOk (ki _) (I1.hok.fresh (ki _))
theorem z3i {l:Expr} {tl:TE} (hl:PE X l tl):PI X tg l (iTup X.K tl):=by
 intro vX s σ H R I h;refine thn (hl vX s σ H _ I h) fun v s1 zz=>?_
 obtain ⟨x,H1,I1,r1,q1⟩:=zz;obtain ⟨a,e,⟨xs,hq⟩,q⟩:=q1;subst e;cases r1;obtain ⟨its,rv,p,hz⟩:=I1.tuple hq;refine wpAny_pyIter_tuple (show s1.heap.IsTuple a its.toArray from p) ?_;refine ⟨s1.heap.objs.size,[s1.heap.objs.size],_,_,H1,rfl,I1.kept (t':=s1.toks) fun b o e=>vb _ e,z26 a _,⟨_,vg _ rfl,rfl,rfl⟩,fun b hb=>?_,q⟩;have e:b=s1.heap.objs.size:=by simpa using hb
 subst e;exact I1.fpOk (ki _) (I1.hok.fresh (ki _))
theorem z4H {vX:List (Addr × Obj)} {σ:St} {H:Hp} {s:Shared} {R:It->Hp->Prop} {E:Value->Shared->Prop} {lo hi:Int} {t u v:Tok} {tk:Nat} (I:Inv X vX σ H s) (h1: -(2 ^ 62)<=lo) (h2:lo < 2 ^ 62) (h3: -(2 ^ 62)<=hi) (h4:hi < 2 ^ 62)
  (q:R (Itr lo (hi - lo).toNat) H):wpAny (model X.prog X.w) X.A (pyIter (.ref s.heap.objs.size)) (PIE X vX σ tg R) E { s with heap:=s.heap.push { cls:=.type "range",data:=.fields #[.int lo t,.int hi u,.int 1 v] },toks:=tk }:=by
 refine wpAny_pyIter_range (IsRange.new ..) (small_one h1 h2 h3 h4) ?_;have I1:Inv X vX σ H { s with heap:=s.heap.push { cls:=.type "range",data:=.fields #[.int lo t,.int hi u,.int 1 v] },toks:=tk }:=I.kept fun b o e=>vb _ e
 refine ⟨(s.heap.push { cls:=.type "range",data:=.fields #[.int lo t,.int hi u,.int 1 v] }).objs.size,[(s.heap.push { cls:=.type "range",data:=.fields #[.int lo t,.int hi u,.int 1 v] }).objs.size],_,_,H,rfl,
  I1.kept (t':=tk) fun b o e=>vb _ e,z27 _ lo (hi - lo).toNat,?_,fun b hb=>?_,q⟩
 ·have e1:lo+((0:Nat):Int) * 1=lo:=by simp
  have e2:(((hi - lo).toNat:Nat):Int) - ((0:Nat):Int)=Builtin.Range.rangeSize lo hi 1:=by rw [rangeSize_one];split <;> lia
  show IsRangeIter _ _ (lo+((0:Nat):Int) * 1) ((((hi - lo).toNat:Nat):Int) - ((0:Nat):Int)) 1;rw [e1,e2];exact vg _ rfl
 ·have e:b=(s.heap.push { cls:=.type "range",data:=.fields #[.int lo t,.int hi u,.int 1 v] }).objs.size:=by simpa using hb
  subst e;exact I1.fpOk (ki _) (I1.hok.fresh (ki _))
def z9b (ta:TA):TI:=fun σ H R=>ta σ H fun vs H1=>∃j:Int,vs=[.int j]/\-(2 ^ 62)<=j/\j < 2 ^ 62/\R (Itr 0 j.toNat) H1
theorem j5 {a:Expr} {ta:TA} {p pos:Pos} (hg:Gl X "range") (hm:X.mg "range"=none) (ha:PA X [a] ta) (hs:autoParam (starEach [a] X.env=[(false,eval a X.env)]) aR._auto_1):PI X tg (.Call (.Name "range" p) [a] [] pos) (z9b ta):=by
 intro vX s σ H R I h;refine Call_ (J5 I hg hm boot_range (vH (thn (ha pos vX s σ H _ I h) fun us s1 ⟨vs,H1,I1,r1,q1⟩=>?_) hs rfl));obtain ⟨j,e,q1,q2,q⟩:=q1;subst e;cases r1 with
 | cons r rr=>
  cases rr;obtain ⟨t,rfl⟩:=r;exact call_range_1 (z4H I1 (by lia) (by lia) q1 q2 (by simpa using q))
def tFor (wi:TI) (g:TG) (tb:TS):TS:=fun D σ H=>wi σ H fun J H1=>∃W:Nat->Nat->St->Hp->Prop,(∃m,W 0 m σ H1)/\∀i m σ H,W i m σ H->
 (J.stop i H/\D.nx σ H)\/(J.go i H/\∃N:St->Hp->Prop,(∀σ' H',N σ' H'->∃m',m' < m/\W (i+1) m' σ' H')/\∀x H',J.yld i H x H'->g x σ H' fun σ2 H2=>tb { D with nx:=N,ct:=N,bk:=D.nx } σ2 H2)
noncomputable def z0o (fp:List Addr) (h:Heap):List (Addr × Obj):=fp.filterMap fun b=>(h.get? b).map fun o=>(b,o)
theorem ZA {fp:List Addr} {h:Heap} {b:Addr} {o:Obj} (hb:b∈fp) (e:h.get? b=some o):(b,o)∈z0o fp h:=List.mem_filterMap.mpr ⟨b,hb,by rw [e];rfl⟩
theorem z3s {fp:List Addr} {h:Heap} {p:Addr × Obj} (hp:p∈z0o fp h):p.1∈fp/\h.get? p.1=some p.2:=by
 obtain ⟨b,hb,e⟩:=List.mem_filterMap.mp hp;cases q:h.get? b with
 | none=>rw [q] at e;cases e
 | some o=>
  rw [q] at e;have e':(b,o)=p:=kH e;subst e';exact ⟨hb,q⟩
theorem Inv.pinned {vX:List (Addr × Obj)} {σ:St} {H:Hp} {s:Shared} {fp:List Addr} (I:Inv X vX σ H s) (hf:∀b∈fp,FpOk X vX H b) (ho:∀b∈fp,∃o,s.heap.get? b=some o/\∀v,o.data≠.cell v):Inv X (vX++z0o fp s.heap) σ H s:=
 I.pins_of fun p hp=>(ya.mp hp).elim (fun z=>I.pin p (kU _ z)) fun z=>by
  obtain ⟨hb,e⟩:=z3s z;obtain ⟨f0,f1,f2,_⟩:=hf p.1 hb;obtain ⟨o,e',d⟩:=ho p.1 hb;rw [e] at e';cases e';exact ⟨e,f0,f1,f2,d⟩
theorem Inv.unpinned {vX pl:List (Addr × Obj)} {σ:St} {H:Hp} {s:Shared} (I:Inv X (vX++pl) σ H s):Inv X vX σ H s:=I.pins_of fun p hp=>I.pin p (kU _ (kW _ hp))
theorem jI {iter:Expr} {body:List Stmt} {wi:TI} {g:TG} {tb:TS} {pos:Pos} (hp:PassesOwn (model X.prog X.w) X.A X.env X.xe) (hc:X.calm=true) (hi:PI X tg iter wi) (hg:PG X tg g) (hb:PSs X body tb)
  (hs:∀x,foldedSetIterable iter X.env x=pure x:=by intro _;rfl):PS X (.For tg iter body [] pos) (tFor wi g tb):=by
 intro vX s σ H D I h;refine wpAny_For (thn (hi vX s σ H _ I h) fun v s1 h1=>thn h1 fun itv s2 h2=>?_) hs;obtain ⟨it,fp,tn,J,H2,e,I2,T,st2,f2,W,⟨m0,w0⟩,turn⟩:=h2;subst e;have stat:∀{H':Hp},(∀b∈fp,H' b=none)->∀b∈fp,FpOk X vX H' b:=fun hn b hb=>⟨hn b hb,(f2 b hb).2⟩
 refine codeAny_forLoop_any (fun n s'=>∃i σ' H',Inv X vX σ' H' s'/\tn i s'.heap/\(∀b∈fp,H' b=none)/\W i n σ' H') ?_ m0 ⟨0,σ,H2,I2,st2,fun b hb=>(f2 b hb).1,w0⟩;rintro n s3 ⟨i,σ3,H3,I3,st3,fr3,w3⟩;rcases turn i n σ3 H3 w3 with ⟨stop,qn⟩ | ⟨go,N,hN,step⟩
 ·refine vQ hp (thn (T.done X rfl rfl rfl hc i vX s3 σ3 H3 X.xe I3 (stat fr3) st3 stop) fun r s4 zz=>?_);obtain ⟨hr,I4⟩:=zz;subst hr;exact wpAny_execs_nil ⟨σ3,H3,I4,qn⟩
 ·refine vQ hp (thn (T.item X rfl rfl rfl hc i vX s3 σ3 H3 X.xe I3 (stat fr3) st3 go) fun r s4 zz=>?_);obtain ⟨u,hr,h4⟩:=zz;subst hr;refine vQ hp (thn h4 fun _ s5 zz=>?_);obtain ⟨x,H5,I5,r5,y5,st5,fr5⟩:=zz;have I5':=I5.pinned (stat fr5) (T.obj _ _ st5);refine vQ hp (thn (hg _ s5 σ3 H5 x u _ I5' r5 (step x H5 y5)) fun _ s6 zz=>?_);obtain ⟨σ6,H6,I6,q6⟩:=zz;refine vQ hp (thn (hb _ s6 σ6 H6 _ I6 q6) fun f s7 q7=>?_);have again:∀{σ7:St} {H7:Hp},Inv X (vX++z0o fp s5.heap) σ7 H7 s7->N σ7 H7->∃m,m < n/\∃i σ' H',Inv X vX σ' H' s7/\tn i s7.heap/\(∀b∈fp,H' b=none)/\W i m σ' H':=fun {σ7 H7} I7 n7=>by
   obtain ⟨m',hm,w7⟩:=hN σ7 H7 n7;refine ⟨m',hm,i+1,σ7,H7,I7.unpinned,T.keep _ _ _ st5 fun b hb o e=>(I7.pin (b,o) (kU _ (kU _ (ZA hb e)))).1,fun b hb=>?_,w7⟩;obtain ⟨o,e,d⟩:=T.obj _ _ st5 b hb;exact (I7.pin (b,o) (kU _ (kU _ (ZA hb e)))).2.1
  cases f with
  | next=>obtain ⟨σ7,H7,I7,n7⟩:=q7;exact again I7 n7
  | cont=>obtain ⟨σ7,H7,I7,n7⟩:=q7;exact again I7 n7
  | brk=>obtain ⟨σ7,H7,I7,q7⟩:=q7;exact ⟨σ7,H7,I7.unpinned,q7⟩
  | ret v=>obtain ⟨x7,σ7,H7,I7,r7,q7⟩:=q7;exact ⟨x7,σ7,H7,I7.unpinned,r7,q7⟩
end
theorem z1U {K:kE} {a:Addr} {xs:List V} {g:TG} {tb:TS} {D:Ends} {σ:St} {H:Hp} (Pv:Nat->St->Hp->Prop) (h0:Pv 0 σ H) (hl:∀i σ H,i<=xs.length->Pv i σ H->SqL K H a xs)
  (hs:∀i x σ H,xs[i]?=some x->Pv i σ H->g x σ H fun σ2 H2=>tb { D with nx:=Pv (i+1),ct:=Pv (i+1),bk:=D.nx } σ2 H2) (hd:∀σ H,Pv xs.length σ H->D.nx σ H):
  ∃W:Nat->Nat->St->Hp->Prop,(∃m,W 0 m σ H)/\∀i m σ H,W i m σ H->
   ((Itl K a).stop i H/\D.nx σ H)\/((Itl K a).go i H/\∃N:St->Hp->Prop,(∀σ' H',N σ' H'->∃m',m' < m/\W (i+1) m' σ' H')/\∀x H',(Itl K a).yld i H x H'->g x σ H' fun σ2 H2=>tb { D with nx:=N,ct:=N,bk:=D.nx } σ2 H2):=by
 refine ⟨fun i m σ H=>m=xs.length - i/\i<=xs.length/\Pv i σ H,⟨xs.length,by simp,vi _,h0⟩,?_⟩;rintro i m σ H ⟨rfl,hi,p⟩;have q:=hl i σ H hi p;by_cases hlt:i < xs.length
 ·refine .inr ⟨⟨xs,xs[i],q,by simp [hlt]⟩,Pv (i+1),fun σ' H' p'=>⟨xs.length - (i+1),by lia,rfl,hlt,p'⟩,fun x H' y=>?_⟩;obtain ⟨e,y⟩:=y;subst e;exact hs i x σ _ (y xs q) p
 ·have e:i=xs.length:=by lia
  subst e;exact .inl ⟨⟨xs,q,ki _⟩,hd σ H p⟩
theorem z7f {K:kE} {a:Addr} {xs:List V} {g:TG} {tb:TS} {D:Ends} {σ:St} {H:Hp} (Pv:Nat->St->Hp->Prop) (h0:Pv 0 σ H) (hl:∀i σ H,i<=xs.length->Pv i σ H->SqT K H a xs)
  (hs:∀i x σ H,xs[i]?=some x->Pv i σ H->g x σ H fun σ2 H2=>tb { D with nx:=Pv (i+1),ct:=Pv (i+1),bk:=D.nx } σ2 H2) (hd:∀σ H,Pv xs.length σ H->D.nx σ H):
  ∃W:Nat->Nat->St->Hp->Prop,(∃m,W 0 m σ H)/\∀i m σ H,W i m σ H->
   ((Itt K a).stop i H/\D.nx σ H)\/((Itt K a).go i H/\∃N:St->Hp->Prop,(∀σ' H',N σ' H'->∃m',m' < m/\W (i+1) m' σ' H')/\∀x H',(Itt K a).yld i H x H'->g x σ H' fun σ2 H2=>tb { D with nx:=N,ct:=N,bk:=D.nx } σ2 H2):=by
 refine ⟨fun i m σ H=>m=xs.length - i/\i<=xs.length/\Pv i σ H,⟨xs.length,by simp,vi _,h0⟩,?_⟩;rintro i m σ H ⟨rfl,hi,p⟩;have q:=hl i σ H hi p;by_cases hlt:i < xs.length
 ·refine .inr ⟨⟨xs,xs[i],q,by simp [hlt]⟩,Pv (i+1),fun σ' H' p'=>⟨xs.length - (i+1),by lia,rfl,hlt,p'⟩,fun x H' y=>?_⟩;obtain ⟨e,y⟩:=y;subst e;exact hs i x σ _ (y xs q) p
 ·have e:i=xs.length:=by lia
  subst e;exact .inl ⟨⟨xs,q,ki _⟩,hd σ H p⟩
theorem ji {lo:Int} {n:Nat} {g:TG} {tb:TS} {D:Ends} {σ:St} {H:Hp} (Pv:Nat->St->Hp->Prop) (h0:Pv 0 σ H)
  (hs:∀i σ H,i < n->Pv i σ H->g (.int (lo+i)) σ H fun σ2 H2=>tb { D with nx:=Pv (i+1),ct:=Pv (i+1),bk:=D.nx } σ2 H2) (hd:∀σ H,Pv n σ H->D.nx σ H):
  ∃W:Nat->Nat->St->Hp->Prop,(∃m,W 0 m σ H)/\∀i m σ H,W i m σ H->
   ((Itr lo n).stop i H/\D.nx σ H)\/((Itr lo n).go i H/\∃N:St->Hp->Prop,(∀σ' H',N σ' H'->∃m',m' < m/\W (i+1) m' σ' H')/\∀x H',(Itr lo n).yld i H x H'->g x σ H' fun σ2 H2=>tb { D with nx:=N,ct:=N,bk:=D.nx } σ2 H2):=by
 refine ⟨fun i m σ H=>m=n - i/\i<=n/\Pv i σ H,⟨n,by simp,vi _,h0⟩,?_⟩;rintro i m σ H ⟨rfl,hi,p⟩;by_cases hlt:i < n
 ·refine .inr ⟨hlt,Pv (i+1),fun σ' H' p'=>⟨n - (i+1),by lia,rfl,hlt,p'⟩,fun x H' y=>?_⟩;obtain ⟨e,y⟩:=y;subst e y;exact hs i σ _ hlt p
 ·have e:i=n:=by lia
  subst e;exact .inl ⟨ki _,hd σ H p⟩
end L2
namespace L2
abbrev R2:=V->V->Hp->VK->Prop
def OpR (X:Cx) (f:Value->Value->Sem Value) (r:R2):Prop:=
 ∀(vX:List (Addr × Obj)) (s:Shared) (σ:St) (H:Hp) (x y:V) (v u:Value) (Q:VK),Inv X vX σ H s->RelV x v->RelV y u->r x y H Q->
  wpAny (model X.prog X.w) X.A (f v u) (EP X vX σ Q) X.xe s
def UnR (X:Cx) (f:Value->Sem Value) (r:V->Hp->VK->Prop):Prop:=
 ∀(vX:List (Addr × Obj)) (s:Shared) (σ:St) (H:Hp) (x:V) (v:Value) (Q:VK),Inv X vX σ H s->RelV x v->r x H Q->
  wpAny (model X.prog X.w) X.A (f v) (EP X vX σ Q) X.xe s
def Zx (X:Cx) (f:Value) (r:List V->Hp->VK->Prop):Prop:=
 ∀(vX:List (Addr × Obj)) (s:Shared) (σ:St) (H:Hp) (xs:List V) (us:List Value) (Q:VK),Inv X vX σ H s->Vals xs us->r xs H Q->
  wpAny (model X.prog X.w) X.A (call f us) (EP X vX σ Q) X.xe s
def TruR (X:Cx) (r:V->Hp->(Bool->Hp->Prop)->Prop):Prop:=
 ∀(vX:List (Addr × Obj)) (s:Shared) (σ:St) (H:Hp) (x:V) (v:Value) (Q:Bool->Hp->Prop),Inv X vX σ H s->RelV x v->r x H Q->
  wpAny (model X.prog X.w) X.A (truthy v) (TP X vX σ Q) X.xe s
def tOp (r:R2) (ta tb:TE):TE:=fun σ H Q=>ta σ H fun x H1=>tb σ H1 fun y H2=>r x y H2 Q
def tUn (r:V->Hp->VK->Prop) (ta:TE):TE:=fun σ H Q=>ta σ H fun x H1=>r x H1 Q
def rI (C:Int->Int->Prop) (g:Int->Int->V):R2:=fun x y H Q=>∃i j,x=.int i/\y=.int j/\C i j/\Q (g i j) H
def rI0 (g:Int->Int->V):R2:=fun x y H Q=>∃i j,x=.int i/\y=.int j/\Q (g i j) H
def rU (g:Int->V):V->Hp->VK->Prop:=fun x H Q=>∃i,x=.int i/\Q (g i) H
section
variable {X:Cx} {a b c:Expr} {ta tb tc:TE} {pos:Pos}
theorem binT (ha:PE X a ta) (hb:PE X b tb) {vX:List (Addr × Obj)} {s:Shared} {σ:St} {H:Hp} {R:V->V->Hp->Prop} (I:Inv X vX σ H s)
  (h:ta σ H fun x H1=>tb σ H1 fun y H2=>R x y H2) {Q:Value->Shared->Prop} {f:Value->Value->Sem Value}
  (hf:∀v u s2 x y H2,Inv X vX σ H2 s2->RelV x v->RelV y u->R x y H2->wpAny (model X.prog X.w) X.A (f v u) Q X.xe s2):
  wpAny (model X.prog X.w) X.A (eval a X.env) (fun v s₁=>wpAny (model X.prog X.w) X.A (eval b X.env) (fun u s₂=>wpAny (model X.prog X.w) X.A (f v u) Q X.xe s₂) X.xe s₁) X.xe s:=by
 refine thn (ha vX s σ H _ I h) fun v s1 zz=>?_
 obtain ⟨x,H1,I1,r1,q1⟩:=zz;refine thn (hb vX s1 σ H1 _ I1 q1) fun u s2 zz=>?_
 obtain ⟨y,H2,I2,r2,q2⟩:=zz;exact hf v u s2 x y H2 I2 r1 r2 q2
theorem qa {op:Operator} {r:R2} (ho:OpR X (binaryOp op) r) (ha:PE X a ta) (hb:PE X b tb):PE X (.BinOp a op b pos) (tOp r ta tb):=by
 intro vX s σ H Q I h;exact wpAny_BinOp (binT ha hb I h fun v u s2 x y H2 I2 rx ry q=>ho vX s2 σ H2 x y v u Q I2 rx ry q)
theorem ZL {op:UnaryOp} {r:V->Hp->VK->Prop} (ho:UnR X (unaryOp op) r) (ha:PE X a ta):PE X (.UnaryOp op a pos) (tUn r ta):=by
 intro vX s σ H Q I h;exact UnaryOp_ (thn (ha vX s σ H _ I h) fun v s1 ⟨x,H1,I1,r1,q1⟩=>ho vX s1 σ H1 x v Q I1 r1 q1)
theorem opI {f:Value->Value->Sem Value} {C:Int->Int->Prop} {g:Int->Int->Int}
  (rule:∀(i j:Int) (t u:Tok) (s:Shared) (Q:Value->Shared->Prop) (E:Value->Shared->Prop),C i j->Q (.int (g i j) s.toks) { s with toks:=s.toks+1 }->wpAny (model X.prog X.w) X.A (f (.int i t) (.int j u)) Q E s):
  OpR X f (rI C fun i j=>.int (g i j)):=by
 intro vX s σ H x y v u Q I rx ry h;obtain ⟨i,j,rfl,rfl,hc,q⟩:=h;obtain ⟨t,rfl⟩:=rx;obtain ⟨t',rfl⟩:=ry;exact rule i j t t' s _ _ hc ⟨.int (g i j),H,I.tok _,⟨_,rfl⟩,q⟩
theorem opI0 {f:Value->Value->Sem Value} {g:Int->Int->Int}
  (rule:∀(i j:Int) (t u:Tok) (s:Shared) (Q:Value->Shared->Prop) (E:Value->Shared->Prop),Q (.int (g i j) s.toks) { s with toks:=s.toks+1 }->wpAny (model X.prog X.w) X.A (f (.int i t) (.int j u)) Q E s):
  OpR X f (rI0 fun i j=>.int (g i j)):=by
 intro vX s σ H x y v u Q I rx ry h;obtain ⟨i,j,rfl,rfl,q⟩:=h;obtain ⟨t,rfl⟩:=rx;obtain ⟨t',rfl⟩:=ry;exact rule i j t t' s _ _ ⟨.int (g i j),H,I.tok _,⟨_,rfl⟩,q⟩
theorem opB0 {f:Value->Value->Sem Value} {g:Int->Int->Bool}
  (rule:∀(i j:Int) (t u:Tok) (s:Shared) (Q:Value->Shared->Prop) (E:Value->Shared->Prop),Q (.bool (g i j)) s->wpAny (model X.prog X.w) X.A (f (.int i t) (.int j u)) Q E s):
  OpR X f (rI0 fun i j=>.bl (g i j)):=by
 intro vX s σ H x y v u Q I rx ry h;obtain ⟨i,j,rfl,rfl,q⟩:=h;obtain ⟨t,rfl⟩:=rx;obtain ⟨t',rfl⟩:=ry;exact rule i j t t' s _ _ ⟨.bl (g i j),H,I,rfl,q⟩
def CDiv (i j:Int):Prop:=0 < j/\j < 1073741824
def CPow (i j:Int):Prop:=0<=j/\j<=1000000/\i.natAbs < 2 ^ 64
def CMul (i j:Int):Prop:=(-(2 ^ 64) < i/\i < 2 ^ 64)\/(-(2 ^ 64) < j/\j < 2 ^ 64)
theorem CMul.ok {i j:Int} (h:CMul i j):IntMulOk i j:=by
 rcases h with ⟨h1,h2⟩ | ⟨h1,h2⟩
 ·exact .of_left (intBits_le_64 h1 h2)
 ·exact .of_right (intBits_le_64 h1 h2)
theorem js:OpR X (binaryOp .Add) (rI0 fun i j=>.int (i+j)):=opI0 fun _ _ _ _ _ _ _ q=>add_int q
theorem jD:OpR X (binaryOp .Sub) (rI0 fun i j=>.int (i - j)):=opI0 fun _ _ _ _ _ _ _ q=>sub_int q
theorem z0r:OpR X (binaryOp .Mult) (rI CMul fun i j=>.int (i * j)):=opI fun _ _ _ _ _ _ _ hc q=>mul_int q hc.ok
theorem QX:OpR X (binaryOp .FloorDiv) (rI CDiv fun i j=>.int (i / j)):=opI fun i j _ _ _ _ _ hc q=>by
 have h1:(0:Int) < j:=hc.1;have h2:j < 1073741824:=hc.2;exact floordiv_int (by lia) (by rw [Int.fdiv_eq_ediv_of_nonneg i (by lia)];exact q) (.inl (PyProof.noPylong_small (by lia)))
theorem QW:OpR X (binaryOp .Mod) (rI (fun _ j=>0 < j) fun i j=>.int (i % j)):=opI fun i j _ _ _ _ _ hc q=>by
 have h1:(0:Int) < j:=hc;exact mod_int' (by lia) (by rw [Int.fmod_eq_emod_of_nonneg i (by lia)];exact q)
theorem z6Z:OpR X (binaryOp .Mod) (rI (fun _ j=>j≠0) fun i j=>.int (i.fmod j)):=opI fun _ _ _ _ _ _ _ hc q=>mod_int' hc q
theorem z3n:OpR X (binaryOp .Pow) (rI CPow fun i j=>.int (i ^ j.toNat)):=opI fun _ _ _ _ _ _ _ hc q=>pow_int_small hc.1 hc.2.1 hc.2.2 q
theorem unI {f:Value->Sem Value} {g:Int->Int}
  (rule:∀(i:Int) (t:Tok) (s:Shared) (Q:Value->Shared->Prop) (E:Value->Shared->Prop),Q (.int (g i) s.toks) { s with toks:=s.toks+1 }->wpAny (model X.prog X.w) X.A (f (.int i t)) Q E s):
  UnR X f (rU fun i=>.int (g i)):=by
 intro vX s σ H x v Q I rx h;obtain ⟨i,rfl,q⟩:=h;obtain ⟨t,rfl⟩:=rx;exact rule i t s _ _ ⟨.int (g i),H,I.tok _,⟨_,rfl⟩,q⟩
theorem jy:UnR X (unaryOp .USub) (rU fun i=>.int (-i)):=unI fun _ _ _ _ _ q=>neg_int q
end
noncomputable def scal:V->V->Bool
 | .non,.non=>true | .non,.int _=>true | .int _,.non=>true | .non,.bl _=>true | .bl _,.non=>true | .non,.str _=>true | .str _,.non=>true
 | .int _,.int _=>true | .bl _,.bl _=>true | .str _,.str _=>true | .byt _,.byt _=>true
 | .int _,.str _=>true | .str _,.int _=>true | .bl _,.str _=>true | .str _,.bl _=>true
 | _,_=>false
def rEq:R2:=fun x y H Q=>scal x y=true/\Q (.bl (decide (x=y))) H
def rNe:R2:=fun x y H Q=>scal x y=true/\Q (.bl (!decide (x=y))) H
theorem z44 {i j:Int}:decide (V.int i=V.int j)=(i == j):=by
 rw [vR];simp
theorem z0K {i j:Bool}:decide (V.bl i=V.bl j)=(i == j):=by
 rw [vR];simp
theorem z43 {i j:Str}:decide (V.str i=V.str j)=(i == j):=by
 rw [vR];simp
theorem z45 {i j:Array UInt8}:decide (V.byt i=V.byt j)=(i.toList == j.toList):=by
 rw [vR];cases i;cases j;simp
section
variable {X:Cx} {a b c:Expr} {ta tb tc:TE} {pos:Pos}
theorem qv {vX:List (Addr × Obj)} {σ:St} {H:Hp} {s:Shared} {Q:VK} {k k':Bool} (I:Inv X vX σ H s) (q:Q (.bl k) H) (e:k=k'):EP X vX σ Q (.bool k') s:=by
 subst e;exact ⟨.bl k,H,I,rfl,q⟩
theorem qM:OpR X (compareOp .Eq) rEq:=by
 intro vX s σ H x y v u Q I rx ry h;obtain ⟨hs,q⟩:=h;cases x with
 | non=>
  cases rx;cases y with
  | non=>cases ry;exact PySem.EqNone.eq_none_none (qv I q (by simp))
  | bl j=>cases ry;exact PySem.EqNone.eq_none_bool (qv I q (by simp))
  | int j=>obtain ⟨t',rfl⟩:=ry;exact PySem.EqNone.eq_none_int (qv I q (by simp))
  | str j=>obtain ⟨t',rfl⟩:=ry;exact PySem.EqNone.eq_none_str (qv I q (by simp))
  | _=>exact vd (show false=true from hs) ke
 | bl i=>
  cases rx;cases y with
  | non=>cases ry;exact PySem.EqNone.eq_bool_none (qv I q (by simp))
  | bl j=>cases ry;exact eq_bool (qv I q z0K)
  | str j=>obtain ⟨t',rfl⟩:=ry;exact PySem.EqMixed.eq_bool_str (qv I q (by simp))
  | _=>exact vd (show false=true from hs) ke
 | int i=>
  obtain ⟨t,rfl⟩:=rx;cases y with
  | non=>cases ry;exact PySem.EqNone.eq_int_none (qv I q (by simp))
  | int j=>obtain ⟨t',rfl⟩:=ry;exact eq_int (qv I q z44)
  | str j=>obtain ⟨t',rfl⟩:=ry;exact PySem.EqMixed.eq_int_str (qv I q (by simp))
  | _=>exact vd (show false=true from hs) ke
 | str i=>
  obtain ⟨t,rfl⟩:=rx;cases y with
  | non=>cases ry;exact PySem.EqNone.eq_str_none (qv I q (by simp))
  | bl j=>cases ry;exact PySem.EqMixed.eq_str_bool (qv I q (by simp))
  | int j=>obtain ⟨t',rfl⟩:=ry;exact PySem.EqMixed.eq_str_int (qv I q (by simp))
  | str j=>obtain ⟨t',rfl⟩:=ry;exact eq_str (qv I q z43)
  | _=>exact vd (show false=true from hs) ke
 | byt i=>
  obtain ⟨t,rfl⟩:=rx;cases y with
  | byt j=>obtain ⟨t',rfl⟩:=ry;exact PySem.W.eq_bytes (qv I q z45)
  | _=>exact vd (show false=true from hs) ke
 | _=>cases y <;> exact vd (show false=true from hs) ke
theorem z4S:OpR X (compareOp .NotEq) rNe:=by
 intro vX s σ H x y v u Q I rx ry h;obtain ⟨hs,q⟩:=h;cases x with
 | non=>
  cases rx;cases y with
  | non=>cases ry;exact PySem.EqNone.ne_none_none (qv I q (by simp))
  | bl j=>cases ry;exact PySem.EqNone.ne_none_bool (qv I q (by simp))
  | int j=>obtain ⟨t',rfl⟩:=ry;exact PySem.EqNone.ne_none_int (qv I q (by simp))
  | str j=>obtain ⟨t',rfl⟩:=ry;exact PySem.EqNone.ne_none_str (qv I q (by simp))
  | _=>exact vd (show false=true from hs) ke
 | bl i=>
  cases rx;cases y with
  | non=>cases ry;exact PySem.EqNone.ne_bool_none (qv I q (by simp))
  | bl j=>cases ry;exact ne_bool (qv I q (vF not z0K))
  | str j=>obtain ⟨t',rfl⟩:=ry;exact PySem.EqMixed.ne_bool_str (qv I q (by simp))
  | _=>exact vd (show false=true from hs) ke
 | int i=>
  obtain ⟨t,rfl⟩:=rx;cases y with
  | non=>cases ry;exact PySem.EqNone.ne_int_none (qv I q (by simp))
  | int j=>obtain ⟨t',rfl⟩:=ry;exact ne_int (qv I q (vF not z44))
  | str j=>obtain ⟨t',rfl⟩:=ry;exact PySem.EqMixed.ne_int_str (qv I q (by simp))
  | _=>exact vd (show false=true from hs) ke
 | str i=>
  obtain ⟨t,rfl⟩:=rx;cases y with
  | non=>cases ry;exact PySem.EqNone.ne_str_none (qv I q (by simp))
  | bl j=>cases ry;exact PySem.EqMixed.ne_str_bool (qv I q (by simp))
  | int j=>obtain ⟨t',rfl⟩:=ry;exact PySem.EqMixed.ne_str_int (qv I q (by simp))
  | str j=>obtain ⟨t',rfl⟩:=ry;exact ne_str (qv I q (vF not z43))
  | _=>exact vd (show false=true from hs) ke
 | byt i=>
  obtain ⟨t,rfl⟩:=rx;cases y with
  | byt j=>obtain ⟨t',rfl⟩:=ry;exact PySem.W.ne_bytes (qv I q (vF not z45))
  | _=>exact vd (show false=true from hs) ke
 | _=>cases y <;> exact vd (show false=true from hs) ke
theorem Je:OpR X (compareOp .Lt) (rI0 fun i j=>.bl (decide (i < j))):=opB0 fun _ _ _ _ _ _ _ q=>lt_int q
theorem z2h:OpR X (compareOp .LtE) (rI0 fun i j=>.bl (decide (i<=j))):=opB0 fun _ _ _ _ _ _ _ q=>le_int q
theorem Jf:OpR X (compareOp .Gt) (rI0 fun i j=>.bl (decide (j < i))):=opB0 fun _ _ _ _ _ _ _ q=>gt_int q
theorem zab:OpR X (compareOp .GtE) (rI0 fun i j=>.bl (decide (j<=i))):=opB0 fun _ _ _ _ _ _ _ q=>ge_int q
theorem Z7:OpR X (compareOp .Is) (fun x y H Q=>y=.non/\Q (.bl (decide (x=.non))) H):=by
 intro vX s σ H x y v u Q I rx ry h;obtain ⟨rfl,q⟩:=h;cases ry;refine is_none_gen (qv I q ?_);cases x <;> first
  | (cases rx;rfl)
  | (obtain ⟨t,rfl⟩:=rx;rfl)
theorem QV:OpR X (compareOp .IsNot) (fun x y H Q=>y=.non/\Q (.bl (!decide (x=.non))) H):=by
 intro vX s σ H x y v u Q I rx ry h;obtain ⟨rfl,q⟩:=h;cases ry;refine isnot_none_gen (qv I q ?_);cases x <;> first
  | (cases rx;rfl)
  | (obtain ⟨t,rfl⟩:=rx;rfl)
theorem zA (b:Expr) {op:CmpOp} (h:autoParam (op≠.In) aR._auto_2) (h2:autoParam (op≠.NotIn) aR._auto_2):behindInMarks op b=false:=by
 have e1:(op == CmpOp.In)=false:=by cases op <;> first | rfl | exact vd rfl h
 have e2:(op == CmpOp.NotIn)=false:=by cases op <;> first | rfl | exact vd rfl h2
 cases b <;> simp [behindInMarks,e1,e2]
theorem qT {op:CmpOp} {r:R2} (ho:OpR X (compareOp op) r) (ha:PE X a ta) (hb:PE X b tb) (hm:behindInMarks op b=false):PE X (.Compare a [op] [b] pos) (tOp r ta tb):=by
 intro vX s σ H Q I h;exact wpAny_Compare1 (binT ha hb I h fun v u s2 x y H2 I2 rx ry q=>ho vX s2 σ H2 x y v u Q I2 rx ry q) hm
def z9N (t:TE):TT:=fun σ H Q=>t σ H fun x H'=>∃k,x=.bl k/\Q k H'
theorem zt {op:CmpOp} {r:R2} (ho:OpR X (compareOp op) r) (ha:PE X a ta) (hb:PE X b tb) (hm:behindInMarks op b=false):PT X (.Compare a [op] [b] pos) (z9N (tOp r ta tb)):=by
 intro vX s σ H Q I h;refine wpAny_isTrue_Compare1 (thn (ha vX s σ H _ I h) fun v s1 ⟨x,H1,I1,r1,q1⟩=>thn (hb vX s1 σ H1 _ I1 q1) fun u s2 ⟨y,H2,I2,r2,q2⟩=>
  thn (ho vX s2 σ H2 x y v u _ I2 r1 r2 q2) fun c s3 ⟨z,H3,I3,r3,k,e,q3⟩=>?_) hm
 subst e;cases r3;exact vB ⟨H3,I3,q3⟩
def z8k (r r':R2) (ta tb tc:TE):TE:=fun σ H Q=>ta σ H fun x H1=>tb σ H1 fun y H2=>r x y H2 fun z H3=>∃k,z=.bl k/\
 (if k=true then tc σ H3 fun w' H4=>r' y w' H4 Q else Q (.bl false) H3)
theorem JJ {op op':CmpOp} {r r':R2} (ho:OpR X (compareOp op) r) (ho':OpR X (compareOp op') r') (ha:PE X a ta) (hb:PE X b tb) (hc:PE X c tc)
  (hm:lastMarks [op,op'] [b,c]=false:=by with_unfolding_all rfl):PE X (.Compare a [op,op'] [b,c] pos) (z8k r r' ta tb tc):=by
 intro vX s σ H Q I h;refine Compare_chain (thn (ha vX s σ H _ I h) fun v s1 ⟨x,H1,I1,r1,q1⟩=>chain_link (thn (hb vX s1 σ H1 _ I1 q1) fun u s2 ⟨y,H2,I2,r2,q2⟩=>
  thn (ho vX s2 σ H2 x y v u _ I2 r1 r2 q2) fun d s3 ⟨z,H3,I3,r3,k,e,q3⟩=>?_)) hm
 subst e;cases r3;refine vB ?_;cases k with
 | false=>exact ite_ff ⟨.bl false,H3,I3,rfl,q3⟩
 | true=>exact ite_tt (chain_last (thn (hc vX s3 σ H3 _ I3 q3) fun w' s4 ⟨z',H4,I4,r4,q4⟩=>ho' vX s4 σ H4 y z' u w' Q I4 r2 r4 q4))
def TruV (K:kE) (x:V) (H:Hp) (k:Bool):Prop:=
 match x with
 | .non=>k=false
 | .bl b=>k=b
 | .int i=>k=(i != 0)
 | .str y=>y.length<=sizeLine/\k=((y.length:Int) != 0)
 | .byt y=>y.size<=sizeLine/\k=((y.size:Int) != 0)
 | .ref p=>(∃xs,SqL K H p xs/\k= !xs.isEmpty)\/(∃xs,SqT K H p xs/\k= !xs.isEmpty)\/∃kvs,H p=some (.dK kvs)/\k= !kvs.isEmpty
 | _=>False
theorem z2t {κ:Type} {kvs:List (κ × V)} {vs:List (κ × Value)} (r:KV kvs vs):(!vs.isEmpty)= !kvs.isEmpty:=by
 cases r <;> rfl
theorem Jo {xs:List V} {its:List Value} (r:Vals xs its):(!its.toArray.isEmpty)= !xs.isEmpty:=by
 cases r <;> simp
theorem J3:(sizeLine:Nat) < 2 ^ 63:=by rw [sizeLine_eq];decide
theorem z8a:TruR X (fun x H Q=>∃k,TruV X.K x H k/\Q k H):=by
 intro vX s σ H x v Q I rx h;obtain ⟨k,e,q⟩:=h;have hl:=J3;have hs:sizeLine=16777216:=sizeLine_eq;cases x with
 | non=>
  cases rx;have e':k=false:=e;subst e';exact truthy_none ⟨H,I,q⟩
 | bl b=>
  cases rx;have e':k=b:=e;subst e';exact vB ⟨H,I,q⟩
 | int i=>
  obtain ⟨t,rfl⟩:=rx;have e':k=(i != 0):=e;subst e';exact PySem.P.truthy_int ⟨H,I,q⟩
 | str y=>
  obtain ⟨t,rfl⟩:=rx;obtain ⟨hy,e'⟩:y.length<=sizeLine/\k=((y.length:Int) != 0):=e;subst e';exact PySem.P.truthy_str (by lia) ⟨H,I.tok _,q⟩
 | byt y=>
  obtain ⟨t,rfl⟩:=rx;obtain ⟨hy,e'⟩:y.size<=sizeLine/\k=((y.size:Int) != 0):=e;subst e';exact PySem.W.truthy_bytes (by lia) ⟨H,I.tok _,q⟩
 | ref p=>
  cases rx;have e':(∃xs,SqL X.K H p xs/\k= !xs.isEmpty)\/(∃xs,SqT X.K H p xs/\k= !xs.isEmpty)\/∃kvs,H p=some (.dK kvs)/\k= !kvs.isEmpty:=e;rcases e' with ⟨xs,hx,e'⟩ | ⟨xs,hx,e'⟩ | ⟨kvs,hx,e'⟩
  ·subst e';obtain ⟨its,r,pl,hz⟩:=I.list hx;have hlen:=r.length;exact wpAny_truthy_list pl.isList (by simp only [kK];lia) ⟨H,I.tok _,by rw [Jo r];exact q⟩
  ·subst e';obtain ⟨its,r,pl,hz⟩:=I.tuple hx;have hlen:=r.length;exact truthy_tuple pl (by simp only [kK];lia) ⟨H,I.tok _,by rw [Jo r];exact q⟩
  ·subst e';obtain ⟨hz,hS,vs,r,m⟩:kvs.length<=sizeLine/\(p == sysModules)=false/\∃vs,KV kvs vs/\s.heap.DictOf (qp X.prog X.w) p vs:=I.hok p _ hx;have hlen:kvs.length=vs.length:=Paired.length r;exact wpAny_truthy_dict hS m (by lia) ⟨H,I.tok _,by rw [z2t r];exact q⟩
 | _=>exact (show False from e).elim
theorem ZV (ha:PE X a ta) (he:∀whole,isTrue a X.env whole=(do let v <-whole;standAt a.pos;holding [v] (truthy v))):
  PT X a (fun σ H Q=>ta σ H fun x H'=>∃k,TruV X.K x H' k/\Q k H'):=by
 intro vX s σ H Q I h;exact isTrue_plain (thn (ha vX s σ H _ I h) fun v s1 ⟨x,H1,I1,r1,q1⟩=>z8a vX s1 σ H1 x v Q I1 r1 q1) (he _)
theorem Jd {x:V} {us:List Value} (r:Vals [x] us):∃u,us=[u]/\RelV x u:=by
 cases r with
 | cons r1 r2=>cases r2;exact ⟨_,rfl,r1⟩
theorem z4r {x y:V} {us:List Value} (r:Vals [x,y] us):∃u w',us=[u,w']/\RelV x u/\RelV y w':=by
 cases r with
 | cons r1 r2=>
  cases r2 with
  | cons r3 r4=>cases r4;exact ⟨_,_,rfl,r1,r3⟩
theorem z5J:Zx X (.builtin "abs") (fun xs H Q=>∃i,xs=[.int i]/\Q (.int (if i < 0 then -i else i)) H):=by
 intro vX s σ H xs us Q I r h;obtain ⟨i,rfl,q⟩:=h;obtain ⟨u,rfl,t,rfl⟩:=Jd r;exact call_abs_int fun u tk=>⟨.int (if i < 0 then -i else i),H,I.tok _,⟨_,rfl⟩,q⟩
theorem z4i (hc:X.calm=true):Zx X (.builtin "max") (fun xs H Q=>∃i j,xs=[.int i,.int j]/\Q (.int (if j > i then j else i)) H):=by
 intro vX s σ H xs us Q I r h;obtain ⟨i,j,rfl,q⟩:=h;obtain ⟨u,w',rfl,⟨t,rfl⟩,⟨t',rfl⟩⟩:=z4r r;refine max_two_ints (I.ok.hd hc) fun h' tk k=>⟨_,H,I.kept k,?_,q⟩
 by_cases hj:j > i
 ·rw [kG hj,kG hj];exact ⟨_,rfl⟩
 ·rw [kF hj,kF hj];exact ⟨_,rfl⟩
theorem z4h (hc:X.calm=true):Zx X (.builtin "min") (fun xs H Q=>∃i j,xs=[.int i,.int j]/\Q (.int (if j < i then j else i)) H):=by
 intro vX s σ H xs us Q I r h;obtain ⟨i,j,rfl,q⟩:=h;obtain ⟨u,w',rfl,⟨t,rfl⟩,⟨t',rfl⟩⟩:=z4r r;refine min_two_ints (I.ok.hd hc) fun h' tk k=>⟨_,H,I.kept k,?_,q⟩
 by_cases hj:j < i
 ·rw [kG hj,kG hj];exact ⟨_,rfl⟩
 ·rw [kF hj,kF hj];exact ⟨_,rfl⟩
end
end L2
namespace L2
structure ObjM (h:Heap) (x dx C:Addr) (mA:Str->Option Value):Prop where
 obj:h.get? x=some (PySem.W.instObj C dx)
 ns:h.Ns1 dx mA
 ne:dx≠x
theorem z3w {h:Heap} {dx:Addr} {mA:Str->Option Value} (n:h.Ns1 dx mA):∃od,h.get? dx=some od/\∀name,PySem.W.lookIn name od=some (mA name):=by
 obtain ⟨o,es,ep,ho,hd,hk,_,hm⟩:=n;refine ⟨o,ho,fun name=>?_⟩;have e:=hm name;unfold nsFind findBy at e;rw [<-Array.find?_toList] at e;unfold PySem.W.lookIn;rw [hd];dsimp only;split
 ·rename_i y q
  rw [q] at e;exact vF some e
 ·rename_i q
  rw [q] at e;have a:es.toList.any (·.refKey)=false:=by
   rw [List.any_eq_false];intro y hy;obtain ⟨z,t,hkey⟩:=hk y (Array.mem_toList_iff.mp hy);simp [DictEntry.refKey,hkey]
  have a':¬es.toList.any (·.refKey)=true:=by rw [a];exact ke
  rw [kF a'];exact vF some e
theorem ObjM.look {h:Heap} {x dx C:Addr} {mA:Str->Option Value} (I:ObjM h x dx C mA):∃od,PySem.W.InstAt h x (PySem.W.instObj C dx) C (some od)/\∀name,PySem.W.lookIn name od=some (mA name):=
 let ⟨od,ho,hl⟩:=z3w I.ns
 ⟨od,⟨I.obj,rfl,rfl,ho⟩,hl⟩
section
variable {prog:Program} {w:World} {A:Around} {E:Value->Shared->Prop} {s:Shared} {K:kE} {x dx C f:Addr} {mA:Str->Option Value} {name:Str} {v:Value}
theorem z7c {expr:Bool} {Q:Value->Shared->Prop} (X:K.In s.heap) (I:ObjM s.heap x dx C mA) (hg:PySem.W.plainGet K C name=true) (hh:PySem.W.hasDictIn K C=true)
  (ha:PySem.W.findIn K (.ref C) name=some none) (hv:mA name=some v) (hv':PySem.W.handedIn v=true) (h:Q v { s with toks:=s.toks+1 }):
  wpAny (model prog w) A (getAttr (.ref x) name expr) Q E s:=by
 obtain ⟨od,J,hl⟩:=I.look;exact PySem.W.get_value X J (PySem.W.plainGet_of hg).1 (PySem.W.findObj_own hh ha rfl (by rw [hl,hv])) hv' h
theorem z5d {pl:Sem Bool} {Q:Value × List Value->Shared->Prop} (X:K.In s.heap) (I:ObjM s.heap x dx C mA) (hg:PySem.W.plainGet K C name=true)
  (hf:PySem.W.findIn K (.ref C) name=some (some (.ref f))) (ht:PySem.W.isFn K (.ref f)=true) (hv:mA name=none) (h:Q (.ref f,[.ref x]) s):
  wpAny (model prog w) A (getMethod (.ref x) name pl) Q E s:=by
 obtain ⟨od,J,hl⟩:=I.look;exact PySem.W.method_fn X J (PySem.W.plainGet_of hg).1 (PySem.W.plainGet_of hg).2 hf (beq_iff_eq.mp ht) (by show (PySem.W.lookIn name od).map (·.isSome)=some false;rw [hl,hv];rfl) h
theorem z6K {ns:List Str} {Q:Unit->Shared->Prop} (X:K.In s.heap) (I:ObjM s.heap x dx C mA)
  (hs:PySem.W.findIn K (.ref C) "__setattr__"=some (some (.builtin "object.__setattr__"))) (hp:PySem.W.plainOver K C=true) (ht:PySem.W.takerIn K C name=some none) (hh:PySem.W.hasDictIn K C=true)
  (hw:PySem.Within mA ns) (hsz:ns.length<=sizeLine)
  (h:∀h',ObjM h' x dx C (fun y=>if y=name then some v else mA y)->Heap.SameBut dx s.heap h'->Q () { s with heap:=h',toks:=s.toks+2 }):
  wpAny (model prog w) A (setAttr (.ref x) name v) Q E s:=by
 obtain ⟨od,J,hl⟩:=I.look;refine PySem.W.set_plain X J hs (PySem.W.osa_open (s:={ s with toks:=s.toks+1 }) (r:=none) X J hp ht fun b=>?_);obtain ⟨cd,hc,hd'⟩:=PySem.W.any_some hh;have hx:s.heap.get? x=some ⟨.ref C,some dx,.plain,#[]⟩:=I.obj;refine va (ve (va (va (wpAny_loadPart hx (va (PySem.W.Looks.here (s:={ s with toks:=s.toks+1 }) (PySem.W.looks_clsIn X hc) ?_))))));rw [hd'];refine ve (a:=some dx) (va (ve (va ?_)));refine wpAny_nsSet1 (s:={ s with toks:=s.toks+1 }) I.ns fun h' hn2 hs2=>?_
 obtain ⟨oD,esD,epD,hoD,hdD,hcD⟩:=hn2.count (PySem.Within.cons name v hw);refine va (wpAny_lookBehind hoD (by rw [hdD];exact pastItsLine_dict (kD hcD (by rw [kX];lia))) ?_);exact ve (h _ ⟨(hs2.2 _ (Ne.symm I.ne)).trans I.obj,hn2,I.ne⟩ hs2)
theorem z4Z {R:Result->Shared->Prop} {vs:List Value} {kw:List (Str × Value)} (X:K.In s.heap) (hm:PySem.W.makesIn K C=true)
  (hi:PySem.W.findIn K (.ref C) "__init__"=some (some (.ref f))) (hf:PySem.W.typeIn K (.ref f)=some (.type "function"))
  (h:codeAny (model prog w) (A.under (.builtin "type.__call__" ⟨.ref C :: vs,kw⟩)) (.call (.ref f) ⟨.ref (s.heap.objs.size+1) :: vs,kw⟩) (PySem.W.InitBack (s.heap.objs.size+1) R)
   { s with heap:=(s.heap.push PySem.W.emptyDict).push (PySem.W.instObj C s.heap.objs.size) }):
  codeAny (model prog w) A (.call (.ref C) ⟨vs,kw⟩) R s:=by
 obtain ⟨hh,g,d,t,os⟩:=s;exact PySem.W.make_core (PySem.W.makes_of X hm) (PySem.W.looks_findIn X hi) (fun self=>PySem.W.bind_fn X self hf) (.inl rfl) h
end
noncomputable def putF (f:Str) (v:V):List (Str × V)->List (Str × V)
 | []=>[(f,v)]
 | (g,x) :: r=>if g=f then (g,v) :: r else (g,x) :: putF f v r
theorem J2 (f g:Str) (v:V):∀fs:List (Str × V),(putF f v fs).lookup g=if g=f then some v else fs.lookup g
 | []=>by
  show List.lookup g [(f,v)]=_;by_cases h:g=f
  ·have hb:(g == f)=true:=beq_iff_eq.mpr h;simp only [List.lookup,hb,kG h]
  ·have hb:(g == f)=false:=beq_eq_false_iff_ne.mpr h;simp only [List.lookup,hb,kF h]
 | (k,x) :: r=>by
  have ih:=J2 f g v r;rw [show putF f v ((k,x) :: r)=(if k=f then (k,v) :: r else (k,x) :: putF f v r) from rfl];by_cases hk:k=f
  ·rw [kG hk];by_cases h:g=k
   ·have hb:(g == k)=true:=beq_iff_eq.mpr h;simp only [List.lookup,hb,kG (h.trans hk)]
   ·have hb:(g == k)=false:=beq_eq_false_iff_ne.mpr h;simp only [List.lookup,hb,kF (fun e:g=f=>h (e.trans hk.symm))]
  ·rw [kF hk];by_cases h:g=k
   ·have hb:(g == k)=true:=beq_iff_eq.mpr h;simp only [List.lookup,hb,kF (fun e:g=f=>hk (h.symm.trans e))]
   ·have hb:(g == k)=false:=beq_eq_false_iff_ne.mpr h;simp only [List.lookup,hb];exact ih
theorem J6 (f:Str) (v:V):∀fs:List (Str × V),f∈(putF f v fs).map (·.1)/\∀g,g∈fs.map (·.1)->g∈(putF f v fs).map (·.1)
 | []=>⟨by simp [putF],fun g h=>by simp at h⟩
 | (k,x) :: r=>by
  obtain ⟨i1,i2⟩:=J6 f v r;rw [show putF f v ((k,x) :: r)=(if k=f then (k,v) :: r else (k,x) :: putF f v r) from rfl];by_cases hk:k=f
  ·rw [kG hk];subst hk;exact ⟨by simp,fun g h=>by simpa using h⟩
  ·rw [kF hk];refine ⟨?_,fun g h=>?_⟩
   ·rw [yb];exact kZ _ i1
   ·rw [yb] at h ⊢
    rcases kJ.mp h with e | e
    ·exact kJ.mpr (.inl e)
    ·exact kZ _ (i2 g e)
theorem J4 (f:Str) (v:V):∀fs:List (Str × V),(putF f v fs).length<=fs.length+1
 | []=>by simp [putF]
 | (k,x) :: r=>by
  have ih:=J4 f v r;rw [show putF f v ((k,x) :: r)=(if k=f then (k,v) :: r else (k,x) :: putF f v r) from rfl];by_cases hk:k=f
  ·rw [kG hk,kX,kX];lia
  ·rw [kF hk,kX,kX];lia
theorem RelO.some_of {v:V} {o:Option Value} (r:RelO (some v) o):∃u,o=some u/\RelV v u:=by
 cases o with
 | none=>exact (show False from r).elim
 | some u=>exact ⟨u,rfl,r⟩
theorem RelO.none_of {o:Option Value} (r:RelO none o):o=none:=by
 cases o with
 | none=>rfl
 | some u=>exact (show False from r).elim
theorem z3I {v:V} {u:Value} (r:RelV v u):PySem.W.handedIn u=true:=by
 cases v with
 | non=>cases (show u=Value.none from r);rfl
 | bl b=>cases (show u=Value.bool b from r);rfl
 | int i=>obtain ⟨t,e⟩:=(show ∃t,u=Value.int i t from r);cases e;rfl
 | str x=>obtain ⟨t,e⟩:=(show ∃t,u=Value.str x t from r);cases e;rfl
 | byt b=>obtain ⟨t,e⟩:=(show ∃t,u=Value.bytes b t from r);cases e;rfl
 | flt b=>obtain ⟨t,e⟩:=(show ∃t,u=Value.float b t from r);cases e;rfl
 | ref a=>cases (show u=Value.ref a from r);rfl
 | ty n=>cases (show u=Value.type n from r);rfl
section
variable {P:Program} {w:World} {H H':Hp} {h h':Heap} {a C dx:Addr} {fs fs':List (Str × V)}
theorem JW (hok:HOk P w H h) (e:H a=some (.ins C dx fs)):∃mA,ObjM h a dx C mA/\(∀f,RelO (fs.lookup f) (mA f))/\PySem.Within mA (fs.map (·.1))/\fs.length<=1000/\H dx=some (.own a):=by
 obtain ⟨d,z,ne,ob,mA,n,r,q⟩:=(show qK P w H h a (.ins C dx fs) from hok a _ e)
 exact ⟨mA,⟨ob,n,ne⟩,r,q,z,d⟩
end
structure Cls (K:kE) (C:Addr):Prop where
 pg:PySem.W.plainGet K C Str.empty=true
 hd:PySem.W.hasDictIn K C=true
 po:PySem.W.plainOver K C=true
 sa:PySem.W.findIn K (.ref C) "__setattr__"=some (some (.builtin "object.__setattr__"))
theorem Cls.get {K:kE} {C:Addr} (c:Cls K C) (f:Str):PySem.W.plainGet K C f=true:=c.pg
def jt (K:kE) (C:Addr) (f:Str):Prop:=PySem.W.findIn K (.ref C) f=some none
theorem jt.taker {K:kE} {C:Addr} {f:Str} (n:jt K C f):PySem.W.takerIn K C f=some none:=by
 unfold PySem.W.takerIn;rw [show PySem.W.findIn K (.ref C) f=some none from n];rfl
structure Meth (K:kE) (C:Addr) (m:Str) (f:Addr):Prop where
 at_:PySem.W.findIn K (.ref C) m=some (some (.ref f))
 fn:PySem.W.isFn K (.ref f)=true
 kp:PySem.W.keepIn K (.ref f)=true
section
variable {X:Cx} {vX:List (Addr × Obj)} {σ:St} {H:Hp} {s:Shared} {a C dx:Addr} {fs:List (Str × V)} {f:Str} {v:V} {A:Around} {E:Value->Shared->Prop}
theorem z2x {b:Bool} {Q:Value->Shared->Prop} (I:Inv X vX σ H s) (e:H a=some (.ins C dx fs)) (c:Cls X.K C) (n:jt X.K C f) (l:fs.lookup f=some v)
  (h:∀u s',Inv X vX σ H s'->RelV v u->Q u s'):wpAny (model X.prog X.w) A (getAttr (.ref a) f b) Q E s:=by
 obtain ⟨mA,O,r,_,_,_⟩:=JW I.hok e;obtain ⟨u,hu,ru⟩:=RelO.some_of (v:=v) (o:=mA f) (by rw [<-l];exact r f);exact z7c I.kIn O (c.get f) c.hd n hu (z3I ru) (h u _ (I.tok _) ru)
theorem Jp {m:Str} {g:Addr} {pl:Sem Bool} {Q:Value × List Value->Shared->Prop} (I:Inv X vX σ H s) (e:H a=some (.ins C dx fs)) (c:Cls X.K C) (k:Meth X.K C m g) (l:fs.lookup m=none)
  (h:Q (.ref g,[.ref a]) s):wpAny (model X.prog X.w) A (getMethod (.ref a) m pl) Q E s:=by
 obtain ⟨mA,O,r,_,_,_⟩:=JW I.hok e;have hn:mA m=none:=RelO.none_of (by rw [<-l];exact r m);exact z5d I.kIn O (c.get m) k.at_ k.fn hn h
theorem z2b {y:V} {u:Value} {Q:Unit->Shared->Prop} (I:Inv X vX σ H s) (e:H a=some (.ins C dx fs)) (c:Cls X.K C) (n:jt X.K C f) (hl:fs.length < 1000) (ry:RelV y u)
  (h:∀s',Inv X vX σ (upd H a (.ins C dx (putF f y fs))) s'->Q () s'):wpAny (model X.prog X.w) A (setAttr (.ref a) f u) Q E s:=by
 obtain ⟨mA,O,r,wi,_,ho⟩:=JW I.hok e;have hz:(fs.map (·.1)).length<=sizeLine:=by rw [kq,sizeLine_eq];lia
 refine z6K I.kIn O c.sa c.po n.taker c.hd wi hz fun h' O' sb=>h _ ?_
 have hd:∃o,h'.get? dx=some o:=let ⟨o,_,_,e',_⟩:=O'.ns;⟨o,e'⟩;refine I.write (x:=a) (e:=dx) (by rw [e];exact True.intro) (.inr ho) (fun b q hb z=>(sb.2 b hb).trans z) hd ?_;refine ⟨by rw [zj O.ne];exact ho,?_,O.ne,O'.obj,_,O'.ns,fun g=>?_,fun g hg=>?_⟩
 ·have:=J4 f y fs;lia
 ·show RelO ((putF f y fs).lookup g) (if g=f then some u else mA g);rw [J2];by_cases q:g=f
  ·rw [kG q,kG q];exact ry
  ·rw [kF q,kF q];exact r g
 ·by_cases q:g=f
  ·rw [q];exact (J6 f y fs).1
  ·refine (J6 f y fs).2 g (wi g fun z=>hg ?_);show (if g=f then some u else mA g)=none;rw [kF q];exact z
theorem Inv.made (I:Inv X vX σ H s):Inv X vX σ (upd (upd H s.heap.objs.size (.own (s.heap.objs.size+1))) (s.heap.objs.size+1) (.ins C s.heap.objs.size []))
  { s with heap:=(s.heap.push PySem.W.emptyDict).push (PySem.W.instObj C s.heap.objs.size) }:=by
 have e1:(s.heap.push PySem.W.emptyDict).get? s.heap.objs.size=some PySem.W.emptyDict:=vg s.heap rfl;have e2:((s.heap.push PySem.W.emptyDict).push (PySem.W.instObj C s.heap.objs.size)).get? (s.heap.objs.size+1)=some (PySem.W.instObj C s.heap.objs.size):=by
  have:=vg (s.heap.push PySem.W.emptyDict) (o:=PySem.W.instObj C s.heap.objs.size) rfl
  rwa [Heap.size_push] at this
 have e3:(s.heap.push PySem.W.emptyDict).Ns s.heap.objs.size (fun _=>none):=⟨PySem.W.emptyDict,#[],_,e1,rfl,(fun e he=>vd he (by simp)),fun _=>rfl⟩
 have I1:=I.laid (a:=s.heap.objs.size) (o:=.own (s.heap.objs.size+1)) (h':=s.heap.push PySem.W.emptyDict) (t':=s.toks) (fun b u q=>vb _ q) (ki _) ⟨_,e1⟩;refine I1.laid (a:=s.heap.objs.size+1) (o:=.ins C s.heap.objs.size []) (t':=s.toks) (fun b u q=>vb _ q) (ye (Heap.size_push _ _)) ?_;have ne:s.heap.objs.size≠s.heap.objs.size+1:=vm (yh _);refine ⟨by rw [zj ne,zc],vi _,ne,e2,fun _=>none,(Heap.Ns1.of_empty e3).at fun o q=>vb _ q,fun _=>True.intro,fun y hy=>vd rfl hy⟩
theorem z7Y {prog:Program} {w:World} {env:Env} {e:Expr} {f:Str} {pos:Pos} {s:Shared} {Q:Value->Shared->Prop} (hb:attributeBase e f env (eval e env)=eval e env)
  (h:wpAny (model prog w) A (eval e env) (fun o s₁=>wpAny (model prog w) A (getAttr o f true) Q E s₁) E s):wpAny (model prog w) A (eval (.Attribute e f pos) env) Q E s:=
 Attribute_any_ h (by rw [arm_eval_Attribute,hb])
end
def tFld (K:kE) (ta:TE) (f:Str):TE:=fun σ H Q=>ta σ H fun x H1=>∃a C dx fs v,x=.ref a/\H1 a=some (.ins C dx fs)/\Cls K C/\jt K C f/\fs.lookup f=some v/\Q v H1
def sFld (K:kE) (ta tv:TE) (f:Str):TS:=fun D σ H=>tv σ H fun y H1=>ta σ H1 fun x H2=>∃a C dx fs,x=.ref a/\H2 a=some (.ins C dx fs)/\Cls K C/\jt K C f/\fs.length < 1000/\
 D.nx σ (upd H2 a (.ins C dx (putF f y fs)))
section
variable {X:Cx} {o e value:Expr} {f:Str} {pos pos' tpos:Pos} {ta tv:TE}
theorem zV (he:PE X e ta) (hb:attributeBase e f X.env (eval e X.env)=eval e X.env):PE X (.Attribute e f pos) (tFld X.K ta f):=by
 intro vX s σ H Q I h;refine z7Y hb (thn (he vX s σ H _ I h) fun u s1 zz=>?_);obtain ⟨x,H1,I1,rx,a,C,dx,fs,v,ex,ea,c,n,l,q⟩:=zz;subst ex;obtain rfl:u=Value.ref a:=rx;exact z2x I1 ea c n l fun u' s2 I2 ru=>⟨v,H1,I2,ru,q⟩
theorem jp (ha:PE X o ta) (hv:PE X value tv) (hs:swapsWith value (some (.Attribute o f pos')) pos.line X.env=pure false):PS X (.Assign [.Attribute o f pos'] value pos) (sFld X.K ta tv f):=by
 intro vX s σ H D I h;refine plainObj_wpAny_Assign_Attribute (thn (hv vX s σ H _ I h) fun u s1 ⟨y,H1,I1,ry,q⟩=>thn (ha vX s1 σ H1 _ I1 q) fun ov s2 ⟨x,H2,I2,rx,a,C,dx,fs,ex,ea,c,n,l,q2⟩=>?_) hs;subst ex;obtain rfl:ov=Value.ref a:=rx;exact z2b I2 ea c n l ry fun s3 I3=>⟨σ,_,I3,q2⟩
end
section
variable {X:Cx} {vX:List (Addr × Obj)} {σ:St} {H:Hp} {s:Shared} {A:Around} {E:Value->Shared->Prop} {Q:Value->Shared->Prop} {c:Value} {b:Bool}
inductive TyOf (K:kE) (H:Hp):V->Value->Prop where
 | non:TyOf K H .non (.type "NoneType")
 | bl (x:Bool):TyOf K H (.bl x) (.type "bool")
 | int (i:Int):TyOf K H (.int i) (.type "int")
 | str (x:Str):TyOf K H (.str x) (.type "str")
 | flt (x:UInt64):TyOf K H (.flt x) (.type "float")
 | lst {a:Addr} {xs:List V} (e:H a=some (.lst xs)):TyOf K H (.ref a) (.type "list")
 | frz {a:Addr} {o:Obj} {xs:List V} (e:H a=some (.frz o (.lst xs))):TyOf K H (.ref a) (.type "list")
 | tup {a:Addr} {xs:List V} (e:H a=some (.tup xs)):TyOf K H (.ref a) (.type "tuple")
 | dK {a:Addr} {kvs:List (Key × V)} (e:H a=some (.dK kvs)):TyOf K H (.ref a) (.type "dict")
 | dT {a:Addr} {kvs:List (List Key × V)} (e:H a=some (.dT kvs)):TyOf K H (.ref a) (.type "dict")
 | ins {a C dx:Addr} {fs:List (Str × V)} (e:H a=some (.ins C dx fs)) (cl:Cls K C) (ha:PySem.W.findIn K (.ref C) "__class__"=some (some (.builtin "object.__class__")))
   (hn:PySem.W.specialIn K (.builtin "object.__class__") "__get__"=some (some (.builtin "getset_descriptor.__get__"))) (htk:PySem.W.takesIn K (.builtin "object.__class__")=some true)
   (hm:PySem.W.mroIn K C (.type "object")=some true):TyOf K H (.ref a) (.ref C)
theorem z3E {x:V} {u t:Value} (I:Inv X vX σ H s) (rx:RelV x u) (ty:TyOf X.K H x t) (e:PySem.W.kitOne X.K t c=some b) (h:∀tk,Q (.bool b) { s with toks:=tk }):
  wpAny (model X.prog X.w) A (call (.builtin "isinstance") [u,c]) Q E s:=by
 cases ty with
 | non=>cases (show u=Value.none from rx);exact vv PySem.W.kitx_none I.kIn True.intro e (fun z=>nomatch z) h
 | bl y=>cases (show u=Value.bool y from rx);exact vv PySem.W.kitx_bool I.kIn True.intro e (fun z=>nomatch z) h
 | int i=>obtain ⟨t,q⟩:=(show ∃t,u=Value.int i t from rx);cases q;exact vv PySem.W.kitx_int I.kIn True.intro e (fun z=>nomatch z) h
 | str y=>obtain ⟨t,q⟩:=(show ∃t,u=Value.str y t from rx);cases q;exact vv PySem.W.kitx_str I.kIn True.intro e (fun z=>nomatch z) h
 | flt y=>obtain ⟨t,q⟩:=(show ∃t,u=Value.float y t from rx);cases q;exact vv PySem.W.kitx_float I.kIn True.intro e (fun z=>nomatch z) h
 | @lst a xs ea=>
  cases (show u=Value.ref a from rx);obtain ⟨_,_,n,_,h1⟩:=(show qK X.prog X.w H s.heap a (.lst xs) from I.hok a _ ea)
  exact vv PySem.W.kitx_list I.kIn ⟨_,h1,rfl⟩ e (fun z=>nomatch z) h
 | @frz a ob xs ea=>
  cases (show u=Value.ref a from rx);obtain ⟨_,_,_,n,_,h1⟩:=(show qK X.prog X.w H s.heap a (.frz ob (.lst xs)) from I.hok a _ ea)
  exact vv PySem.W.kitx_list I.kIn ⟨_,h1,rfl⟩ e (fun z=>nomatch z) h
 | @tup a xs ea=>
  cases (show u=Value.ref a from rx);obtain ⟨_,_,_,p⟩:=(show qK X.prog X.w H s.heap a (.tup xs) from I.hok a _ ea)
  obtain ⟨o,h1,h2,_⟩:=p;exact vv PySem.W.kitx_tuple I.kIn ⟨o,h1,h2⟩ e (fun z=>nomatch z) h
 | @dK a kvs ea=>
  cases (show u=Value.ref a from rx);obtain ⟨_,_,vs,_,p⟩:=(show qK X.prog X.w H s.heap a (.dK kvs) from I.hok a _ ea)
  obtain ⟨o,es,ep,h1,h2,_⟩:=p;exact vv PySem.W.kitx_dict I.kIn ⟨o,h1,h2.1⟩ e (fun z=>nomatch z) h
 | @dT a kvs ea=>
  cases (show u=Value.ref a from rx);obtain ⟨_,_,xs,_,o,es,ep,h1,h2,_⟩:=(show qK X.prog X.w H s.heap a (.dT kvs) from I.hok a _ ea)
  exact vv PySem.W.kitx_dict I.kIn ⟨o,h1,h2.1⟩ e (fun z=>nomatch z) h
 | @ins a C dx fs ea cl ha hn htk hm=>
  cases (show u=Value.ref a from rx);obtain ⟨mA,O,_⟩:=JW I.hok ea;obtain ⟨od,J,_⟩:=O.look;exact vv (PySem.W.kitx_own (cl.get _) cl.hd ha hn htk hm) I.kIn J e (fun z=>nomatch z) h
end
end L2
namespace L2
structure Room (k:Nat) (A:Around):Prop where
 hd:A.handled=none
 dp:A.depth+3 * k+5 < recursionLimit
 un:A.units+16 * k+200 < cLine
 gd:A.guards=some []
theorem Room.mono {j k:Nat} {A:Around} (r:Room k A) (h:j<=k):Room j A:=⟨r.hd,by have:=r.dp;lia,by have:=r.un;lia,r.gd⟩
theorem Room.deeper {k:Nat} {A:Around} (r:Room (k+1) A) (env:Env):Room k (A.deeper env):=
 ⟨r.hd,by have:=r.dp;show A.depth+1+3 * k+5 < _;lia,by have:=r.un;show A.units+3+16 * k+200 < _;lia,r.gd⟩
theorem z2p {A:Around} {C:Addr} {us:List Value} {kw:List (Str × Value)}:(A.under (.builtin "type.__call__" ⟨.ref C :: us,kw⟩)).depth=A.depth+1:=by
 first | rfl | simp [Around.under,Code.weight,Code.isCreation,Code.isGuard,Code.isCaller,Code.frames,Code.isFrame,guardIds]
theorem z2o {A:Around} {C:Addr} {us:List Value} {kw:List (Str × Value)}:(A.under (.builtin "type.__call__" ⟨.ref C :: us,kw⟩)).units=A.units+1:=by
 first | rfl | simp [Around.under,Code.cUnits,Code.frames,Code.isFrame]
theorem z1k {A:Around} {C:Addr} {us:List Value} {kw:List (Str × Value)}:(A.under (.builtin "type.__call__" ⟨.ref C :: us,kw⟩)).guards=A.guards:=by
 first | rfl | simp [Around.under,Code.isGuard,guardIds,pushGuard]
theorem Room.make {k:Nat} {A:Around} (r:Room (k+1) A) (C:Addr) (us:List Value) (kw:List (Str × Value)):Room k (A.under (.builtin "type.__call__" ⟨.ref C :: us,kw⟩)):=
 ⟨r.hd,by have:=r.dp;rw [z2p];lia,by have:=r.un;rw [z2o];lia,by rw [z1k];exact r.gd⟩
theorem Room.depth {k:Nat} {A:Around} (r:Room k A):A.depth < recursionLimit:=by have:=r.dp;lia
theorem Room.units {k:Nat} {A:Around} (r:Room k A):A.units+64 < cLine:=by have:=r.un;lia
theorem Room.units0 {k:Nat} {A:Around} (r:Room k A):A.units < cLine:=by have:=r.un;lia
abbrev tNil:TA:=fun _ H Q=>Q [] H
abbrev jl (ta:TE) (tr:TA):TA:=fun σ H Q=>ta σ H fun x H1=>tr σ H1 fun xs H2=>Q (x :: xs) H2
section
variable {X:Cx} {e:Expr} {es:List Expr} {te:TE} {t:TA} {pos:Pos}
theorem z7:PA X [] tNil:=fun _ _ _ _ H Q I h=>Calls.spliced_nil ⟨[],H,I,.nil,h⟩
theorem z6 (ha:PE X e te) (hr:PA X es t) (hs:autoParam (starEach (e :: es) X.env=(false,eval e X.env) :: starEach es X.env) aR._auto_1):PA X (e :: es) (jl te t):=by
 intro pos vX s σ H Q I h;rw [hs];show wpAny _ _ (spliced ((false,eval e X.env) :: backTo pos (starEach es X.env))) _ _ s;refine vK (thn (ha vX s σ H _ I h) fun u s1 zz=>?_);obtain ⟨x,H1,I1,r1,q1⟩:=zz;exact thn (hr pos vX s1 σ H1 _ I1 q1) fun us s2 ⟨xs,H2,I2,r2,q2⟩=>⟨x :: xs,H2,I2,.cons r1 r2,q2⟩
def tTup (t:TA):TE:=fun σ H Q=>t σ H fun xs H1=>xs.length<=sizeLine/\∀p,H1 p=none->Q (.ref p) (upd H1 p (.tup xs))
def tLst (t:TA):TE:=fun σ H Q=>t σ H fun xs H1=>xs.length<=sizeLine/\∀p,H1 p=none->Q (.ref p) (upd H1 p (.lst xs))
theorem qb {x1} (h:PA X es t):PE X (.Tuple es x1 pos) (tTup t):=by
 intro vX s σ H Q I hq;refine wpAny_Tuple_spliced (thn (h pos vX s σ H _ I hq) fun us s1 ⟨xs,H1,I1,r,z,q⟩=>⟨by rw [<-r.length];exact z,?_⟩);have hf:H1 s1.heap.objs.size=none:=I1.hok.fresh (ki _);refine ⟨.ref s1.heap.objs.size,upd H1 s1.heap.objs.size (.tup xs),I1.laid (t':=s1.toks) (fun b u e=>vb _ e) (ki _) ?_,rfl,q _ hf⟩;exact ⟨z,us,r,⟨_,vg _ rfl,rfl,_,rfl⟩⟩
theorem qe (h:PA X es t):PE X (.List es pos) (tLst t):=by
 intro vX s σ H Q I hq;refine wpAny_List_spliced (thn (h pos vX s σ H _ I hq) fun us s1 ⟨xs,H1,I1,r,z,q⟩=>⟨by rw [<-r.length];exact z,?_⟩);have hf:H1 s1.heap.objs.size=none:=I1.hok.fresh (ki _);refine ⟨.ref s1.heap.objs.size,upd H1 s1.heap.objs.size (.lst xs),I1.laid (t':=s1.toks) (fun b u e=>vb _ e) (ki _) ?_,rfl,q _ hf⟩;exact ⟨z,us,0,r,vg _ rfl⟩
end
abbrev Sp:=List V->Hp->VK->XK->Prop
abbrev CXT:=List Env->Hp->Shared->XK->Value->Shared->Prop
structure Env0 (P:Program) (w:World) (K:kE) (mg:Str->Option Value) (base:Heap) (A:Around) (vY:List Env) (s:Shared) (H:Hp):Prop where
 frames:A.frames=some vY
 mod:Mod K mg base
 bs:∀b o,base.get? b=some o->s.heap.get? b=some o/\H b=none
 bsz:base.objs.size<=s.heap.objs.size
 funs:s.heap.FunFrames base vY
 frf:∀b∈frs vY,H b=none
 hok:HOk P w H s.heap
 bare:AllBare s.gens
def CE (vY:List Env) (P:Program) (w:World) (H:Hp) (s:Shared) (Q:VK) (u:Value) (s':Shared):Prop:=
 ∃v H',s'.os=s.os/\AllBare s'.gens/\Un (frs vY) [] H H' s.heap s'.heap/\HOk P w H' s'.heap/\RelV v u/\Q v H'
def CR (CX:CXT) (vY:List Env) (P:Program) (w:World) (H:Hp) (s:Shared) (Q:VK) (E:XK) (r:Result) (s':Shared):Prop:=
 match r with
 | .ok (.ret u)=>CE vY P w H s Q u s'
 | .ok _=>False
 | .error e=>CX vY H s E e s'
structure FnOk (P:Program) (w:World) (K:kE) (mg:Str->Option Value) (base:Heap) (CX:CXT) (k:Nat) (f:Addr) (fd:FuncData) (ps:List Str) (sp:Sp):Prop where
 len:∀vs H Q E,sp vs H Q E->vs.length=ps.length
 run:∀(A:Around) (vY:List Env) (s:Shared) (H:Hp) (args:Args) (us:List Value) (vs:List V) (Q:VK) (E:XK),Room k A->Env0 P w K mg base A vY s H->BindsTo s fd args (ps.zip us)->Vals vs us->sp vs H Q E->
  codeAny (model P w) A (.call (.ref f) args) (CR CX vY P w H s Q E) s
theorem FnOk.mono {P:Program} {w:World} {K:kE} {mg:Str->Option Value} {base:Heap} {CX:CXT} {j k:Nat} {f:Addr} {fd:FuncData} {ps:List Str} {sp:Sp} (F:FnOk P w K mg base CX j f fd ps sp) (h:j<=k):
  FnOk P w K mg base CX k f fd ps sp:=⟨F.len,fun A vY s H args us vs Q E hr=>F.run A vY s H args us vs Q E (hr.mono h)⟩
theorem FnOk.imp {P:Program} {w:World} {K:kE} {mg:Str->Option Value} {base:Heap} {CX:CXT} {k:Nat} {f:Addr} {fd:FuncData} {ps:List Str} {sp sp':Sp} (F:FnOk P w K mg base CX k f fd ps sp)
  (h:∀vs H Q E,sp' vs H Q E->sp vs H Q E):FnOk P w K mg base CX k f fd ps sp':=
 ⟨fun vs H Q E q=>F.len vs H Q E (h _ _ _ _ q),fun A vY s H args us vs Q E hr he hb hv hs=>F.run A vY s H args us vs Q E hr he hb hv (h _ _ _ _ hs)⟩
theorem Env0.make {P:Program} {w:World} {K:kE} {mg:Str->Option Value} {base:Heap} {A:Around} {vY:List Env} {s:Shared} {H:Hp} (e:Env0 P w K mg base A vY s H) (C:Addr) (us:List Value) (kw:List (Str × Value)):
  Env0 P w K mg base (A.under (.builtin "type.__call__" ⟨.ref C :: us,kw⟩)) vY s H:=⟨by first | exact e.frames | (simpa [Around.under,Code.envs,Code.isFrame,pushEnvs] using e.frames),e.mod,e.bs,e.bsz,e.funs,e.frf,e.hok,e.bare⟩
section
variable {X:Cx} {vX:List (Addr × Obj)} {σ:St} {H:Hp} {s s':Shared}
theorem Inv.env0 (I:Inv X vX σ H s):Env0 X.prog X.w X.K X.mg X.base X.A X.stack s H:=
 ⟨I.ok.frames,I.ok.mod,I.bs,kD I.ok.bsz I.sz,I.stack,I.stkFree,I.hok,I.bare⟩
theorem Inv.after {Q:VK} {u:Value} (I:Inv X vX σ H s) (h:CE X.stack X.prog X.w H s Q u s'):EP X vX σ Q u s':=by
 obtain ⟨v,H',os,bare,un,hok,r,q⟩:=h;obtain ⟨hh,g,d,t,os'⟩:=s';obtain rfl:os'=s.os:=os;exact ⟨v,H',I.call (h':=hh) (g':=g) (d':=d) (t':=t) (ch:=[]) un hok bare (fun b z=>vd z (by simp)),r,q⟩
end
abbrev z2Q (sp:Sp) (dvs:List V) (E:XK) (t:TA):TE:=fun σ H Q=>t σ H fun vs H1=>sp (vs++dvs) H1 Q E
def z4y (C:Addr) (m:Str) (sp:Sp) (dvs:List V) (E:XK) (ta:TE) (t:TA):TE:=fun σ H Q=>ta σ H fun x H1=>∃a dx fs,x=.ref a/\H1 a=some (.ins C dx fs)/\fs.lookup m=none/\
 t σ H1 fun vs H2=>sp (x :: (vs++dvs)) H2 Q E
def z8d (C:Addr) (sp:Sp) (dvs:List V) (E:XK) (t:TA):TE:=fun σ H Q=>t σ H fun vs H1=>∀x dx,H1 x=none->H1 dx=none->dx≠x->
 sp (.ref x :: (vs++dvs)) (upd (upd H1 dx (.own x)) x (.ins C dx [])) (fun v H2=>v=.non/\Q (.ref x) H2) E
def Zy (K:kE) (fd:FuncData) (ps:List Str) (ds:List Value):Prop:=
 ∀(s:Shared) (us:List Value),K.In s.heap->(us++ds).length=ps.length->BindsTo s fd ⟨us,[]⟩ (ps.zip (us++ds))
theorem Zy.all {K:kE} {fd:FuncData} {ps:List Str} (h:∀us:List Value,us.length=ps.length->bindArgs fd ⟨us,[]⟩=pure (ps.zip us)):Zy K fd ps []:=fun s us _ hl=>by
 rw [yc] at hl ⊢
 exact .of_eq (h us hl)
def Qc (CX:CXT) (X:Cx) (E:XK):Prop:=∀(vX:List (Addr × Obj)) (σ:St) (H:Hp) (s:Shared) (e:Value) (s':Shared),Inv X vX σ H s->CX X.stack H s E e s'->X.xe e s'
section
variable {X:Cx} {CX:CXT} {k:Nat} {f C:Addr} {fd:FuncData} {ps:List Str} {sp:Sp} {dvs:List V} {ds:List Value} {E:XK} {x m:Str} {p pos apos:Pos} {e o:Expr} {es:List Expr} {ta:TE} {t:TA}
theorem z1E {vX:List (Addr × Obj)} {σ:St} {H:Hp} {s:Shared} {Q:VK} {us:List Value} {vs:List V} (F:FnOk X.prog X.w X.K X.mg X.base CX k f fd ps sp) (hr:Room k X.A) (hb:Zy X.K fd ps ds) (hd:Vals dvs ds) (hx:Qc CX X E)
  (I:Inv X vX σ H s) (r:Vals vs us) (h:sp (vs++dvs) H Q E):wpAny (model X.prog X.w) X.A (call (.ref f) us) (EP X vX σ Q) X.xe s:=by
 have r2:Vals (vs++dvs) (us++ds):=r.append hd;have hl:(us++ds).length=ps.length:=by rw [<-r2.length];exact F.len _ _ _ _ h
 refine wpAny_call (codeAny_mono (F.run X.A X.stack s H ⟨us,[]⟩ (us++ds) (vs++dvs) Q E hr I.env0 (hb s us I.kIn hl) r2 h) fun r s' hq=>?_);cases r with
 | error e=>exact hx vX σ H s e s' I hq
 | ok fl=>
  cases fl with
  | ret u=>exact I.after hq
  | next=>exact False.elim hq
  | brk=>exact False.elim hq
  | cont=>exact False.elim hq
theorem z1h (F:FnOk X.prog X.w X.K X.mg X.base CX k f fd ps sp) (hr:Room k X.A) (hg:Gl X x) (hm:X.mg x=some (.ref f)) (hk:PySem.W.keepIn X.K (.ref f)=true) (hb:Zy X.K fd ps ds) (hd:Vals dvs ds) (hx:Qc CX X E)
  (ha:PA X (e :: es) t) (hdb:autoParam ((x == ("__debug__":Str))=false) aR._auto_2) (he:autoParam (starEach (e :: es) X.env=(false,eval e X.env) :: starEach es X.env) aR._auto_1) (hpl:autoParam ((backTo pos (starEach es X.env)).any (·.1)=false) aR._auto_1):
  PE X (.Call (.Name x p) (e :: es) [] pos) (z2Q sp dvs E t):=by
 intro vX s σ H Q I h;refine vP (ZM I hg hm ?_ hdb);refine PySem.W.callWith_K (h₀:=X.base) I.ok.mod.kin hk (thn (ha pos vX s σ H _ I h) fun us s1 ⟨vs,H1,I1,r,q⟩=>⟨I1.kIn,?_⟩) he hpl;exact z1E F hr hb hd hx I1 r q
theorem z6U {pl:Sem Bool} (he:PE X o ta) (c:Cls X.K C) (hm:Meth X.K C m f) (F:FnOk X.prog X.w X.K X.mg X.base CX k f fd ps sp) (hr:Room k X.A) (hb:Zy X.K fd ps ds) (hd:Vals dvs ds) (hx:Qc CX X E) (ha:PA X (e :: es) t)
  (hst:autoParam (starEach (e :: es) X.env=(false,eval e X.env) :: starEach es X.env) aR._auto_1) (hpl:autoParam ((backTo pos (starEach es X.env)).any (·.1)=false) aR._auto_1)
  (ht:autoParam (eval (.Call (.Attribute o m apos) (e :: es) [] pos) X.env=(do
   let ov <-eval o X.env
   standAt apos.atName
   let (f,first) <-holding [ov] (getMethod ov m pl)
   callWith pos f first (backTo pos (starEach (e :: es) X.env)) (backToKw pos (keywordEach [] X.env)))) aR._auto_1):
  PE X (.Call (.Attribute o m apos) (e :: es) [] pos) (z4y C m sp dvs E ta t):=by
 intro vX s σ H Q I h;refine PySem.W.methodCall_KW (pl:=pl) (thn (he vX s σ H _ I h) fun u s1 ⟨x,H1,I1,rx,a,dx,fs,ex,ea,l,q⟩=>?_) ht;subst ex;obtain rfl:u=Value.ref a:=rx;refine Jp I1 ea c hm l ?_;refine PySem.W.callWith_K (first:=[.ref a]) (h₀:=X.base) I.ok.mod.kin hm.kp (thn (ha pos vX s1 σ H1 _ I1 q) fun us s2 ⟨vs,H2,I2,r,q2⟩=>⟨I2.kIn,?_⟩) hst hpl;exact z1E (us:=.ref a :: us) (vs:=.ref a :: vs) F hr hb hd hx I2 (.cons rfl r) q2
theorem z4M {pl:Sem Bool} (he:PE X o ta) (c:Cls X.K C) (hm:Meth X.K C m f) (F:FnOk X.prog X.w X.K X.mg X.base CX k f fd ps sp) (hr:Room k X.A) (hb:Zy X.K fd ps ds) (hd:Vals dvs ds) (hx:Qc CX X E)
  (ht:autoParam (eval (.Call (.Attribute o m apos) [] [] pos) X.env=(do
   let ov <-eval o X.env
   standAt apos.atName
   let (f,first) <-holding [ov] (getMethod ov m pl)
   callWith pos f first (backTo pos (starEach [] X.env)) (backToKw pos (keywordEach [] X.env)))) aR._auto_1):
  PE X (.Call (.Attribute o m apos) [] [] pos) (z4y C m sp dvs E ta tNil):=by
 intro vX s σ H Q I h;refine PySem.W.methodCall_KW (pl:=pl) (thn (he vX s σ H _ I h) fun u s1 ⟨x,H1,I1,rx,a,dx,fs,ex,ea,l,q⟩=>?_) ht;subst ex;obtain rfl:u=Value.ref a:=rx;refine Jp I1 ea c hm l ?_;exact PySem.W.callWith_K0 (first:=[.ref a]) I1.kIn hm.kp (z1E (us:=[.ref a]) (vs:=[.ref a]) F hr hb hd hx I1 (.cons rfl .nil) q)
structure Mk (K:kE) (C f:Addr):Prop where
 makes:PySem.W.makesIn K C=true
 init:PySem.W.findIn K (.ref C) "__init__"=some (some (.ref f))
 fn:PySem.W.isFn K (.ref f)=true
 kp:PySem.W.keepIn K (.ref C)=true
theorem z4E {vX:List (Addr × Obj)} {σ:St} {H:Hp} {s:Shared} {Q:VK} {us:List Value} {vs:List V} (M:Mk X.K C f) (F:FnOk X.prog X.w X.K X.mg X.base CX k f fd ps sp) (hr:Room (k+1) X.A) (hb:Zy X.K fd ps ds) (hd:Vals dvs ds)
  (hx:Qc CX X E) (I:Inv X vX σ H s) (r:Vals vs us)
  (h:∀x dx,H x=none->H dx=none->dx≠x->sp (.ref x :: (vs++dvs)) (upd (upd H dx (.own x)) x (.ins C dx [])) (fun v H2=>v=.non/\Q (.ref x) H2) E):
  wpAny (model X.prog X.w) X.A (call (.ref C) us) (EP X vX σ Q) X.xe s:=by
 have hq:=h (s.heap.objs.size+1) s.heap.objs.size (I.hok.fresh (Nat.le_succ _)) (I.hok.fresh (ki _)) (vm (yh _));have I2:=Inv.made (C:=C) I;have r2:Vals (V.ref (s.heap.objs.size+1) :: (vs++dvs)) (Value.ref (s.heap.objs.size+1) :: (us++ds)):=.cons rfl (r.append hd);have hl:(Value.ref (s.heap.objs.size+1) :: us++ds).length=ps.length:=by
  have e:=r2.length;rw [F.len _ _ _ _ hq] at e;exact e.symm
 refine wpAny_call (z4Z (f:=f) I.kIn M.makes M.init (beq_iff_eq.mp M.fn) (codeAny_mono (F.run _ X.stack _ _ ⟨Value.ref (s.heap.objs.size+1) :: us,[]⟩ (Value.ref (s.heap.objs.size+1) :: (us++ds)) _ _ E (hr.make C us [])
  (I2.env0.make C us []) (hb _ (Value.ref (s.heap.objs.size+1) :: us) I2.kIn hl) r2 hq) fun r s' hq'=>?_))
 cases r with
 | error e=>exact hx vX σ _ _ e s' I2 hq'
 | ok fl=>
  cases fl with
  | ret u=>
   obtain ⟨v,H',I3,rv,ev,q3⟩:=I2.after hq';subst ev;exact ⟨rv,⟨V.ref (s.heap.objs.size+1),H',I3,rfl,q3⟩⟩
  | next=>exact False.elim hq'
  | brk=>exact False.elim hq'
  | cont=>exact False.elim hq'
theorem z6V (M:Mk X.K C f) (F:FnOk X.prog X.w X.K X.mg X.base CX k f fd ps sp) (hr:Room (k+1) X.A) (hg:Gl X x) (hm:X.mg x=some (.ref C)) (hb:Zy X.K fd ps ds) (hd:Vals dvs ds) (hx:Qc CX X E)
  (ha:PA X (e :: es) t) (hdb:autoParam ((x == ("__debug__":Str))=false) aR._auto_2) (he:autoParam (starEach (e :: es) X.env=(false,eval e X.env) :: starEach es X.env) aR._auto_1) (hpl:autoParam ((backTo pos (starEach es X.env)).any (·.1)=false) aR._auto_1):
  PE X (.Call (.Name x p) (e :: es) [] pos) (z8d C sp dvs E t):=by
 intro vX s σ H Q I h;refine vP (ZM I hg hm ?_ hdb);refine PySem.W.callWith_K (h₀:=X.base) I.ok.mod.kin M.kp (thn (ha pos vX s σ H _ I h) fun us s1 ⟨vs,H1,I1,r,q⟩=>⟨I1.kIn,?_⟩) he hpl;exact z4E M F hr hb hd hx I1 r q
end
def PK (X:Cx) (kws:List Keyword) (t:TA):Prop:=
 ∀(pos:Pos) (vX:List (Addr × Obj)) (s:Shared) (σ:St) (H:Hp) (Q:List V->Hp->Prop),Inv X vX σ H s->t σ H Q->wpAny (model X.prog X.w) X.A (evalAll ((backToKw pos (keywordEach kws X.env)).map (·.2))) (AP X vX σ Q) X.xe s
section
variable {X:Cx} {CX:CXT} {k:Nat} {f C:Addr} {fd:FuncData} {ps ks:List Str} {sp:Sp} {E:XK} {x m:Str} {p pos apos kpos:Pos} {e o:Expr} {es:List Expr} {kws:List Keyword} {te ta:TE} {t tk:TA} {nm:Option Str}
theorem z8H:PK X [] tNil:=fun _ _ _ _ H Q I h=>wpAny_evalAll_nil ⟨[],H,I,.nil,h⟩
theorem z6R (ha:PE X e te) (hr:PK X kws t):PK X (⟨nm,e,kpos⟩ :: kws) (jl te t):=by
 intro pos vX s σ H Q I h;show wpAny _ _ (evalAll ((do let v <-eval e X.env;standAt pos;pure v) :: (backToKw pos (keywordEach kws X.env)).map (·.2))) _ _ s;refine wpAny_evalAll_cons (va (thn (ha vX s σ H _ I h) fun u s1 ⟨x,H1,I1,r1,q1⟩=>va (wpAny_standAt (ve ?_))));exact thn (hr pos vX s1 σ H1 _ I1 q1) fun us s2 ⟨xs,H2,I2,r2,q2⟩=>⟨x :: xs,H2,I2,.cons r1 r2,q2⟩
structure z4o (K:kE) (fd:FuncData) (ps ks:List Str) (g:List Value->List Value->List Value) (gV:List V->List V->List V):Prop where
 to:∀(s:Shared) (us ws:List Value),K.In s.heap->(g us ws).length=ps.length->BindsTo s fd ⟨us,ks.zip ws⟩ (ps.zip (g us ws))
 rel:∀{vs:List V} {us:List Value} {zs:List V} {ws:List Value},Vals vs us->Vals zs ws->Vals (gV vs zs) (g us ws)
def z8m (sp:Sp) (gV:List V->List V->List V) (E:XK) (t tk:TA):TE:=fun σ H Q=>t σ H fun vs H1=>tk σ H1 fun zs H2=>sp (gV vs zs) H2 Q E
variable {g:List Value->List Value->List Value} {gV:List V->List V->List V}
theorem z6O {vX:List (Addr × Obj)} {σ:St} {H:Hp} {s:Shared} {Q:VK} {us ws:List Value} {vs zs:List V} (F:FnOk X.prog X.w X.K X.mg X.base CX k f fd ps sp) (hr:Room k X.A) (hb:z4o X.K fd ps ks g gV) (hx:Qc CX X E)
  (I:Inv X vX σ H s) (r:Vals vs us) (rz:Vals zs ws) (h:sp (gV vs zs) H Q E):wpAny (model X.prog X.w) X.A (call (.ref f) us (ks.zip ws)) (EP X vX σ Q) X.xe s:=by
 have r2:=hb.rel r rz;have hl:(g us ws).length=ps.length:=by rw [<-r2.length];exact F.len _ _ _ _ h
 refine wpAny_call (codeAny_mono (F.run X.A X.stack s H ⟨us,ks.zip ws⟩ (g us ws) (gV vs zs) Q E hr I.env0 (hb.to s us ws I.kIn hl) r2 h) fun r s' hq=>?_);cases r with
 | error e=>exact hx vX σ H s e s' I hq
 | ok fl=>
  cases fl with
  | ret u=>exact I.after hq
  | next=>exact False.elim hq
  | brk=>exact False.elim hq
  | cont=>exact False.elim hq
theorem z4O (F:FnOk X.prog X.w X.K X.mg X.base CX k f fd ps sp) (hr:Room k X.A) (hg:Gl X x) (hm:X.mg x=some (.ref f)) (hk:PySem.W.keepIn X.K (.ref f)=true) (hb:z4o X.K fd ps ks g gV) (hx:Qc CX X E)
  (ha:PA X (e :: es) t) (hkw:PK X kws tk) (hall:autoParam ((backToKw pos (keywordEach kws X.env)).all (·.1.isSome)=true) aR._auto_1) (hks:autoParam ((backToKw pos (keywordEach kws X.env)).filterMap (·.1)=ks) aR._auto_1)
  (hdb:autoParam ((x == ("__debug__":Str))=false) aR._auto_2) (he:autoParam (starEach (e :: es) X.env=(false,eval e X.env) :: starEach es X.env) aR._auto_1)
  (hpl:autoParam (((backTo pos (starEach (e :: es) X.env)).any (·.1)||(backToKw pos (keywordEach kws X.env)).any (·.1.isNone))=false) aR._auto_1):
  PE X (.Call (.Name x p) (e :: es) kws pos) (z8m sp gV E t tk):=by
 intro vX s σ H Q I h;refine vP (ZM I hg hm ?_ hdb);refine PySem.W.callWith_KW (h₀:=X.base) I.ok.mod.kin hk hall (thn (ha pos vX s σ H _ I h) fun us s1 ⟨vs,H1,I1,r,q⟩=>?_) hpl he;refine thn (hkw pos vX s1 σ H1 _ I1 q) fun ws s2 ⟨zs,H2,I2,rz,q2⟩=>⟨I2.kIn,?_⟩
 rw [hks];exact z6O F hr hb hx I2 r rz q2
end
structure zr (N P:List Str) (sc:Scope):Prop where
 kind:sc.kind=.function
 co:sc.isCoroutine=false
 gen:sc.isGenerator=false
 nd:N.Nodup
 pre:N.take P.length=P
 par:∀x∈P,sc.names.lookup x=some .local\/sc.names.lookup x=some .cell
 nofree:∀y∈sc.names,y.2≠.free
theorem z0T {kindOf:Str->Option NameKind} {x:Str}:∀{binds:List (Str × Value)} {m:Str->Option Value},(∀v,(x,v)∉binds)->bindL kindOf binds m x=m x
 | [],_,_=>rfl
 | (n,v) :: r,m,h=>by
  unfold bindL;rw [z0T fun w hw=>h w (kZ _ hw)];split
  ·have:x≠n:=by rintro rfl;exact h v kY
   simp [this]
  ·rfl
theorem z0V {kindOf:Str->Option NameKind} {x:Str}:∀{binds:List (Str × Value)} {m:Str->Option Value},(∀v,(x,v)∉binds)->bindC kindOf binds m x=m x
 | [],_,_=>rfl
 | (n,v) :: r,m,h=>by
  unfold bindC;rw [z0V fun w hw=>h w (kZ _ hw)];split
  ·rfl
  ·have:x≠n:=by rintro rfl;exact h v kY
   simp [this]
theorem z0U {kindOf:Str->Option NameKind} {x:Str} {v:Value}:∀{P:List Str} {vs:List Value} {i:Nat} {m:Str->Option Value},P.Nodup->P[i]?=some x->vs[i]?=some v->kindOf x=some .local->
  bindL kindOf (P.zip vs) m x=some v
 | [],_,_,_,_,h,_,_=>by simp at h
 | _ :: _,[],_,_,_,_,h,_=>by simp at h
 | p :: P,w :: vs,0,m,nd,h1,h2,hk=>by
  simp at h1 h2;subst h1;subst h2
  show bindL kindOf ((p,w) :: P.zip vs) m p=_;unfold bindL;rw [z0T fun v hv=>(List.nodup_cons.mp nd).1 (List.of_mem_zip hv).1,kG hk];simp
 | p :: P,w :: vs,i+1,m,nd,h1,h2,hk=>by
  show bindL kindOf ((p,w) :: P.zip vs) m x=_;unfold bindL;exact z0U (i:=i) (List.nodup_cons.mp nd).2 (by simpa using h1) (by simpa using h2) hk
theorem z0W {kindOf:Str->Option NameKind} {x:Str} {v:Value}:∀{P:List Str} {vs:List Value} {i:Nat} {m:Str->Option Value},P.Nodup->P[i]?=some x->vs[i]?=some v->kindOf x≠some .local->
  bindC kindOf (P.zip vs) m x=some v
 | [],_,_,_,_,h,_,_=>by simp at h
 | _ :: _,[],_,_,_,_,h,_=>by simp at h
 | p :: P,w :: vs,0,m,nd,h1,h2,hk=>by
  simp at h1 h2;subst h1;subst h2
  show bindC kindOf ((p,w) :: P.zip vs) m p=_;unfold bindC;rw [z0V fun v hv=>(List.nodup_cons.mp nd).1 (List.of_mem_zip hv).1,kF hk];simp
 | p :: P,w :: vs,i+1,m,nd,h1,h2,hk=>by
  show bindC kindOf ((p,w) :: P.zip vs) m x=_;unfold bindC;exact z0W (i:=i) (List.nodup_cons.mp nd).2 (by simpa using h1) (by simpa using h2) hk
noncomputable def jX (N:List Str) (vs:List V):St:=vs.map some++List.replicate (N.length - vs.length) none
noncomputable def cxOf (CX:CXT) (P:Program) (w:World) (K:kE) (mg:Str->Option Value) (base:Heap) (N:List Str) (qual:Str) (scope:Scope) (f:Addr) (cd:Value) (A:Around) (vY:List Env) (s:Shared) (H:Hp) (E:XK):Cx where
 prog:=P
 w:=w
 K:=K
 mg:=mg
 base:=base
 A:=A.deeper (envOfC qual scope s.heap.objs.size f cd)
 N:=N
 s₀:=s
 H₀:=H
 env:=envOfC qual scope s.heap.objs.size f cd
 vY:=vY
 stack:=envOfC qual scope s.heap.objs.size f cd :: vY
 ex:=[]
 calm:=true
 fn:=fun _=>true
 pn:=[]
 xe:=fun e s'=>wpAny (model P w) (A.deeper (envOfC qual scope s.heap.objs.size f cd)) (leaving (envOfC qual scope s.heap.objs.size f cd) e) (fun _ s''=>CX vY H s E e s'') (fun e' s''=>CX vY H s E e' s'') s'
theorem z21 {sc:Scope} {n:Nat} {x:Str} (h:sc.names.lookup x=some .cell):∃c,(cellsFrom n sc.names []).lookup x=some c:=by
 have q:=PySem.W.cellsFrom_some sc.names n [] (.inl h);exact Option.isSome_iff_exists.mp q
theorem z3G {CX:CXT} {P:Program} {w:World} {K:kE} {mg:Str->Option Value} {base:Heap} {N ps:List Str} {qual:Str} {scope:Scope} {f:Addr} {cd:Value} {A:Around} {vY:List Env} {s s1:Shared} {H:Hp} {E:XK} {us:List Value} {vs:List V}
  (S:zr N ps scope) (hd:A.handled=none) (e0:Env0 P w K mg base A vY s H) (hl:vs.length=ps.length) (r:Vals vs us)
  (x:InCallC s s.heap.objs.size (bindL (envOfC qual scope s.heap.objs.size f cd).kindOf (ps.zip us) fun _=>none) (cellsFrom (s.heap.objs.size+1) scope.names []) (bindC (envOfC qual scope s.heap.objs.size f cd).kindOf (ps.zip us) fun _=>none) s1):
  Inv (cxOf CX P w K mg base N qual scope f cd A vY s H E) [] (jX N vs) H s1:=by
 have hpl:ps.length<=N.length:=by have:=vF List.length S.pre;rw [vp] at this;lia
 obtain ⟨h1,tk,rfl,hk⟩:=x.done;have noA:∀b:Addr,b∉(cxOf CX P w K mg base N qual scope f cd A vY s H E).ex:=fun b z=>vd (show b∈([]:List Addr) from z) (by simp)
 refine ⟨⟨e0.mod,S.kind,rfl,rfl,ki _,fun y z c h1 h2=>?_,fun y hy=>?_,fun y c _ h=>?_,fun _=>hd,Around.frames_deeper e0.frames,.inr ⟨rfl,rfl⟩,fun b z=>vd z (noA b),e0.bs,e0.bsz,fun b _ _=>noA b,fun b z=>vd z (noA b),e0.funs,e0.frf⟩,
  rfl,e0.bare,Un.kept hk,⟨_,x.toInCall.ns,fun i y v h1 h2 h3=>?_⟩,fun y c h=>⟨_,x.cell y c h⟩,e0.hok.fresh (ki _),fun y c h=>?_,fun p hp=>vd (show p∈([]:List (Addr × Obj)) from hp) (by simp),e0.hok.kept hk,?_⟩
 ·exact name_of_addr x.apart (vc h1) (vc h2)
 ·have hy:scope.names.lookup y=some .cell\/scope.names.lookup y=some .free:=hy;rcases hy with hy | hy
  ·exact z21 hy
  ·exact vd rfl (S.nofree _ (vc hy))
 ·exact Nat.le_of_lt (x.above y c (vc h))
 ·have hi:i < vs.length:=by
   unfold jX at h2;by_cases hi:i < vs.length
   ·exact hi
   ·rw [yn (by simpa using hi)] at h2;rw [vq] at h2;split at h2 <;> cases h2
  have ha:vs[i]?=some v:=by
   unfold jX at h2;rw [ym (by simpa using hi),vh] at h2;cases e:vs[i]? with
   | none=>rw [e] at h2;cases h2
   | some a=>rw [e] at h2;cases h2;rfl
  obtain ⟨u,hu,rv⟩:=r.get ha;have hp:ps[i]?=some y:=by
   rw [<-S.pre,List.getElem?_take_of_lt (by lia)];exact h1
  have ndP:ps.Nodup:=by rw [<-S.pre];exact S.nd.sublist (List.take_sublist _ _)
  refine ⟨u,rv,?_⟩;rcases S.par y (kM hp) with k | k
  ·exact .inl ⟨k,z0U ndP hp hu k⟩
  ·obtain ⟨c,e⟩:=z21 (n:=s.heap.objs.size+1) k;refine .inr ⟨.inl k,c,e,?_⟩;have q:=x.cell y c e;rw [z0W ndP hp hu (by show scope.names.lookup y≠_;rw [k];decide)] at q;exact q
 ·exact e0.hok.fresh (Nat.le_of_lt (x.above y c (vc h)))
 ·unfold jX;show _=N.length;rw [ku,kq,vj];lia
theorem z7v {CX:CXT} {P:Program} {w:World} {K:kE} {mg:Str->Option Value} {base:Heap} {k:Nat} {f:Addr} {name qual:Str} {params:Arguments} {body:List Stmt} {scope:Scope} {dV kV doc pm cdv ct oc:Value} {an od:Option Addr}
  {osl:Array (Option Value)} {N ps:List Str} {sp:Sp} (lk:K.lookup f=some ⟨oc,od,.func (PySem.W.fnOf name qual params body scope dV kV doc pm an cdv ct),osl⟩) (hcd:PySem.W.codeIn K cdv qual=true) (S:zr N ps scope)
  (len:∀vs H Q E,sp vs H Q E->vs.length=ps.length)
  (hbody:∀(A:Around) (vY:List Env) (s:Shared) (H:Hp) (vs:List V) (Q:VK) (E:XK),Room k (A.deeper (envOfC qual scope s.heap.objs.size f cdv))->sp vs H Q E->
   ∃t,PSs (cxOf CX P w K mg base N qual scope f cdv A vY s H E) body t/\t { nx:=fun _ H'=>Q .non H',rt:=Q } (jX N vs) H):
  FnOk P w K mg base CX (k+1) f (PySem.W.fnOf name qual params body scope dV kV doc pm an cdv ct) ps sp:=by
 refine ⟨len,fun A vY s H args us vs Q E hr e0 hb r hsp=>?_⟩;have hl:=len _ _ _ _ hsp;have KX:K.In s.heap:=e0.mod.kin.keeps fun b o e=>(e0.bs b o e).1
 have lim:s.heap.NoLimit:=e0.mod.nolimit.keeps fun b o e=>(e0.bs b o e).1
 have hkind:∀y∈ps.zip us,scope.names.lookup y.1=some .local\/(scope.names.lookup y.1=some .cell/\((cellsFrom (s.heap.objs.size+1) scope.names []).lookup y.1).isSome=true):=fun ⟨n,v⟩ hy=>by
  rcases S.par n (List.of_mem_zip hy).1 with q | q
  ·exact .inl q
  ·exact .inr ⟨q,PySem.W.cellsFrom_some _ _ _ (.inl q)⟩
 refine codeAny_call_function hr.depth (KX _ _ lk) rfl S.co S.gen rfl (PySem.W.codeRec_of KX hcd) (hb _ _ _ _ ?_);refine wpAny_newFunctionEnv_cells S.kind hkind fun env he s1 x=>?_
 subst he;refine ⟨lim.keeps x.toInCall.keep,codeAny_func ?_⟩;obtain ⟨t,ht,hq⟩:=hbody A vY s H vs Q E (hr.deeper _) hsp;have I:Inv (cxOf CX P w K mg base N qual scope f cdv A vY s H E) [] (jX N vs) H s1:=z3G S hr.hd e0 hl r x;refine vJ (ht [] s1 (jX N vs) H _ I hq) (fun fl s' hs=>?_) fun e s' hs=>hs
 have fin:∀{σ':St} {H':Hp} {v:V} {u:Value},Inv (cxOf CX P w K mg base N qual scope f cdv A vY s H E) [] σ' H' s'->RelV v u->Q v H'->CE vY P w H s Q u s':=
  fun {σ' H' v u} J rv q=>⟨v,H',J.os,J.bare,J.base,J.hok,rv,q⟩
 cases fl with
 | ret u=>
  obtain ⟨v,σ',H',J,rv,q⟩:=hs;exact fin J rv q
 | next=>
  obtain ⟨σ',H',J,q⟩:=hs;exact fin (v:=V.non) (u:=Value.none) J rfl q
 | brk=>
  obtain ⟨_,_,_,q⟩:=hs;exact False.elim q
 | cont=>
  obtain ⟨_,_,_,q⟩:=hs;exact False.elim q
end L2
namespace L2
section
variable {X:Cx} {x:Str} {p pos:Pos} {e:Expr} {es:List Expr} {t:TA} {id T:String} {r:List V->Hp->VK->Prop}
def tCB (r:List V->Hp->VK->Prop) (t:TA):TE:=fun σ H Q=>t σ H fun vs H1=>r vs H1 Q
theorem zH (hc:Zx X (.builtin id) r) (hg:Gl X x) (hm:X.mg x=none) (hv:bootBuiltins x=some (.builtin id)) (ha:PA X (e :: es) t) (hn:autoParam (x≠"__name__") aR._auto_2) (hdb:autoParam ((x == ("__debug__":Str))=false) aR._auto_2)
  (he:autoParam (starEach (e :: es) X.env=(false,eval e X.env) :: starEach es X.env) aR._auto_1) (hpl:autoParam ((backTo pos (starEach es X.env)).any (·.1)=false) aR._auto_1):PE X (.Call (.Name x p) (e :: es) [] pos) (tCB r t):=by
 intro vX s σ H Q I h;refine vP (J5 I hg hm hv ?_ hn hdb);exact PyProof.Rows.callWith_builtin1 (thn (ha pos vX s σ H _ I h) fun us s1 ⟨vs,H1,I1,r1,q1⟩=>hc vX s1 σ H1 vs us Q I1 r1 q1) he hpl
theorem jg (hc:Zx X (.type T) r) (hg:Gl X x) (hm:X.mg x=none) (hv:bootBuiltins x=some (.type T)) (ha:PA X (e :: es) t) (hn:autoParam (x≠"__name__") aR._auto_2) (hdb:autoParam ((x == ("__debug__":Str))=false) aR._auto_2)
  (he:autoParam (starEach (e :: es) X.env=(false,eval e X.env) :: starEach es X.env) aR._auto_1) (hpl:autoParam ((backTo pos (starEach es X.env)).any (·.1)=false) aR._auto_1):PE X (.Call (.Name x p) (e :: es) [] pos) (tCB r t):=by
 intro vX s σ H Q I h;refine vP (J5 I hg hm hv ?_ hn hdb);exact vH (thn (ha pos vX s σ H _ I h) fun us s1 ⟨vs,H1,I1,r1,q1⟩=>hc vX s1 σ H1 vs us Q I1 r1 q1) he hpl
end
end L2
namespace HT
open PySem PyProof.Rows
section
open PySem.SeqAt
open PySem.AutoSeq1 (wpAny_loadPart')
open PySem.MeetsSeq PySem.MeetsSeq2 PySem.MeetsSeq3
end
section
variable {prog:Program} {w:World} {A:Around} {E:Value->Shared->Prop} {s:Shared}
theorem cat_tup {t b:Addr} {vs ws:List Value} {Q:Value->Shared->Prop} (ht:IsTup s.heap t vs.toArray) (hb:IsTup s.heap b ws.toArray) (hv:vs≠[])
  (h1:ws=[]->Q (.ref t) s) (h2:ws≠[]->Q (.ref s.heap.objs.size) { s with heap:=s.heap.push { cls:=.type "tuple",data:=.seq (vs++ws).toArray } })
  (hsz:vs.length+ws.length<=sizeLine):wpAny (model prog w) A (binaryOp .Add (.ref t) (.ref b)) Q E s:=by
 obtain ⟨⟨cls,dd,data,sl⟩,ho,hc,n,hd⟩:=id ht;obtain ⟨⟨cls2,dd2,data2,sl2⟩,ho2,hc2,n2,hd2⟩:=id hb;simp only at hc hd hc2 hd2;subst hc hd hc2 hd2;have e:vs.toArray++ws.toArray=(vs++ws).toArray:=by simp
 by_cases hw:ws=[]
 ·exact concat_meets ⟨_,ho,rfl⟩ ⟨_,ho2,rfl⟩ noFill_tuple_add seq_tuple_add PySem.F.slot_tuple_add PySem.F.entry_tuple_add (PySem.F.args_tuple_add_2 _ _)
   (tuple_addW1 t b vs.toArray ws.toArray n n2 dd dd2 sl sl2 (by simpa using hv) (by simp [hw])) ⟨ho,ho2,h1 hw⟩
 ·refine concat_meets ⟨_,ho,rfl⟩ ⟨_,ho2,rfl⟩ noFill_tuple_add seq_tuple_add PySem.F.slot_tuple_add PySem.F.entry_tuple_add (PySem.F.args_tuple_add_2 _ _)
   (tuple_addW2 t b vs.toArray ws.toArray n n2 dd dd2 sl sl2 (by simpa using hv) (by simpa using hw) (by rw [kK,kK];exact hsz)) ⟨ho,ho2,?_⟩
  rw [e];exact h2 hw
noncomputable def sIx (n d:Nat):Option Int->Nat
 | none=>d
 | some v=>if v < 0 then (v+(n:Int)).toNat else min v.toNat n
theorem sIx_none (n d:Nat):sIx n d none=d:=rfl
theorem sIx_nat (n d k:Nat):sIx n d (some (k:Int))=min k n:=by
 show (if (k:Int) < 0 then ((k:Int)+(n:Int)).toNat else min (k:Int).toNat n)=min k n;rw [kF (by lia),yg]
theorem z8z (n d:Nat) (hd:d<=n) (o:Option Int):sIx n d o<=n:=by
 cases o with
 | none=>exact hd
 | some v=>
  show (if v < 0 then (v+(n:Int)).toNat else min v.toNat n)<=n;by_cases hv:v < 0
  ·rw [kG hv];lia
  ·rw [kF hv];exact Nat.min_le_right _ _
theorem z4a (v:Int) (n d:Nat):(if v < 0 then max (v+(n:Int)) 0 else min v (n:Int))=((sIx n d (some v):Nat):Int):=by
 show (if v < 0 then max (v+(n:Int)) 0 else min v (n:Int))=(((if v < 0 then (v+(n:Int)).toNat else min v.toNat n):Nat):Int)
 by_cases hv:v < 0
 ·simp only [kG hv];lia
 ·simp only [kF hv];lia
theorem z2F (lo hi:Option Int) (n:Nat):Builtin.Slice.sliceAdjust lo hi 1 (n:Int)=(((sIx n 0 lo:Nat):Int),((sIx n n hi:Nat):Int)):=by
 have h1:¬((1:Int) < 0):=by lia
 unfold Builtin.Slice.sliceAdjust;simp only [h1,if_false];refine Prod.ext ?_ ?_
 ·cases lo with
  | none=>rfl
  | some v=>exact z4a v n 0
 ·cases hi with
  | none=>rfl
  | some v=>exact z4a v n n
theorem z2e (i j:Nat):Builtin.Slice.slicePlaces (i:Int) (j:Int) 1=j - i:=by
 unfold Builtin.Slice.slicePlaces;have h1:(1:Int) > 0:=by lia
 simp only [h1,if_true,Int.ediv_one];split <;> lia
theorem Jk {v:Value} {o:Option Int} {Q:Option Int->Shared->Prop} (p:IsPart v o) (h:Q o s):wpAny (model prog w) A (Builtin.Slice.slicePartIndex v) Q E s:=by
 cases p with
 | none=>exact slicePart_none h
 | int i t=>exact slicePart_int h
theorem Z4 {sl:Addr} {vl vu:Value} {lo hi:Option Int} {n:Nat} {Q:Int × Int × Nat->Shared->Prop} (hs:s.heap.IsSliceOf sl vl vu .none) (pl:IsPart vl lo) (pu:IsPart vu hi)
  (h:Q (((sIx n 0 lo:Nat):Int),1,sIx n n hi - sIx n 0 lo) s):wpAny (model prog w) A (Builtin.Slice.sliceApplied (.ref sl) (pure (n:Int))) Q E s:=by
 obtain ⟨os,hos,hcs,hds⟩:=id hs;unfold Builtin.Slice.sliceApplied Builtin.Slice.sliceFields;refine va (va (wpAny_field hos hds (x:=vl) rfl (va (wpAny_field hos hds (x:=vu) rfl (va (wpAny_field hos hds (x:=.none) rfl (ve ?_)))))));refine va (slicePart_none ?_);show wpAny _ _ (if ((1:Int) == 0)=true then _ else _) _ _ s;rw [kF (by decide)];refine va (Jk pl (va (Jk pu (va (ve ?_)))));show wpAny _ _ (match Builtin.Slice.sliceAdjust lo hi 1 (n:Int) with | (lo,hi)=>pure (lo,(1:Int),Builtin.Slice.slicePlaces lo hi 1)) _ _ s;rw [z2F lo hi n];show wpAny _ _ (pure (((sIx n 0 lo:Nat):Int),(1:Int),Builtin.Slice.slicePlaces ((sIx n 0 lo:Nat):Int) ((sIx n n hi:Nat):Int) 1)) _ _ s;rw [z2e];exact ve h
theorem z4L (xs:Array Value) (i k:Nat):((List.range k).filterMap fun (m:Nat)=>xs[((i:Int)+(m:Int) * 1).toNat]?).toArray=((xs.toList.drop i).take k).toArray:=by
 have e:(fun (m:Nat)=>xs[((i:Int)+(m:Int) * 1).toNat]?)=fun m=>xs[i+m]?:=by
  funext m
  have:((i:Int)+(m:Int) * 1).toNat=i+m:=by lia
  rw [this]
 rw [e];have:=pick_run xs i k
 rw [List.filterMap_map] at this;have e2:((fun x=>xs[x]?) ∘ fun x=>i+x)=fun m=>xs[i+m]?:=rfl
 rw [e2] at this;rw [this]
theorem getItem_tuple_cut {t sl:Addr} {items:Array Value} {vl vu:Value} {lo hi:Option Int} {Q:Value->Shared->Prop} (ht:IsTup s.heap t items) (hs:s.heap.IsSliceOf sl vl vu .none) (pl:IsPart vl lo) (pu:IsPart vu hi)
  (hw:¬(sIx items.size 0 lo=0/\sIx items.size items.size hi=items.size))
  (h:Q (.ref s.heap.objs.size) { s with heap:=s.heap.push { cls:=.type "tuple",data:=.seq ((items.toList.drop (sIx items.size 0 lo)).take (sIx items.size items.size hi - sIx items.size 0 lo)).toArray } })
  (hsz:items.size<=sizeLine):wpAny (model prog w) A (getItem (.ref t) (.ref sl)) Q E s:=by
 have htake:sizeOk (.seq ((items.toList.drop (sIx items.size 0 lo)).take (sIx items.size items.size hi - sIx items.size 0 lo)).toArray):=by
  show ((items.toList.drop (sIx items.size 0 lo)).take (sIx items.size items.size hi - sIx items.size 0 lo)).toArray.size<=sizeLine;rw [kK,vp,List.length_drop,Array.length_toList];lia
 have hj:sIx items.size items.size hi<=items.size:=z8z _ _ (ki _) hi;obtain ⟨os,hos,hcs,hds⟩:=id hs;have hTs:s.TypeIs (.ref sl) "slice":=⟨os,hos,hcs⟩
 unfold getItem
 try with_reducible refine wpAny_holding ?_
 first | refine va (ve ?_) | skip
 refine va (wpAny_sequenceKey ht.typeIs (by decide) ?_);refine va (wpAny_callSpecial?_slot (name:=Str.ofString "__getitem__") ht.typeIs vO
  (wpAny_call_entry vO ht.typeIs entry_tuple_getitem ?_ (args_tuple_getitem _ _)))
 show wpAny _ _ (Builtin.Tuple.tupleItemsOf (.ref t) >>= _) _ _ s;refine va (tupleItemsOf_ ht ?_);refine va (wpAny_typeOf hTs ?_);rw [kG (by decide)];refine va (Z4 hs pl pu ?_);have hno:¬((((sIx items.size 0 lo:Nat):Int) == 0&&(1:Int) == 1&&(sIx items.size items.size hi - sIx items.size 0 lo) == items.size)=true):=by
  intro q;rw [yj,yj] at q;have q1:((sIx items.size 0 lo:Nat):Int)=0:=eq_of_beq q.1.1;have q2:sIx items.size items.size hi - sIx items.size 0 lo=items.size:=eq_of_beq q.2;exact hw ⟨by lia,by lia⟩
 show wpAny _ _ (if (((sIx items.size 0 lo:Nat):Int) == 0&&(1:Int) == 1&&(sIx items.size items.size hi - sIx items.size 0 lo) == items.size)=true then _ else _) _ _ s;rw [kF hno,z4L]
 first
  | exact va (m:=Builtin.Tuple.tupleExact _) (vG (ve ⟨_,rfl,ve h⟩) htake)
  | exact va (m:=Builtin.Tuple.tupleExact _) (vG (va (ve (ve ⟨_,rfl,ve h⟩))) htake)
  | exact va (va (m:=Builtin.Tuple.tupleExact _) (vG (ve (ve ⟨_,rfl,ve h⟩)) htake))
  | exact va (va (m:=Builtin.Tuple.tupleExact _) (vG (ve ⟨_,rfl,ve h⟩) htake))
end
end HT
namespace L2
abbrev TO:=St->Hp->(Option Int->Hp->Prop)->Prop
def PO (X:Cx) (e:Option Expr) (t:TO):Prop:=
 ∀(vX:List (Addr × Obj)) (s:Shared) (σ:St) (H:Hp) (Q:Option Int->Hp->Prop),Inv X vX σ H s->t σ H Q->
  wpAny (model X.prog X.w) X.A (evalPart e X.env) (fun u s'=>∃o H',Inv X vX σ H' s'/\IsPart u o/\Q o H') X.xe s
def z6B:TO:=fun _ H Q=>Q none H
def z9P (t:TE):TO:=fun σ H Q=>t σ H fun x H1=>∃i,x=.int i/\Q (some i) H1
section
variable {X:Cx} {e:Expr} {te:TE} {lo hi:Option Expr} {tl th:TO} {pos p2:Pos}
theorem z1e:PO X none z6B:=by
 intro vX s σ H Q I h;rw [evalPart_none];exact ve ⟨none,H,I,.none,h⟩
theorem z1d (h:PE X e te):PO X (some e) (z9P te):=by
 intro vX s σ H Q I hw;rw [evalPart_some];refine thn (h vX s σ H _ I hw) fun u s1 zz=>?_
 obtain ⟨x,H1,I1,r1,q1⟩:=zz;obtain ⟨i,rfl,q⟩:=q1;obtain ⟨t,rfl⟩:=r1;exact ⟨some i,H1,I1,.int i t,q⟩
def SlR (X:Cx) (r:V->Option Int->Option Int->Hp->VK->Prop):Prop:=
 ∀(vX:List (Addr × Obj)) (s:Shared) (σ:St) (H:Hp) (x:V) (v vl vu:Value) (lo hi:Option Int) (sl:Addr) (Q:VK),Inv X vX σ H s->RelV x v->s.heap.IsSliceOf sl vl vu .none->IsPart vl lo->IsPart vu hi->r x lo hi H Q->
  ∃T id,typeLookup (.type T) "__getitem__"=pure (some (.builtin id))/\s.TypeIs v T/\wpAny (model X.prog X.w) X.A (getItem v (.ref sl)) (EP X vX σ Q) X.xe s
def tSl (r:V->Option Int->Option Int->Hp->VK->Prop) (te:TE) (tl th:TO):TE:=fun σ H Q=>te σ H fun x H1=>tl σ H1 fun l H2=>th σ H2 fun u H3=>r x l u H3 Q
theorem JH {r:V->Option Int->Option Int->Hp->VK->Prop} (hr:SlR X r) (he:PE X e te) (hl:PO X lo tl) (hu:PO X hi th):PE X (.Subscript e (.Slice lo hi none p2) pos) (tSl r te tl th):=by
 intro vX s σ H Q I h;refine Subscript_ (thn (he vX s σ H _ I h) fun v s1 zz=>?_);obtain ⟨x,H1,I1,r1,q1⟩:=zz;refine wpAny_Slice (thn (hl vX s1 σ H1 _ I1 q1) fun vl s2 ⟨l,H2,I2,pl,q2⟩=>thn (hu vX s2 σ H2 _ I2 q2) fun vu s3 zz=>?_);obtain ⟨u,H3,I3,pu,q3⟩:=zz;rw [evalPart_none];refine ve ?_;have I4:Inv X vX σ H3 { s3 with heap:=s3.heap.push { cls:=.type "slice",data:=.fields #[vl,vu,.none] } }:=I3.kept (t':=s3.toks) fun b ob q=>vb _ q
 obtain ⟨T,id,hT,ht,hg⟩:=hr vX { s3 with heap:=s3.heap.push { cls:=.type "slice",data:=.fields #[vl,vu,.none] } } σ H3 x v vl vu l u s3.heap.objs.size Q I4 r1 (Heap.IsSliceOf.new ..) pl pu q3;show wpAny (model X.prog X.w) X.A (subscriptTail e (.Slice lo hi none p2) v (.ref s3.heap.objs.size)) (EP X vX σ Q) X.xe { s3 with heap:=s3.heap.push { cls:=.type "slice",data:=.fields #[vl,vu,.none] } };exact tail_any (ops:=[.ref s3.heap.objs.size,v]) ht hT hg (by with_unfolding_all rfl)
noncomputable def cutV (xs:List V) (lo hi:Option Int):List V:=(xs.drop (HT.sIx xs.length 0 lo)).take (HT.sIx xs.length xs.length hi - HT.sIx xs.length 0 lo)
theorem ZQ (xs:List V) (lo hi:Option Int):(cutV xs lo hi).length<=xs.length:=by
 unfold cutV;rw [vp,List.length_drop];lia
def rSlT (K:kE):V->Option Int->Option Int->Hp->VK->Prop:=fun x lo hi H Q=>∃a xs,x=.ref a/\SqT K H a xs/\
 ¬(HT.sIx xs.length 0 lo=0/\HT.sIx xs.length xs.length hi=xs.length)/\∀p,H p=none->Q (.ref p) (upd H p (.tup (cutV xs lo hi)))
theorem z68:SlR X (rSlT X.K):=by
 intro vX s σ H x v vl vu lo hi sl Q I rx hs pl pu h;obtain ⟨a,xs,rfl,hx,hw,q⟩:=h;cases rx;obtain ⟨its,r,ht,hz⟩:=I.tuple hx;have hlen:its.toArray.size=xs.length:=by rw [kK];exact r.length.symm
 refine ⟨"tuple",_,PyProof.Rows.slot_tuple_getitem.lookup,ht.typeIs,?_⟩;refine HT.getItem_tuple_cut ht hs pl pu (by rw [hlen];exact hw) ?_ (by rw [hlen];exact hz);rw [hlen];refine ⟨.ref s.heap.objs.size,_,I.laid (t':=s.toks) (o:=.tup (cutV xs lo hi)) (fun b ob q=>vb _ q) (ki _) ?_,rfl,q _ (I.hok.fresh (ki _))⟩;exact ⟨kD (ZQ xs lo hi) hz,_,(r.drop (HT.sIx xs.length 0 lo)).take (HT.sIx xs.length xs.length hi - HT.sIx xs.length 0 lo),IsTup.new _ _⟩
def za9 (K:kE):R2:=fun x y H Q=>∃a b xs ys,x=.ref a/\y=.ref b/\SqT K H a xs/\SqT K H b ys/\xs≠[]/\xs.length+ys.length<=sizeLine/\
 (ys=[]->Q (.ref a) H)/\(ys≠[]->∀p,H p=none->Q (.ref p) (upd H p (.tup (xs++ys))))
theorem Vals.nil_iff {xs:List V} {us:List Value} (r:Vals xs us):us=[]↔xs=[]:=by
 cases r with
 | nil=>simp
 | cons _ _=>simp
theorem z3p:OpR X (binaryOp .Add) (za9 X.K):=by
 intro vX s σ H x y v u Q I rx ry h;obtain ⟨a,b,xs,ys,rfl,rfl,ha,hb,hx,hz,q1,q2⟩:=h;cases rx;cases ry;obtain ⟨its,r1,p1,_⟩:=I.tuple ha;obtain ⟨its2,r2,p2,_⟩:=I.tuple hb;refine HT.cat_tup p1 p2 (fun z=>hx (r1.nil_iff.mp z)) (fun z=>⟨.ref a,H,I,rfl,q1 (r2.nil_iff.mp z)⟩) (fun z=>?_) (by rw [<-r1.length,<-r2.length];exact hz);refine ⟨.ref s.heap.objs.size,_,I.laid (t':=s.toks) (o:=.tup (xs++ys)) (fun b ob q=>vb _ q) (ki _) ?_,rfl,q2 (fun w=>z (r2.nil_iff.mpr w)) _ (I.hok.fresh (ki _))⟩;exact ⟨by rw [ku];exact hz,_,r1.append r2,IsTup.new _ _⟩
end
end L2
namespace L2
noncomputable def ixN (n:Nat) (i:Int):Option Nat:=if 0<=i then (if i < n then some i.toNat else none) else if -(n:Int)<=i then some (i+n).toNat else none
noncomputable def atI {α:Type} (xs:List α) (i:Int):Option α:=(ixN xs.length i).bind fun j=>xs[j]?
theorem z3C {n:Nat} {i:Int} {j:Nat} (h:ixN n i=some j):seqIndex? i n=some j/\j < n/\-(n:Int)<=i/\i < n:=by
 unfold ixN at h;by_cases h0:0<=i
 ·rw [kG h0] at h;by_cases h1:i < n
  ·rw [kG h1] at h;have e:i.toNat=j:=kH h;exact ⟨by rw [seqIndex_of h0 h1,e],by lia,by lia,h1⟩
  ·rw [kF h1] at h;cases h
 ·rw [kF h0] at h;by_cases h1: -(n:Int)<=i
  ·rw [kG h1] at h;have e:(i+n).toNat=j:=kH h;exact ⟨by rw [seqIndex_neg (by lia) h1,e],by lia,h1,by lia⟩
  ·rw [kF h1] at h;cases h
theorem z4m {α:Type} {xs:List α} {i:Int} {v:α} (h:atI xs i=some v):∃j,seqIndex? i xs.length=some j/\xs[j]?=some v/\j < xs.length/\-(xs.length:Int)<=i/\i < xs.length:=by
 unfold atI at h;cases e:ixN xs.length i with
 | none=>rw [e] at h;cases h
 | some j=>
  rw [e] at h;obtain ⟨h1,h2,h3,h4⟩:=z3C e;exact ⟨j,h1,h,h2,h3,h4⟩
theorem zy {α:Type} {xs:List α} {j:Nat} {v:α} (h:xs[j]?=some v):atI xs (j:Int)=some v:=by
 have hj:j < xs.length:=(kj.mp h).1;have e:ixN xs.length (j:Int)=some j:=by
  unfold ixN;rw [kG (by lia),kG (by lia)];simp
 unfold atI;rw [e];exact h
theorem z09 {α:Type} (xs:List α) (v:α):atI (xs++[v]) (-1)=some v:=by
 have hl:(xs++[v]).length=xs.length+1:=by simp
 have e:ixN (xs++[v]).length (-1)=some xs.length:=by
  unfold ixN;rw [hl,kF (by decide),kG (by lia)];congr 1
  lia
 unfold atI;rw [e];show (xs++[v])[xs.length]?=some v;simp
def z81 (b:Expr):Prop:=∀o i,subscripted b false o i=operate [o,i] (getItem o i)
def IxR (X:Cx) (r:R2):Prop:=
 ∀(value slice:Expr) (vX:List (Addr × Obj)) (s:Shared) (σ:St) (H:Hp) (x y:V) (v u:Value) (Q:VK),Inv X vX σ H s->RelV x v->RelV y u->r x y H Q->
  subscripted slice false v u=operate [v,u] (getItem v u)->wpAny (model X.prog X.w) X.A (subscriptTail value slice v u) (EP X vX σ Q) X.xe s
def MtR (X:Cx) (id:String) (r:V->List V->Hp->VK->Prop):Prop:=
 ∀(vX:List (Addr × Obj)) (s:Shared) (σ:St) (H:Hp) (x:V) (xs:List V) (v:Value) (us:List Value) (Q:VK),Inv X vX σ H s->RelV x v->Vals xs us->r x xs H Q->
  wpAny (model X.prog X.w) X.A (call (.builtin id) (v :: us)) (EP X vX σ Q) X.xe s
section
variable {X:Cx} {a b:Expr} {ta tb:TE} {pos:Pos}
theorem zZ {r:R2} (hr:IxR X r) (ha:PE X a ta) (hb:PE X b tb) (hs:z81 b):PE X (.Subscript a b pos) (tOp r ta tb):=by
 intro vX s σ H Q I h;exact Subscript_ (binT ha hb I h fun v u s2 x y H2 I2 rx ry q=>hr a b vX s2 σ H2 x y v u Q I2 rx ry q (hs _ _))
def rIxL (K:kE):R2:=fun x y H Q=>∃p xs i v,x=.ref p/\y=.int i/\SqL K H p xs/\atI xs i=some v/\Q v H
def rIxT (K:kE):R2:=fun x y H Q=>∃p xs i v,x=.ref p/\y=.int i/\SqT K H p xs/\atI xs i=some v/\Q v H
theorem zI:IxR X (rIxL X.K):=by
 intro value slice vX s σ H x y v u Q I rx ry h hs;obtain ⟨p,xs,i,z,rfl,rfl,hq,he,q⟩:=h;cases rx;obtain ⟨t,rfl⟩:=ry;obtain ⟨its,r,pl,hz⟩:=I.list hq;obtain ⟨j,h1,h2,h3,h4,h5⟩:=z4m he;obtain ⟨w,ew,rw'⟩:=r.get h2;have hl:=r.length;have hn:=J3;have fin:EP X vX σ Q w s:=⟨z,H,I,rw',q⟩
 by_cases h0:0<=i
 ·have hj:i.toNat=j:=by
   rw [seqIndex_of h0 h5] at h1;exact kH h1
  exact item_listR pl.isList h0 (by lia) (by rw [hj];simpa using ew) fin hs
 ·have hj:(i+(its.toArray.size:Int)).toNat=j:=by
   rw [seqIndex_neg (by lia) h4] at h1;rw [kK,<-hl];exact kH h1
  exact subscriptTail_builtinR (x:=w) pl.isList.typeIs slot_list_getitem.lookup
   (wpAny_getItem_list_neg (Q:=fun r s'=>r=w/\EP X vX σ Q r s') pl.isList (by lia) (by rw [kK] <;> lia) (by lia) (by rw [hj];simpa using ew) ⟨rfl,fin⟩) hs
theorem qN:IxR X (rIxT X.K):=by
 intro value slice vX s σ H x y v u Q I rx ry h hs;obtain ⟨p,xs,i,z,rfl,rfl,hq,he,q⟩:=h;cases rx;obtain ⟨t,rfl⟩:=ry;obtain ⟨its,r,pl,hz⟩:=I.tuple hq;obtain ⟨j,h1,h2,h3,h4,h5⟩:=z4m he;obtain ⟨w,ew,rw'⟩:=r.get h2;have hl:=r.length;have hn:=J3;have fin:EP X vX σ Q w s:=⟨z,H,I,rw',q⟩
 exact subscriptTail_builtinR (x:=w) pl.typeIs slot_tuple_getitem.lookup
  (getItem_tuple (j:=j) (Q:=fun r s'=>r=w/\EP X vX σ Q r s') pl (by lia) (by lia) (by rw [kK,<-hl];exact h1) (by simpa using ew) ⟨rfl,fin⟩) hs
theorem z2n (its:List Value) (n j:Nat) (u:Value):Obj.mapSeq (·.setIfInBounds j u) { cls:=.type "list",data:=.seq its.toArray n }={ cls:=.type "list",data:=.seq (its.set j u).toArray n }:=by
 simp [Obj.mapSeq]
theorem Inv.lst {vX:List (Addr × Obj)} {σ:St} {H:Hp} {s:Shared} {p:Addr} {xs:List V} (I:Inv X vX σ H s) (h:H p=some (.lst xs)):
  ∃(its:List Value) (n:Nat),Vals xs its/\s.heap.get? p=some { cls:=.type "list",data:=.seq its.toArray n }/\xs.length<=sizeLine:=by
 obtain ⟨z,its,n,r,e⟩:=I.hok p _ h;exact ⟨its,n,r,e,z⟩
theorem Inv.lstUpd {vX:List (Addr × Obj)} {σ:St} {H:Hp} {s:Shared} {p:Addr} {xs ys:List V} {its its':List Value} {n n':Nat} {f:Obj->Obj} (I:Inv X vX σ H s) (h:H p=some (.lst xs))
  (ho:s.heap.get? p=some { cls:=.type "list",data:=.seq its.toArray n }) (hf:f { cls:=.type "list",data:=.seq its.toArray n }={ cls:=.type "list",data:=.seq its'.toArray n' }) (r:Vals ys its') (hz:ys.length<=sizeLine) (t:Nat):
  Inv X vX σ (upd H p (.lst ys)) { s with heap:=s.heap.update p f,toks:=t }:=by
 have e:(s.heap.update p f).get? p=some { cls:=.type "list",data:=.seq its'.toArray n' }:=by
  rw [Heap.get?_update_self f ho (by rw [hf] <;> rfl),hf]
 refine I.write (x:=p) (e:=p) (by rw [h];trivial) (.inl rfl) (fun b u hb q=>(Heap.get?_update_other _ _ (Ne.symm hb)).trans q) ⟨_,e⟩ ?_;exact ⟨hz,its',n',r,e⟩
def za7:V->V->V->Hp->(Hp->Prop)->Prop:=fun o i v H Q=>∃p xs k j,o=.ref p/\i=.int k/\H p=some (.lst xs)/\ixN xs.length k=some j/\Q (upd H p (.lst (xs.set j v)))
theorem jH:PSet X za7:=by
 intro vX s σ H o i v ov iv u Q I ro ri rv h;obtain ⟨p,xs,k,j,rfl,rfl,hp,hj,q⟩:=h;cases ro;obtain ⟨t,rfl⟩:=ri;obtain ⟨its,n,r,ho,hz⟩:=I.lst hp;obtain ⟨h1,h2,h3,h4⟩:=z3C hj;have hl:=r.length;have hn:=J3;have I':Inv X vX σ (upd H p (.lst (xs.set j v))) { s with heap:=s.heap.update p (Obj.mapSeq (·.setIfInBounds j u)) }:=
  I.lstUpd hp ho (z2n its n j u) (r.set rv j) (by rw [vE];exact hz) s.toks
 by_cases h0:0<=k
 ·have hk:k.toNat=j:=by
   rw [seqIndex_of h0 h4] at h1;exact kH h1
  exact PySem.W.ki_setAt ho h0 (by lia) (by rw [kK,<-hl];exact h4) (by rw [hk];exact ⟨_,I',q⟩)
 ·have hk:(k+(its.toArray.size:Int)).toNat=j:=by
   rw [seqIndex_neg (by lia) h3] at h1;rw [kK,<-hl];exact kH h1
  exact PySem.W.ki_setBack ho (by lia) (by rw [kK,<-hl];exact h3) (by lia) (by rw [hk];exact ⟨_,I',q⟩)
theorem z0n (lo hi:Option Int) (n:Nat):(sliceBounds lo hi none n).1=((HT.sIx n 0 lo:Nat):Int)/\(sliceBounds lo hi none n).2.1=((HT.sIx n n hi:Nat):Int)/\(sliceBounds lo hi none n).2.2=1:=by
 refine ⟨?_,?_,rfl⟩
 ·cases lo with
  | none=>simp [sliceBounds,HT.sIx]
  | some i=>
   simp only [sliceBounds,HT.sIx,Option.getD_none,show (1:Int) > 0 by decide,if_true];by_cases h:i < 0
   ·simp only [h,if_true] <;> lia
   ·simp only [h,if_false] <;> lia
 ·cases hi with
  | none=>simp [sliceBounds,HT.sIx]
  | some i=>
   simp only [sliceBounds,HT.sIx,Option.getD_none,show (1:Int) > 0 by decide,if_true];by_cases h:i < 0
   ·simp only [h,if_true] <;> lia
   ·simp only [h,if_false] <;> lia
theorem JB (its:List Value) (lo hi:Option Int):slicePick its.toArray lo hi none=((its.drop (HT.sIx its.length 0 lo)).take (HT.sIx its.length its.length hi - HT.sIx its.length 0 lo)).toArray:=by
 obtain ⟨h1,h2,h3⟩:=z0n lo hi its.toArray.size;unfold slicePick;rw [h1,h2,h3];simp only [sliceRange_one,pick_run,kK] <;> rfl
def rSlL (K:kE):V->Option Int->Option Int->Hp->VK->Prop:=fun x lo hi H Q=>∃a xs,x=.ref a/\SqL K H a xs/\∀p,H p=none->Q (.ref p) (upd H p (.lst (cutV xs lo hi)))
theorem z6J:SlR X (rSlL X.K):=by
 intro vX s σ H x v vl vu lo hi sl Q I rx hs pl pu h;obtain ⟨a,xs,rfl,hx,q⟩:=h;cases rx;obtain ⟨its,r,ht,hz⟩:=I.list hx;have hlen:=r.length;refine ⟨"list",_,slot_list_getitem.lookup,ht.isList.typeIs,?_⟩;refine wpAny_getItem_list_slice ht.isList hs pl pu .none (by simp) ?_ (by rw [kK] <;> lia);rw [JB,<-hlen];refine ⟨.ref s.heap.objs.size,_,I.laid (t':=s.toks) (o:=.lst (cutV xs lo hi)) (fun b ob q=>vb _ q) (ki _) ?_,rfl,q _ (I.hok.fresh (ki _))⟩;exact ⟨kD (ZQ xs lo hi) hz,_,0,(r.drop (HT.sIx xs.length 0 lo)).take (HT.sIx xs.length xs.length hi - HT.sIx xs.length 0 lo),vg _ rfl⟩
noncomputable def QE:V->Bool
 | .non=>true
 | .bl _=>true
 | .int _=>true
 | .str _=>true
 | _=>false
noncomputable def eqV:V->V->Bool
 | .non,.non=>true
 | .bl a,.bl b=>a == b
 | .bl a,.int b=>(if a then 1 else 0) == b
 | .int a,.bl b=>a == (if b then 1 else 0)
 | .int a,.int b=>a == b
 | .str a,.str b=>a == b
 | _,_=>false
theorem z3U {A:Around} {s:Shared} {y x:V} {u v:Value} (ry:RelV y u) (rx:RelV x v) (fy:QE y=true) (fx:QE x=true):SeqAt.EqAt A s u v (eqV y x):=by
 cases y with
 | non=>
  cases ry;cases x with
  | non=>cases rx;exact SeqAt.EqAt.same _
  | bl b=>cases rx;exact SeqAt.EqAt.none_bool b
  | int b=>obtain ⟨t,rfl⟩:=rx;exact SeqAt.EqAt.none_int b t
  | str b=>obtain ⟨t,rfl⟩:=rx;exact SeqAt.EqAt.none_str b t
  | _=>exact vd (show false=true from fx) ke
 | bl a=>
  cases ry;cases x with
  | non=>cases rx;exact SeqAt.EqAt.bool_none a
  | bl b=>cases rx;exact SeqAt.EqAt.bool_bool a b
  | int b=>obtain ⟨t,rfl⟩:=rx;exact SeqAt.EqAt.bool_int a b t
  | str b=>obtain ⟨t,rfl⟩:=rx;exact SeqAt.EqAt.bool_str a b t
  | _=>exact vd (show false=true from fx) ke
 | int a=>
  obtain ⟨t',rfl⟩:=ry;cases x with
  | non=>cases rx;exact SeqAt.EqAt.int_none a t'
  | bl b=>cases rx;exact SeqAt.EqAt.int_bool a t' b
  | int b=>obtain ⟨t,rfl⟩:=rx;exact SeqAt.EqAt.int_int a t' b t
  | str b=>obtain ⟨t,rfl⟩:=rx;exact SeqAt.EqAt.int_str a t' b t
  | _=>exact vd (show false=true from fx) ke
 | str a=>
  obtain ⟨t',rfl⟩:=ry;cases x with
  | non=>cases rx;exact SeqAt.EqAt.str_none a t'
  | bl b=>cases rx;exact SeqAt.EqAt.str_bool a t' b
  | int b=>obtain ⟨t,rfl⟩:=rx;exact SeqAt.EqAt.str_int a t' b t
  | str b=>obtain ⟨t,rfl⟩:=rx;exact SeqAt.EqAt.str_str a t' b t
  | _=>exact vd (show false=true from fx) ke
 | _=>exact vd (show false=true from fy) ke
noncomputable def eqU (x:V) (u:Value):Bool:=match u with
 | .none=>eqV .non x
 | .bool b=>eqV (.bl b) x
 | .int i _=>eqV (.int i) x
 | .str z _=>eqV (.str z) x
 | _=>false
theorem z6p {x y:V} {u:Value} (r:RelV y u) (f:QE y=true):eqU x u=eqV y x:=by
 cases y with
 | non=>cases r;rfl
 | bl b=>cases r;rfl
 | int i=>obtain ⟨t,rfl⟩:=r;rfl
 | str z=>obtain ⟨t,rfl⟩:=r;rfl
 | _=>exact vd (show false=true from f) ke
theorem Jc {x:V}:∀{xs:List V} {us:List Value},Vals xs us->xs.all QE=true->us.any (eqU x)=xs.any fun y=>eqV y x
 | _,_,.nil,_=>rfl
 | y :: xs,u :: us,.cons r t,f=>by
  rw [List.all_cons,yj] at f;rw [List.any_cons,List.any_cons,z6p r f.1,Jc t f.2]
theorem Q0 {A:Around} {s:Shared} {x:V} {v:Value} (rx:RelV x v) (fx:QE x=true):∀{xs:List V} {us:List Value},Vals xs us->xs.all QE=true->∀u∈us,SeqAt.EqAt A s u v (eqU x u)
 | _,_,.nil,_=>fun u hu=>by cases hu
 | y :: xs,u :: us,.cons r t,f=>fun u' hu=>by
  rw [List.all_cons,yj] at f;rcases kJ.mp hu with rfl | hu
  ·rw [z6p r f.1];exact z3U r rx f.1 fx
  ·exact Q0 rx fx t f.2 u' hu
noncomputable def inV (x:V) (xs:List V):Bool:=xs.any fun y=>eqV y x
def rIn (K:kE) (neg:Bool):R2:=fun x y H Q=>∃p xs,y=.ref p/\(SqL K H p xs\/SqT K H p xs)/\QE x=true/\xs.all QE=true/\Q (.bl (if neg then !inV x xs else inV x xs)) H
theorem jh:OpR X (compareOp .In) (rIn X.K false):=by
 intro vX s σ H x y v u Q I rx ry h;obtain ⟨p,xs,rfl,hq,fx,fs,q⟩:=h;cases ry;rcases hq with hq | hq
 ·obtain ⟨its,r,pl,hz⟩:=I.list hq;refine SeqAt.in_listAt (eqU x) pl.isList (fun w hw=>Q0 rx fx r fs w (by simpa using hw)) ⟨.bl _,H,I,rfl,?_⟩;rw [show its.toArray.any (eqU x)=its.any (eqU x) by simp,Jc r fs];exact q
 ·obtain ⟨its,r,pl,hz⟩:=I.tuple hq;refine SeqAt.in_tupleAt (eqU x) pl (fun w hw=>Q0 rx fx r fs w (by simpa using hw)) ⟨.bl _,H,I,rfl,?_⟩;rw [show its.toArray.any (eqU x)=its.any (eqU x) by simp,Jc r fs];exact q
theorem z0q:OpR X (compareOp .NotIn) (rIn X.K true):=by
 intro vX s σ H x y v u Q I rx ry h;obtain ⟨p,xs,rfl,hq,fx,fs,q⟩:=h;cases ry;rcases hq with hq | hq
 ·obtain ⟨its,r,pl,hz⟩:=I.list hq;refine SeqAt.notIn_listAt (eqU x) pl.isList (fun w hw=>Q0 rx fx r fs w (by simpa using hw)) ⟨.bl _,H,I,rfl,?_⟩;rw [show its.toArray.any (eqU x)=its.any (eqU x) by simp,Jc r fs];exact q
 ·obtain ⟨its,r,pl,hz⟩:=I.tuple hq;refine SeqAt.notIn_tupleAt (eqU x) pl (fun w hw=>Q0 rx fx r fs w (by simpa using hw)) ⟨.bl _,H,I,rfl,?_⟩;rw [show its.toArray.any (eqU x)=its.any (eqU x) by simp,Jc r fs];exact q
theorem zW:Zx X (.builtin "len") (fun xs H Q=>∃p ys,xs=[.ref p]/\(SqL X.K H p ys\/SqT X.K H p ys)/\Q (.int ys.length) H):=by
 intro vX s σ H xs us Q I r h;obtain ⟨p,ys,rfl,hq,q⟩:=h;obtain ⟨u,rfl,rx⟩:=Jd r;cases rx;have hn:=J3;rcases hq with hq | hq
 ·obtain ⟨its,r',pl,hz⟩:=I.list hq;have hlen:=r'.length;exact Calls.call_len_list pl.isList (by simp only [kK] <;> lia) ⟨.int ys.length,H,I.tok _,⟨s.toks+1,by rw [kK,hlen]⟩,q⟩
 ·obtain ⟨its,r',pl,hz⟩:=I.tuple hq;have hlen:=r'.length;exact len_tuple pl (by simp only [kK] <;> lia) ⟨.int ys.length,H,I.tok _,⟨s.toks+1,by rw [kK,hlen]⟩,q⟩
theorem z0R:Zx X (.builtin "len") (fun xs H Q=>∃z,xs=[.str z]/\z.length<=sizeLine/\Q (.int z.length) H):=by
 intro vX s σ H xs us Q I r h;obtain ⟨z,rfl,hz,q⟩:=h;obtain ⟨u,rfl,t,rfl⟩:=Jd r;have hn:=J3;exact len_str (by lia) ⟨.int z.length,H,I.tok _,⟨_,rfl⟩,q⟩
theorem jL:Zx X (.type "list") (fun xs H Q=>∃p ys,xs=[.ref p]/\(SqL X.K H p ys\/SqT X.K H p ys)/\∀l,H l=none->Q (.ref l) (upd H l (.lst ys))):=by
 intro vX s σ H xs us Q I r h;obtain ⟨p,ys,rfl,hq,q⟩:=h;obtain ⟨u,rfl,rx⟩:=Jd r;cases rx;have fin:∀(its:List Value),Vals ys its->ys.length<=sizeLine->∀(h':Heap) (c':Nat),(∀b o',s.heap.get? b=some o'->h'.get? b=some o')->
   h'.get? s.heap.objs.size=some { cls:=.type "list",dict:=none,data:=.seq its.toArray c',slots:=#[] }->EP X vX σ Q (.ref s.heap.objs.size) { s with heap:=h' }:=fun its r' hz h' c' kp e=>
  ⟨.ref s.heap.objs.size,_,I.laid (t':=s.toks) kp (ki _) (show qK X.prog X.w _ h' _ (.lst ys) from ⟨hz,its,c',r',e⟩),rfl,q _ (I.hok.fresh (ki _))⟩
 rcases hq with hq | hq
 ·obtain ⟨its,r',pl,hz⟩:=I.list hq;have hlen:=r'.length;obtain ⟨o,ho,hc,n,hd⟩:=pl.isList;exact call_list_seq p (.inl rfl) ho hc hd (fun h' c' kp e=>fin its r' hz h' c' kp e) (by simp only [kK] <;> lia)
 ·obtain ⟨its,r',pl,hz⟩:=I.tuple hq;have hlen:=r'.length;obtain ⟨o,ho,hc,n,hd⟩:=pl;exact call_list_seq p (.inr rfl) ho hc hd (fun h' c' kp e=>fin its r' hz h' c' kp e) (by simp only [kK] <;> lia)
theorem z05:Zx X (.type "tuple") (fun xs H Q=>∃p ys,xs=[.ref p]/\((SqL X.K H p ys/\∀l,H l=none->Q (.ref l) (upd H l (.tup ys)))\/(SqT X.K H p ys/\Q (.ref p) H))):=by
 intro vX s σ H xs us Q I r h;obtain ⟨p,ys,rfl,h⟩:=h;obtain ⟨u,rfl,rx⟩:=Jd r;cases rx;rcases h with ⟨hq,q⟩ | ⟨hq,q⟩
 ·obtain ⟨its,r',pl,hz⟩:=I.list hq;have hlen:=r'.length;refine call_tuple_list pl.isList (fun h' kp=>?_) (by simp only [kK] <;> lia);have I1:Inv X vX σ H { s with heap:=h' }:=I.kept (t':=s.toks) kp;have I2:Inv X vX σ (upd H h'.objs.size (.tup ys)) { s with heap:=h'.push { cls:=.type "tuple",data:=.seq its.toArray } }:=
   I1.laid (t':=s.toks) (fun b o e=>vb _ e) (ki _) (show qK X.prog X.w _ _ _ (.tup ys) from ⟨hz,its,r',IsTup.new _ _⟩)
  exact ⟨.ref h'.objs.size,_,I2,rfl,q _ (I1.hok.fresh (ki _))⟩
 ·obtain ⟨its,r',pl,hz⟩:=I.tuple hq;exact call_tuple_same pl ⟨.ref p,H,I,rfl,q⟩
def tyV (K:kE) (T:String) (x:V) (H:Hp):Prop:=match x with
 | .str _=>T="str"
 | .int _=>T="int"
 | .ref p=>(T="list"/\∃xs,SqL K H p xs)\/(T="tuple"/\∃o,K.lookup p=some o/\o.cls=.type "tuple"/\o.dict=none)\/
   (T="dict"/\((∃kvs,H p=some (.dK kvs))\/∃kvs,H p=some (.dT kvs)))\/(T="set"/\∃S n,H p=some (.set S n))
 | _=>False
theorem z5T {vX:List (Addr × Obj)} {σ:St} {H:Hp} {s:Shared} {T:String} {x:V} {v:Value} (I:Inv X vX σ H s) (r:RelV x v) (ty:tyV X.K T x H):
  s.TypeIs v T/\∀a,v=.ref a->∃ob,s.heap.get? a=some ob/\ob.dict=none:=by
 cases x with
 | str z=>
  obtain ⟨t,rfl⟩:=r;cases (show T="str" from ty);exact ⟨typeIs_str s z t,fun _ e=>nomatch e⟩
 | int i=>
  obtain ⟨t,rfl⟩:=r;cases (show T="int" from ty);exact ⟨typeIs_int s i t,fun _ e=>nomatch e⟩
 | ref p=>
  cases r;rcases ty with ⟨rfl,xs,hq⟩ | ⟨rfl,o,hk,hc,hd⟩ | ⟨rfl,hk⟩ | ⟨rfl,S,n,hk⟩
  ·obtain ⟨its,_,pl,_⟩:=I.list hq;refine ⟨pl.isList.typeIs,fun a e=>?_⟩;cases e;obtain ⟨o,n,e,c,hd,_⟩:=pl;exact ⟨o,e,hd⟩
  ·refine ⟨⟨o,I.kIn p o hk,hc⟩,fun a e=>?_⟩;cases e;exact ⟨o,I.kIn _ o hk,hd⟩
  ·have z:∃o,s.heap.get? p=some o/\o.ExactDict:=by
    rcases hk with ⟨kvs,hk⟩ | ⟨kvs,hk⟩
    ·obtain ⟨_,_,_,_,o,_,_,e,ex,_⟩:=I.hok p _ hk;exact ⟨o,e,ex⟩
    ·obtain ⟨_,_,_,_,o,_,_,e,ex,_⟩:=I.hok p _ hk;exact ⟨o,e,ex⟩
   obtain ⟨o,e,ex⟩:=z;refine ⟨⟨o,e,ex.1⟩,fun a e2=>?_⟩;cases e2;exact ⟨o,e,ex.2.1⟩
  ·obtain ⟨o,_,_,_,e,ex,_⟩:=I.hok p _ hk;refine ⟨⟨o,e,ex.1⟩,fun a e2=>?_⟩;cases e2;exact ⟨o,e,ex.2.1⟩
 | _=>exact False.elim ty
def tBM0 (K:kE) (T:String) (r:V->List V->Hp->VK->Prop) (to:TE):TE:=fun σ H Q=>to σ H fun x H1=>tyV K T x H1/\r x [] H1 Q
def tBM (K:kE) (T:String) (r:V->List V->Hp->VK->Prop) (to:TE) (t:TA):TE:=fun σ H Q=>to σ H fun x H1=>tyV K T x H1/\t σ H1 fun xs H2=>r x xs H2 Q
variable {o e:Expr} {es:List Expr} {to:TE} {t:TA} {name:Str} {apos cpos:Pos} {T id:String} {r:V->List V->Hp->VK->Prop}
theorem z1M (pa:PlainAttrs T) (slot:Slot T name id) (hty:typeOf (.builtin id)=pure (.type "method_descriptor")) (hm:MtR X id r) (ho:PE X o to)
  (hbase:autoParam (attributeBase o name X.env (eval o X.env)=eval o X.env) aR._auto_1) (hline:autoParam ((apos.endLine == cpos.line)=true) aR._auto_1):PE X (.Call (.Attribute o name apos) [] [] cpos) (tBM0 X.K T r to):=by
 intro vX s σ H Q I h;refine wpAny_Call_method0_late hbase hline (thn (ho vX s σ H _ I h) fun v s1 zz=>?_);obtain ⟨x,H1,I1,r1,ty,q1⟩:=zz;obtain ⟨h1,h2⟩:=z5T I1 r1 ty;exact ⟨T,id,pa,slot,hty,h1,h2,vC rfl (PySem.evalArgs_none (hm vX s1 σ H1 x [] v [] Q I1 r1 .nil q1))⟩
theorem z8L (pa:PlainAttrs T) (slot:Slot T name id) (hty:typeOf (.builtin id)=pure (.type "method_descriptor")) (hm:MtR X id r) (ho:PE X o to) (ha:PA X (e :: es) t)
  (hbase:autoParam (attributeBase o name X.env (eval o X.env)=eval o X.env) aR._auto_1)
  (hfew:autoParam (((backTo cpos (starEach (e :: es) X.env)).all (fun x=> !x.1)&&(backToKw cpos (keywordEach [] X.env)).all (fun x=>x.1.isSome)
   &&decide ((e :: es).length+([]:List Keyword).length+(if ([]:List Keyword).isEmpty then 0 else 1) < 30))=true) aR._auto_1)
  (hline:autoParam ((apos.endLine == cpos.line)=true) aR._auto_1) (hs:autoParam (starEach (e :: es) X.env=(false,eval e X.env) :: starEach es X.env) aR._auto_1) (hplain:autoParam ((backTo cpos (starEach es X.env)).any (·.1)=false) aR._auto_1):
  PE X (.Call (.Attribute o name apos) (e :: es) [] cpos) (tBM X.K T r to t):=by
 intro vX s σ H Q I h;refine wpAny_Call_method_late hbase hfew hline rfl (thn (ho vX s σ H _ I h) fun v s1 zz=>?_);obtain ⟨x,H1,I1,r1,ty,q1⟩:=zz;obtain ⟨h1,h2⟩:=z5T I1 r1 ty;refine ⟨T,id,pa,slot,hty,h1,h2,?_⟩;have hA:=ha cpos vX s1 σ H1 _ I1 q1;rw [hs] at hA ⊢
 refine vC (by show (false||(backTo cpos (starEach es X.env)).any (·.1))=false;rw [hplain] <;> rfl) (Calls.evalArgs_plain ?_);exact thn hA fun us s2 ⟨vs,H2,I2,r2,q2⟩=>hm vX s2 σ H2 x vs v us Q I2 r1 r2 q2
end
end L2
namespace L2
def MtM (X:Cx) (id:String) (r:V->List V->Hp->VK->Prop):Prop:=
 ∀(vX:List (Addr × Obj)) (s:Shared) (σ:St) (H:Hp) (x:V) (xs:List V) (v:Value) (us:List Value) (Q:VK),Inv X vX σ H s->RelV x v->Vals xs us->r x xs H Q->
  wpAny (model X.prog X.w) X.A (call (.builtin id) (v :: us)) (EP X vX σ Q) X.xe s
theorem Vals.one:∀{x:V} {us:List Value},Vals [x] us->∃u,us=[u]/\RelV x u
 | _,_,.cons r .nil=>⟨_,rfl,r⟩
theorem Vals.two:∀{x y:V} {us:List Value},Vals [x,y] us->∃u v,us=[u,v]/\RelV x u/\RelV y v
 | _,_,_,.cons r (.cons q .nil)=>⟨_,_,rfl,r,q⟩
theorem Vals.zero:∀{us:List Value},Vals [] us->us=[]
 | _,.nil=>rfl
theorem Vals.dropLast {xs:List V} {us:List Value} (h:Vals xs us):Vals xs.dropLast us.dropLast:=by
 induction h with
 | nil=>exact .nil
 | cons r t ih=>
  cases t with
  | nil=>exact .nil
  | cons q t'=>exact .cons r ih
theorem Vals.eraseIdx:∀{xs:List V} {us:List Value} (i:Nat),Vals xs us->Vals (xs.eraseIdx i) (us.eraseIdx i)
 | _,_,_,.nil=>.nil
 | _,_,0,.cons _ t=>t
 | _,_,i+1,.cons r t=>.cons r (Vals.eraseIdx i t)
theorem Vals.rep {xs:List V} {us:List Value} (h:Vals xs us):∀k:Nat,Vals (List.replicate k xs).flatten (List.replicate k us).flatten
 | 0=>.nil
 | k+1=>by
  rw [vD,vD,vU,vU];exact Vals.append h (Vals.rep h k)
theorem z2D {α:Type} (l:List α):l.eraseIdx (l.length - 1)=l.dropLast:=by
 induction l with
 | nil=>rfl
 | cons a r ih=>
  cases r with
  | nil=>rfl
  | cons b r=>
   have e:(a :: b :: r).length - 1=((b :: r).length - 1)+1:=by
    have h1:(a :: b :: r).length=r.length+2:=rfl;have h2:(b :: r).length=r.length+1:=rfl;lia
   rw [e,List.eraseIdx_cons_succ,ih];all_goals rfl
theorem z0v {α:Type}:∀(l:List α) (i:Nat),(l.eraseIdx i).length<=l.length
 | [],_=>ki _
 | _ :: _,0=>Nat.le_succ _
 | _ :: r,i+1=>Nat.succ_le_succ (z0v r i)
theorem z0D (its:List Value):∀(k:Nat) (acc:List Value),
  List.foldl (fun x1 x2=>x1++x2) acc.toArray (List.replicate k its.toArray)=(acc++(List.replicate k its).flatten).toArray
 | 0,acc=>by simp
 | k+1,acc=>by
  have e:acc.toArray++its.toArray=(acc++its).toArray:=by simp
  have e2:(acc++its)++(List.replicate k its).flatten=acc++(List.replicate (k+1) its).flatten:=by
   rw [vD,vU,yd]
  rw [<-e2,<-z0D its k (acc++its),<-e,vD,List.foldl_cons]
section
variable {X:Cx} {vX:List (Addr × Obj)} {σ:St} {H:Hp} {s:Shared} {l b:Addr} {xs ys zs:List V}
theorem Inv.lset {its its':List Value} {n:Nat} {f:Array Value->Array Value} {t':Nat} (I:Inv X vX σ H s) (hH:H l=some (.lst xs))
  (e:s.heap.get? l=some { cls:=.type "list",data:=.seq its.toArray n }) (hf:f its.toArray=its'.toArray) (hv:Vals ys its') (hz:ys.length<=sizeLine):
  Inv X vX σ (upd H l (.lst ys)) { s with heap:=s.heap.update l (Obj.mapSeq f),toks:=t' }:=by
 have q:=PySem.IsL.update e f;rw [hf] at q;refine I.write (x:=l) (e:=l) (by rw [hH];exact trivial) (.inl rfl) (fun b' u hb hu=>(Heap.get?_update_other s.heap (Obj.mapSeq f) (Ne.symm hb)).trans hu) ⟨_,q⟩ ?_;exact ⟨hz,its',_,hv,q⟩
theorem Inv.lnew {its:List Value} {t':Nat} (I:Inv X vX σ H s) (hv:Vals ys its) (hz:ys.length<=sizeLine):
  Inv X vX σ (upd H s.heap.objs.size (.lst ys)) { s with heap:=s.heap.push { cls:=.type "list",data:=.seq its.toArray },toks:=t' }:=
 I.laid (fun _ _ q=>vb _ q) (ki _) ⟨hz,its,0,hv,vg _ rfl⟩
theorem Inv.fresh (I:Inv X vX σ H s):H s.heap.objs.size=none:=I.hok.fresh (ki _)
theorem Inv.lstM (I:Inv X vX σ H s) (hH:H l=some (.lst xs)):xs.length<=sizeLine/\∃(its:List Value) (n:Nat),Vals xs its/\xs.length=its.length/\s.heap.get? l=some { cls:=.type "list",data:=.seq its.toArray n }:=by
 obtain ⟨z,its,n,r,e⟩:=I.hok l _ hH;exact ⟨z,its,n,r,r.length,e⟩
theorem z4V {n:Nat} (h:n<=sizeLine):Builtin.List.listTooLong n=false:=by
 unfold Builtin.List.listTooLong;exact km (by lia)
end
section
variable {X:Cx}
def z1a:V->List V->Hp->VK->Prop:=fun x vs H Q=>∃l xs y,x=.ref l/\vs=[y]/\H l=some (.lst xs)/\xs.length < sizeLine/\Q .non (upd H l (.lst (xs++[y])))
theorem z3v:MtM X "list.append" z1a:=by
 intro vX s σ H x vs v us Q I rx rv h;obtain ⟨l,xs,y,rfl,rfl,hH,hz,q⟩:=h;cases rx;obtain ⟨u,rfl,ru⟩:=rv.one;obtain ⟨z,its,n,r,hl,e⟩:=I.lstM hH;refine call_meets F.slot_list_append ⟨_,e,rfl⟩ F.entry_list_append (F.args_list_append_2 _ _) (PySem.list_append l its.toArray n u (by rw [kK];lia)) ⟨e,?_⟩;refine ⟨.non,_,I.lset (its':=its++[u]) hH e (by simp) (r.append (.cons ru .nil)) ?_,rfl,q⟩;rw [ku,kL];lia
def rPop:V->List V->Hp->VK->Prop:=fun x vs H Q=>∃l xs y,x=.ref l/\vs=[]/\H l=some (.lst xs)/\xs[xs.length - 1]?=some y/\Q y (upd H l (.lst xs.dropLast))
theorem z8Z:MtM X "list.pop" rPop:=by
 intro vX s σ H x vs v us Q I rx rv h;obtain ⟨l,xs,y,rfl,rfl,hH,hy,q⟩:=h;cases rx;have hus:=rv.zero;subst hus;obtain ⟨z,its,n,r,hl,e⟩:=I.lstM hH;obtain ⟨u,hu,ru⟩:=r.get hy;have hy':its.toArray[its.toArray.size - 1]?=some u:=by
  show its.toArray[its.length - 1]?=some u;rw [<-Array.getElem?_toList,<-hl];exact hu
 refine call_meets F.slot_list_pop ⟨_,e,rfl⟩ F.entry_list_pop (F.args_list_pop_1 _) (MeetsSeq.list_pop_last l its.toArray n u hy' (by rw [kK];lia)) ⟨e,?_⟩;refine ⟨y,_,I.lset (its':=its.dropLast) hH e ?_ r.dropLast ?_,ru,q⟩
 ·show its.toArray.eraseIdxIfInBounds (its.toArray.size - 1)=its.dropLast.toArray;rw [kK,List.eraseIdxIfInBounds_toArray,z2D]
 ·rw [List.length_dropLast];lia
def z8E:V->List V->Hp->VK->Prop:=fun x vs H Q=>∃l xs i k y,x=.ref l/\vs=[.int i]/\H l=some (.lst xs)/\-(2 ^ 63)<=i/\i < 2 ^ 63/\seqIndex? i xs.length=some k/\xs[k]?=some y/\Q y (upd H l (.lst (xs.eraseIdx k)))
theorem z4X:MtM X "list.pop" z8E:=by
 intro vX s σ H x vs v us Q I rx rv h;obtain ⟨l,xs,i,k,y,rfl,rfl,hH,h1,h2,hk,hy,q⟩:=h;cases rx;obtain ⟨u,rfl,ru⟩:=rv.one;obtain ⟨t,rfl⟩:=ru;obtain ⟨z,its,n,r,hl,e⟩:=I.lstM hH;obtain ⟨w,hw,rw'⟩:=r.get hy;refine call_meets F.slot_list_pop ⟨_,e,rfl⟩ F.entry_list_pop (F.args_list_pop_2 _ _)
  (MeetsSeq.list_pop_at l its.toArray n i t k w (fitsIndex_both h1 h2) (by rw [kK,<-hl];exact hk) (by rw [<-Array.getElem?_toList];exact hw) (by rw [kK];lia)) ⟨e,?_⟩
 refine ⟨y,_,I.lset (its':=its.eraseIdx k) hH e ?_ (r.eraseIdx k) ?_,rw',q⟩
 ·show its.toArray.eraseIdxIfInBounds k=(its.eraseIdx k).toArray;rw [List.eraseIdxIfInBounds_toArray]
 ·have:=z0v xs k
  lia
def rCat:R2:=fun x y H Q=>∃l b xs zs,x=.ref l/\y=.ref b/\H l=some (.lst xs)/\H b=some (.lst zs)/\xs.length+zs.length<=sizeLine/\∀p,H p=none->Q (.ref p) (upd H p (.lst (xs++zs)))
theorem z3q:OpR X (binaryOp .Add) rCat:=by
 intro vX s σ H x y v u Q I rx ry h;obtain ⟨l,b,xs,zs,rfl,rfl,hH,hB,hz,q⟩:=h;cases rx;cases ry;obtain ⟨z,its,n,r,hl,e⟩:=I.lstM hH;obtain ⟨z2,its2,n2,r2,hl2,e2⟩:=I.lstM hB;refine PySem.P.add_list e e2 ?_ (by rw [kK,kK];lia);have ea:its.toArray++its2.toArray=(its++its2).toArray:=by simp
 rw [ea];exact ⟨.ref _,_,I.lnew (t':=s.toks) (r.append r2) (by rw [ku];lia),rfl,q _ I.fresh⟩
def rRep:R2:=fun x y H Q=>∃l k xs,x=.ref l/\y=.int k/\H l=some (.lst xs)/\-(2 ^ 63)<=k/\k < 2 ^ 63/\xs.length * k.toNat<=sizeLine/\
 ∀p,H p=none->Q (.ref p) (upd H p (.lst (List.replicate k.toNat xs).flatten))
theorem z76 {α:Type} (xs:List α) (k:Nat):(List.replicate k xs).flatten.length=k * xs.length:=by
 induction k with
 | zero=>simp
 | succ k ih=>rw [vD,vU,ku,ih,Nat.succ_mul,Nat.add_comm]
theorem z6g:OpR X (binaryOp .Mult) rRep:=by
 intro vX s σ H x y v u Q I rx ry h;obtain ⟨l,k,xs,rfl,rfl,hH,h1,h2,hz,q⟩:=h;cases rx;obtain ⟨t,rfl⟩:=ry;obtain ⟨z,its,n,r,hl,e⟩:=I.lstM hH;have hlen:its.toArray.size * k.toNat<=sizeLine:=by rw [kK,<-hl];exact hz
 have hcap:¬its.toArray.size * k.toNat > (2 ^ 63 - 1) / 8:=by
  have:(sizeLine:Nat)<=(2 ^ 63 - 1) / 8:=by decide
  lia
 have hfit:¬(!Builtin.List.listFitsIndex k)=true:=by
  rw [fitsIndex_both h1 h2];exact ke
 have hlong:¬Builtin.List.listTooLong (its.toArray.size * k.toNat)=true:=by
  rw [z4V hlen];exact ke
 have hnew:List.foldl (fun x1 x2=>x1++x2) #[] (List.replicate (if its.toArray.isEmpty=true then 0 else k.toNat) its.toArray)=(List.replicate k.toNat its).flatten.toArray:=by
  have f0:∀m:Nat,List.foldl (fun x1 x2=>x1++x2) #[] (List.replicate m its.toArray)=(List.replicate m its).flatten.toArray:=fun m=>by
   have:=z0D its m []
   rw [List.nil_append] at this;exact this
  rw [f0];cases its with
  | nil=>simp
  | cons a r'=>rw [kF (by simp)]
 refine wpAny_binaryOp_repeat_ref (T:="list") (U:="int") (by decide) ⟨_,e,rfl⟩ (fun s'=>typeIs_int s' k t) noFill_list_mul F.fills_int_mul F.slot_int_rmul repeat_list F.slot_int_index.lookup
  (call_meets F.slot_int_rmul (typeIs_int s k t) F.entry_int_rmul (F.args_int_rmul_2 _ _) (int___rmul___int_list k t l its.toArray n)
   ⟨e,rfl,⟨_,e,rfl⟩,call_meets F.slot_list_mul ⟨_,e,rfl⟩ F.entry_list_mul (F.args_list_mul_2 _ _) (AutoListH.list___mul___list_int_3 l its.toArray n k t hfit hcap hlong) ⟨e,?_⟩⟩)
 rw [hnew];exact ⟨.ref _,_,I.lnew (t':=s.toks) (r.rep k.toNat) (by rw [z76,Nat.mul_comm];exact hz),rfl,q _ I.fresh⟩
end
section
variable {prog:Program} {w:World} {A:Around} {E:Value->Shared->Prop} {s:Shared}
set_option maxRecDepth 100000 in
end
section
variable {X:Cx}
end
end L2
namespace L2
section
variable {κ:Type} [DecidableEq κ]
noncomputable def valV (kvs:List (κ × V)) (k:κ):Option V:=(kvs.find? fun kv=>decide (kv.1=k)).map (·.2)
noncomputable def putK (kvs:List (κ × V)) (k:κ) (v:V):List (κ × V):=
 if (kvs.any fun kv=>decide (kv.1=k))=true then kvs.map (fun kv=>if kv.1=k then (kv.1,v) else kv) else kvs++[(k,v)]
noncomputable def z02 (kvs:List (κ × V)) (k:κ):List (κ × V):=kvs.filter fun kv=>decide (kv.1≠k)
theorem qY {p:κ × V} {r:List (κ × V)} {k:κ} (e:p.1=k):valV (p :: r) k=some p.2:=by simp [valV,vM,e]
theorem qZ {p:κ × V} {r:List (κ × V)} {k:κ} (e:¬p.1=k):valV (p :: r) k=valV r k:=by simp [valV,vM,e]
theorem QH (k:κ):∀kvs:List (κ × V),(kvs.any fun kv=>decide (kv.1=k))=(valV kvs k).isSome
 | []=>rfl
 | p :: r=>by
  rw [List.any_cons];by_cases e:p.1=k
  ·simp only [qY e,ko e,Bool.true_or,Option.isSome_some]
  ·rw [qZ e,km e,Bool.false_or];exact QH k r
theorem z1y (k j:κ) (y:V):∀kvs:List (κ × V),valV (kvs.map fun kv=>if kv.1=k then (kv.1,y) else kv) j=(valV kvs j).map fun x=>if j=k then y else x
 | []=>rfl
 | p :: r=>by
  have ih:=z1y k j y r;rw [yb];by_cases h:p.1=k
  ·rw [kG h];by_cases e:p.1=j
   ·rw [qY (p:=(p.1,y)) e,qY e,Option.map_some,kG (e.symm.trans h)]
   ·rw [qZ (p:=(p.1,y)) e,qZ e,ih]
  ·rw [kF h];by_cases e:p.1=j
   ·rw [qY (p:=p) e,qY e,Option.map_some,kF (fun z=>h (e.trans z))]
   ·rw [qZ (p:=p) e,qZ e,ih]
theorem z0d (k j:κ) (y:V):∀kvs:List (κ × V),valV kvs k=none->valV (kvs++[(k,y)]) j=if j=k then some y else valV kvs j
 | [],_=>by
  by_cases e:k=j
  ·rw [kG e.symm];exact qY (p:=(k,y)) e
  ·rw [kF (fun z=>e z.symm)];exact qZ (p:=(k,y)) e
 | p :: r,hn=>by
  rw [List.cons_append];have hk:¬p.1=k:=fun z=>by rw [qY z] at hn;cases hn
  rw [qZ hk] at hn;have ih:=z0d k j y r hn;by_cases e:p.1=j
  ·rw [qY e,qY e,kF (fun z=>hk (e.trans z))]
  ·rw [qZ e,qZ e,ih]
theorem QG (kvs:List (κ × V)) (k j:κ) (y:V):valV (putK kvs k y) j=if j=k then some y else valV kvs j:=by
 unfold putK;by_cases a:(kvs.any fun kv=>decide (kv.1=k))=true
 ·rw [kG a,z1y];rw [QH] at a;by_cases e:j=k
  ·obtain ⟨x,hx⟩:=Option.isSome_iff_exists.mp a;rw [kG e,e,hx,Option.map_some,kG rfl]
  ·rw [kF e];cases valV kvs j with
   | none=>rfl
   | some x=>rw [Option.map_some,kF e]
 ·rw [kF a];refine z0d k j y kvs ?_;rw [QH] at a;cases q:valV kvs k with
  | none=>rfl
  | some x=>rw [q] at a;exact (a rfl).elim
theorem j9 (kvs:List (κ × V)) (k:κ) (v:V):(putK kvs k v).length<=kvs.length+1:=by
 unfold putK;split
 ·rw [kq];lia
 ·rw [ku,kX,List.length_nil];lia
theorem RelO.isSome_eq {o:Option V} {u:Option Value} (r:RelO o u):o.isSome=u.isSome:=by
 cases o with
 | none=>cases u with
  | none=>rfl
  | some _=>exact (show False from r).elim
 | some _=>cases u with
  | none=>exact (show False from r).elim
  | some _=>rfl
theorem RelO.getD {o:Option V} {u:Option Value} {d:V} {d':Value} (r:RelO o u) (rd:RelV d d'):RelV (o.getD d) (u.getD d'):=by
 cases o with
 | none=>cases u with
  | none=>exact rd
  | some _=>exact (show False from r).elim
 | some _=>cases u with
  | none=>exact (show False from r).elim
  | some _=>exact r
theorem KV.val {kvs:List (κ × V)} {vs:List (κ × Value)} (r:KV kvs vs) (k:κ):RelO (valV kvs k) (valueAt vs k):=by
 unfold KV at r;induction r with
 | nil=>exact True.intro
 | @cons p q ps qs h t ih=>
  obtain ⟨h1,h2⟩:=h;by_cases e:p.1=k
  ·have e':q.1=k:=h1.symm.trans e;have b:valueAt (q :: qs) k=some q.2:=by simp [valueAt,vM,e']
   rw [qY e,b];exact h2
  ·have e':¬q.1=k:=fun z=>e (h1.trans z)
   have b:valueAt (q :: qs) k=valueAt qs k:=by simp [valueAt,vM,e']
   rw [qZ e,b];exact ih
theorem KV.any {kvs:List (κ × V)} {vs:List (κ × Value)} (r:KV kvs vs) (k:κ):(kvs.any fun kv=>decide (kv.1=k))=vs.any fun kv=>decide (kv.1=k):=by
 unfold KV at r;induction r with
 | nil=>rfl
 | cons h t ih=>rw [List.any_cons,List.any_cons,ih,h.1]
theorem KV.repl {kvs:List (κ × V)} {vs:List (κ × Value)} (r:KV kvs vs) (k:κ) {y:V} {u:Value} (ry:RelV y u):
  KV (kvs.map fun kv=>if kv.1=k then (kv.1,y) else kv) (vs.map fun kv=>if kv.1=k then (kv.1,u) else kv):=by
 unfold KV at r ⊢
 induction r with
 | nil=>exact .nil
 | @cons p q ps qs h t ih=>
  rw [yb,yb];refine .cons ?_ ih;obtain ⟨h1,h2⟩:=h;by_cases e:p.1=k
  ·rw [kG e,kG (h1.symm.trans e)];exact ⟨h1,ry⟩
  ·rw [kF e,kF (fun z=>e (h1.trans z))];exact ⟨h1,h2⟩
theorem KV.put {kvs:List (κ × V)} {vs:List (κ × Value)} (r:KV kvs vs) (k:κ) {y:V} {u:Value} (ry:RelV y u):KV (putK kvs k y) (stored vs k u):=by
 unfold putK stored;rw [r.any k];by_cases e:(vs.any fun kv=>decide (kv.1=k))=true
 ·rw [kG e,kG e];exact r.repl k ry
 ·rw [kF e,kF e];exact Paired.snoc r ⟨rfl,ry⟩
theorem KV.drop {kvs:List (κ × V)} {vs:List (κ × Value)} (r:KV kvs vs) (k:κ):KV (z02 kvs k) (without vs k):=by
 unfold KV at r ⊢
 unfold z02 without;induction r with
 | nil=>exact .nil
 | @cons p q ps qs h t ih=>
  obtain ⟨h1,h2⟩:=h;rw [List.filter_cons,List.filter_cons];by_cases e:p.1=k
  ·have a:¬decide (p.1≠k)=true:=by simp [e]
   have b:¬decide (q.1≠k)=true:=by simp [h1.symm.trans e]
   rw [kF a,kF b];exact ih
  ·have e':¬q.1=k:=fun z=>e (h1.trans z)
   have a:decide (p.1≠k)=true:=by simp [e]
   have b:decide (q.1≠k)=true:=by simp [e']
   rw [kG a,kG b];exact .cons ⟨h1,h2⟩ ih
theorem KV.length {kvs:List (κ × V)} {vs:List (κ × Value)} (r:KV kvs vs):kvs.length=vs.length:=Paired.length r
theorem z5A (kvs:List (κ × V)) (k:κ):(z02 kvs k).length<=kvs.length:=vT _ _
end
theorem JT {P:Program} {w:World} {k:Key} {u:Value} (r:RelV (kV k) u):(qp P w).is k u=true:=by
 cases k with
 | inl i=>obtain ⟨t,e⟩:=(show ∃t,u=Value.int i t from r);subst e;exact z1j P w i t
 | inr x=>obtain ⟨t,e⟩:=(show ∃t,u=Value.str x t from r);subst e;exact z1i P w x t
theorem z0y {P:Program} {w:World}:∀{ks:List Key} {us:List Value},Vals (ks.map kV) us->ItemsAre (qp P w) ks us
 | [],_,r=>by rw [List.map_nil] at r;cases r;exact .nil
 | k :: ks,_,r=>by
  rw [yb] at r;cases r with
  | cons h t=>exact .cons (JT h) (z0y t)
abbrev KT (H:Hp):List (List Key × V)->List (List Key × Addr × Value)->Prop:=Paired fun p q=>p.1=q.1/\H q.2.1=some (.tup (p.1.map kV))/\RelV p.2 q.2.2
theorem KT.val {H:Hp} {kvs:List (List Key × V)} {xs:List (List Key × Addr × Value)} (r:KT H kvs xs) (k:List Key):RelO (valV kvs k) ((atKey xs k).map (·.2)):=by
 induction r with
 | nil=>exact True.intro
 | @cons p q ps qs h t ih=>
  obtain ⟨h1,_,h2⟩:=h;by_cases e:p.1=k
  ·have e':q.1=k:=h1.symm.trans e;have b:atKey (q :: qs) k=some q.2:=by simp [atKey,vM,e']
   rw [qY e,b];exact h2
  ·have e':¬q.1=k:=fun z=>e (h1.trans z)
   have b:atKey (q :: qs) k=atKey qs k:=by simp [atKey,vM,e']
   rw [qZ e,b];exact ih
theorem KT.repl {H:Hp} {kvs:List (List Key × V)} {xs:List (List Key × Addr × Value)} (r:KT H kvs xs) (k:List Key) {y:V} {u:Value} (ry:RelV y u):
  KT H (kvs.map fun kv=>if kv.1=k then (kv.1,y) else kv) (xs.map (putAt k u)):=by
 induction r with
 | nil=>exact .nil
 | @cons p q ps qs h t ih=>
  rw [yb,yb];refine .cons ?_ ih;obtain ⟨h1,h2,h3⟩:=h;unfold putAt;by_cases e:p.1=k
  ·rw [kG e,kG (h1.symm.trans e)];exact ⟨h1,h2,ry⟩
  ·rw [kF e,kF (fun z=>e (h1.trans z))];exact ⟨h1,h2,h3⟩
theorem KT.put {H:Hp} {kvs:List (List Key × V)} {xs:List (List Key × Addr × Value)} (r:KT H kvs xs) (k:List Key) {b:Addr} {y:V} {u:Value} (hb:H b=some (.tup (k.map kV))) (ry:RelV y u):
  KT H (putK kvs k y) (storedH xs k b u):=by
 have e:(kvs.any fun kv=>decide (kv.1=k))=(atKey xs k).isSome:=by
  rw [QH,(r.val k).isSome_eq,Option.isSome_map]
 unfold putK storedH;rw [e];by_cases q:(atKey xs k).isSome=true
 ·rw [kG q,kG q];exact r.repl k ry
 ·rw [kF q,kF q];exact Paired.snoc r ⟨rfl,hb,ry⟩
theorem KT.keeps {H H':Hp} {kvs:List (List Key × V)} {xs:List (List Key × Addr × Value)} (r:KT H kvs xs) (ht:∀b ys,H b=some (.tup ys)->H' b=some (.tup ys)):KT H' kvs xs:=
 Paired.mapP r fun _ _ z=>⟨z.1,ht _ _ z.2.1,z.2.2⟩
section
variable {P:Program} {w:World} {H:Hp} {h:Heap} {a:Addr}
theorem z8D {u:HO} (ok:HOk P w H h) (e:Rd H a u):qK P w H h a u:=e.ok ok
theorem z03 {kvs:List (Key × V)} (ok:HOk P w H h) (e:Rd H a (.dK kvs)):kvs.length<=sizeLine/\(a == sysModules)=false/\∃vs,KV kvs vs/\h.DictOf (qp P w) a vs:=
 show qK P w H h a (.dK kvs) from z8D ok e
theorem z40 {kvs:List (Key × V)} (ok:HOk P w H h) (e:H a=some (.dK kvs)):kvs.length<=sizeLine/\(a == sysModules)=false/\∃vs,KV kvs vs/\h.DictOf (qp P w) a vs:=z03 ok (.inl e)
theorem Jn {ks:List Key} (ok:HOk P w H h) (e:H a=some (.tup (ks.map kV))):(tupleKind (qp P w)).is h ks a:=by
 obtain ⟨_,its,r,o,h1,h2,n,h3⟩:=(show qK P w H h a (.tup (ks.map kV)) from ok a _ e)
 exact ⟨o,its.toArray,n,h1,h2,h3,by simpa using z0y r⟩
theorem z1r {kvs:List (List Key × V)} (ok:HOk P w H h) (e:Rd H a (.dT kvs)):kvs.length<=sizeLine/\(a == sysModules)=false/\
  ∃xs,KT H kvs xs/\h.DictOfH (tupleKind (qp P w)) a xs:=by
 obtain ⟨z,y,xs,r,o,es,ep,h1,h2,h3,h4,h5⟩:=(show qK P w H h a (.dT kvs) from z8D ok e)
 refine ⟨z,y,xs,r,o,es,ep,h1,h2,h3,h4,fun x hx=>?_,h5⟩;have all:∀{l:List (List Key × V)} {m:List (List Key × Addr × Value)},KT H l m->∀x∈m,(tupleKind (qp P w)).is h x.1 x.2.1:=by
  intro l m q;induction q with
  | nil=>intro x hx;exact nomatch hx
  | @cons p q ps qs hq t ih=>
   intro x hx;rcases kJ.mp hx with e | hx
   ·subst e;exact Jn ok (by rw [<-hq.1];exact hq.2.1)
   ·exact ih x hx
 exact all r x hx
theorem zaw {kvs:List (List Key × V)} (ok:HOk P w H h) (e:H a=some (.dT kvs)):kvs.length<=sizeLine/\(a == sysModules)=false/\
  ∃xs,KT H kvs xs/\h.DictOfH (tupleKind (qp P w)) a xs:=z1r ok (.inl e)
end
def DGet (H:Hp) (a:Addr) (y:V) (r:Option V):Prop:=
 (∃kvs k,Rd H a (.dK kvs)/\y=kV k/\r=valV kvs k)\/∃kvs k b,Rd H a (.dT kvs)/\y=.ref b/\H b=some (.tup (k.map kV))/\r=valV kvs k
def DPut (H:Hp) (a:Addr) (y v:V) (H':Hp):Prop:=
 (∃kvs k,H a=some (.dK kvs)/\y=kV k/\kvs.length < sizeLine/\H'=upd H a (.dK (putK kvs k v)))\/
 ∃kvs k b,H a=some (.dT kvs)/\y=.ref b/\H b=some (.tup (k.map kV))/\kvs.length < sizeLine/\H'=upd H a (.dT (putK kvs k v))
theorem DGet.k {H:Hp} {a:Addr} {kvs:List (Key × V)} {k:Key} (e:H a=some (.dK kvs)):DGet H a (kV k) (valV kvs k):=.inl ⟨kvs,k,.inl e,rfl,rfl⟩
theorem DPut.k {H:Hp} {a:Addr} {kvs:List (Key × V)} {k:Key} {v:V} (e:H a=some (.dK kvs)) (hl:kvs.length < sizeLine):DPut H a (kV k) v (upd H a (.dK (putK kvs k v))):=.inl ⟨kvs,k,e,rfl,hl,rfl⟩
section
variable {X:Cx} {vX:List (Addr × Obj)} {σ:St} {H:Hp} {s:Shared} {a:Addr} {y v:V} {u r:Value} {o:Option V} {A:Around} {E:Value->Shared->Prop}
theorem Inv.big (I:Inv X vX σ H s):sysModules < s.heap.objs.size:=by
 have h:mainGlobals < s.heap.objs.size:=(I.mod.glob.keeps I.bk).lt;exact Nat.lt_trans (by decide) h
theorem z47 {Q:Value->Shared->Prop} (hu:A.units+1 < cLine) (I:Inv X vX σ H s) (g:DGet H a y (some v)) (ry:RelV y u) (h:∀w' s',Inv X vX σ H s'->RelV v w'->Q w' s'):
  wpAny (model X.prog X.w) A (getItem (.ref a) u) Q E s:=by
 rcases g with ⟨kvs,k,e,ey,l⟩ | ⟨kvs,k,b,e,ey,eb,l⟩
 ·subst ey;obtain ⟨z,hd,vs,rel,dd⟩:=z03 I.hok e;obtain ⟨w',hw,rw'⟩:=RelO.some_of (v:=v) (o:=valueAt vs k) (by rw [l];exact rel.val k);exact wpAny_getItem_of (JT ry) dd.mapOf hw (h w' _ (I.tok _) rw')
 ·subst ey;cases (show u=Value.ref b from ry);obtain ⟨z,hd,xs,rel,dd⟩:=z1r I.hok e;obtain ⟨w',hw,rw'⟩:=RelO.some_of (v:=v) (o:=(atKey xs k).map (·.2)) (by rw [l];exact rel.val k);obtain ⟨p,hp,hp2⟩:=Option.map_eq_some_iff.mp hw;refine wpAny_getItem_heap (tupleKind_room_in1 hu) (Jn I.hok eb) dd hp ?_;rw [hp2];exact h w' _ (I.tok _) rw'
theorem d_in {Q:Value->Shared->Prop} (hu:A.units+1 < cLine) (I:Inv X vX σ H s) (g:DGet H a y o) (ry:RelV y u) (h:∀s',Inv X vX σ H s'->Q (.bool o.isSome) s'):
  wpAny (model X.prog X.w) A (compareOp .In u (.ref a)) Q E s:=by
 rcases g with ⟨kvs,k,e,ey,l⟩ | ⟨kvs,k,b,e,ey,eb,l⟩
 ·subst ey;obtain ⟨z,hd,vs,rel,dd⟩:=z03 I.hok e;refine wpAny_in_of (JT ry) hd dd.mapOf ?_;rw [<-(rel.val k).isSome_eq,<-l];exact h _ (I.tok _)
 ·subst ey;cases (show u=Value.ref b from ry);obtain ⟨z,hd,xs,rel,dd⟩:=z1r I.hok e;refine wpAny_in_heap (tupleKind_room_in1 hu) (Jn I.hok eb) hd dd ?_;have q:=(rel.val k).isSome_eq;rw [Option.isSome_map] at q;rw [<-q,<-l];exact h _ (I.tok _)
theorem z7R {Q:Value->Shared->Prop} (hu:A.units+1 < cLine) (I:Inv X vX σ H s) (g:DGet H a y o) (ry:RelV y u) (h:∀s',Inv X vX σ H s'->Q (.bool (!o.isSome)) s'):
  wpAny (model X.prog X.w) A (compareOp .NotIn u (.ref a)) Q E s:=by
 rcases g with ⟨kvs,k,e,ey,l⟩ | ⟨kvs,k,b,e,ey,eb,l⟩
 ·subst ey;obtain ⟨z,hd,vs,rel,dd⟩:=z03 I.hok e;refine wpAny_notIn_of (JT ry) hd dd.mapOf ?_;rw [<-(rel.val k).isSome_eq,<-l];exact h _ (I.tok _)
 ·subst ey;cases (show u=Value.ref b from ry);obtain ⟨z,hd,xs,rel,dd⟩:=z1r I.hok e;refine wpAny_notIn_heap (tupleKind_room_in1 hu) (Jn I.hok eb) hd dd ?_;have q:=(rel.val k).isSome_eq;rw [Option.isSome_map] at q;rw [<-q,<-l];exact h _ (I.tok _)
theorem J9 {h':Heap} {t':Nat} {ob:HO} (I:Inv X vX σ H s) (mu:Mut (H a)) (hs:Heap.SameBut a s.heap h') (he:∃q,h'.get? a=some q) (new:qK X.prog X.w (upd H a ob) h' a ob):
  Inv X vX σ (upd H a ob) { s with heap:=h',toks:=t' }:=
 I.write (x:=a) (e:=a) mu (.inl rfl) (fun b q hb z=>(hs.2 b hb).trans z) he new
theorem z0I {P:Program} {w:World} {H':Hp} {h':Heap} {kvs:List (Key × V)} {vs:List (Key × Value)} (z:kvs.length<=sizeLine) (hd:(a == sysModules)=false) (rel:KV kvs vs) (dd:h'.DictOf (qp P w) a vs):
  qK P w H' h' a (.dK kvs):=⟨z,hd,vs,rel,dd⟩
theorem z46 {H':Hp} {Q:Unit->Shared->Prop} (hu:A.units+1 < cLine) (I:Inv X vX σ H s) (g:DPut H a y v H') (ry:RelV y u) (rv:RelV v r) (h:∀s',Inv X vX σ H' s'->Q () s'):
  wpAny (model X.prog X.w) A (setItem (.ref a) u r) Q E s:=by
 rcases g with ⟨kvs,k,e,ey,l,eH⟩ | ⟨kvs,k,b,e,ey,eb,l,eH⟩
 ·subst ey eH;obtain ⟨z,hd,vs,rel,dd⟩:=z40 I.hok e;have hz:vs.length<=sizeLine:=by rw [<-rel.length];exact z
  have hl:(putK kvs k v).length<=sizeLine:=by have:=j9 kvs k v;lia
  refine wpAny_setItem_pairs (hsz:=hz) (JT ry) dd fun h' dd' hs=>h _ ?_
  have he:∃q,h'.get? a=some q:=let ⟨q,_,_,hq,_⟩:=dd';⟨q,hq⟩;exact J9 I (by rw [e];exact True.intro) hs he (z0I hl hd (rel.put k rv) dd')
 ·subst ey eH;cases (show u=Value.ref b from ry);obtain ⟨z,hd,xs,rel,dd⟩:=zaw I.hok e;have hz:xs.length<=sizeLine:=by rw [<-Paired.length rel];exact z
  have hl:(putK kvs k v).length<=sizeLine:=by have:=j9 kvs k v;lia
  refine wpAny_setItem_heap (hsz:=hz) (tupleKind_room_in1 hu) (Jn I.hok eb) dd fun h' dd' hs=>h _ ?_
  obtain ⟨q,es,ep,hq,h2,h3,h4,_,h5⟩:=dd';refine J9 I (by rw [e];exact True.intro) hs ⟨q,hq⟩ ⟨hl,hd,_,(rel.put k eb rv).keeps fun c ys ec=>?_,q,es,ep,hq,h2,h3,h4,h5⟩;rw [zj (zL ec e (fun z=>nomatch z))];exact ec
end
section
variable {X:Cx} {vX:List (Addr × Obj)} {σ:St} {H:Hp} {s:Shared} {a:Addr} {kvs:List (Key × V)} {k:Key} {u:Value} {A:Around} {E:Value->Shared->Prop}
theorem zax {v:V} {more:List Value} {Q:Value->Shared->Prop} (I:Inv X vX σ H s) (e:H a=some (.dK kvs)) (ry:RelV (kV k) u) (l:valV kvs k=some v) (hm:more=[]\/∃x,more=[x])
  (h:∀w' s',Inv X vX σ (upd H a (.dK (z02 kvs k))) s'->RelV v w'->Q w' s'):wpAny (model X.prog X.w) A (call (.builtin "dict.pop") (.ref a :: u :: more)) Q E s:=by
 obtain ⟨z,hd,vs,rel,dd⟩:=z40 I.hok e;obtain ⟨w',hw,rw'⟩:=RelO.some_of (v:=v) (o:=valueAt vs k) (by rw [<-l];exact rel.val k);have hp:(keyPart u).isSome=true:=by
  cases k with
  | inl i=>obtain ⟨t,q⟩:=(show ∃t,u=Value.int i t from ry);subst q;rfl
  | inr x=>obtain ⟨t,q⟩:=(show ∃t,u=Value.str x t from ry);subst q;rfl
 have ha:argsOk "dict.pop" ⟨.ref a :: u :: more,[]⟩:=by
  rcases hm with q | ⟨x,q⟩
  ·subst q;exact PySem.F.args_dict_pop_2 _ _
  ·subst q;exact PySem.F.args_dict_pop_3 _ _ _
 refine call_meetsIn PySem.F.slot_dict_pop dd.typeIs PySem.F.entry_dict_pop ha (meets_dict_pop_there (qp X.prog X.w) a (JT ry) more hm hp)
  ⟨vs,w',dd,by rw [<-rel.length];exact z,hw,fun h' dd' hs=>h w' _ ?_ rw'⟩
 have he:∃q,h'.get? a=some q:=let ⟨q,_,_,hq,_⟩:=dd';⟨q,hq⟩;exact J9 I (by rw [e];exact True.intro) hs he (z0I (kD (z5A kvs k) z) hd (rel.drop k) dd')
theorem zay {Q:Value->Shared->Prop} (I:Inv X vX σ H s) (e:Rd H a (.dK kvs)) (h:∀t s',Inv X vX σ H s'->Q (.int kvs.length t) s'):wpAny (model X.prog X.w) A (call (.builtin "len") [.ref a]) Q E s:=by
 obtain ⟨z,hd,vs,rel,dd⟩:=z03 I.hok e;refine call_len_dict hd dd (by rw [<-rel.length];rw [sizeLine_eq] at z;lia) ?_;rw [<-rel.length];exact h _ _ (I.tok _)
end
def NoSl (i:Expr):Prop:=∀ov iv,subscripted i false ov iv=operate [ov,iv] (getItem ov iv)
theorem z2R {prog:Program} {w:World} {A:Around} {E:Value->Shared->Prop} {s:Shared} {env:Env} {value slice:Expr} {pos:Pos} {T id:String} {Q:Value->Shared->Prop}
  (hl:typeLookup (.type T) "__getitem__"=pure (some (.builtin id))) (hs:NoSl slice)
  (h:wpAny (model prog w) A (eval value env) (fun o s₁=>wpAny (model prog w) A (eval slice env) (fun i s₂=>s₂.TypeIs o T/\wpAny (model prog w) A (getItem o i) Q E s₂) E s₁) E s):
  wpAny (model prog w) A (eval (.Subscript value slice pos) env) Q E s:=by
 refine Subscript_ (vJ h (fun o s₁ h₁=>vJ h₁ (fun i s₂ h₂=>?_) fun _ _ x=>x) fun _ _ x=>x);obtain ⟨hT,h₂⟩:=h₂;unfold subscriptTail;refine va ?_;rw [getitemInPython_of_ne hT.not_modules];refine va (wpAny_specialOf hT hl ?_);have fin:wpAny (model prog w) A (subscripted slice false o i) (fun r s₃=>wpAny (model prog w) A (letTemporaryGo value o r >>= fun _=>pure r) Q E s₃) E s₂:=by
  rw [hs o i];exact wpAny_operating (vJ h₂ (fun r s₃ h₃=>va (wpAny_letTemporaryGo (ve h₃))) fun _ _ x=>x)
 first
  | exact ve (va fin)
  | exact va (ve (va fin))
  | exact va fin
theorem z1s {X:Cx} {vX:List (Addr × Obj)} {σ:St} {H:Hp} {s:Shared} {a:Addr} {y:V} {o:Option V} (I:Inv X vX σ H s) (g:DGet H a y o):s.TypeIs (.ref a) "dict":=by
 rcases g with ⟨kvs,k,e,_,_⟩ | ⟨kvs,k,b,e,_,_,_⟩
 ·obtain ⟨_,_,vs,_,dd⟩:=z03 I.hok e;exact dd.typeIs
 ·obtain ⟨_,_,xs,_,dd⟩:=z1r I.hok e;exact dd.typeIs
def z9U (td ty:TE):TE:=fun σ H Q=>td σ H fun x H1=>ty σ H1 fun y H2=>∃a v,x=.ref a/\DGet H2 a y (some v)/\Q v H2
def tDIn (ty td:TE):TE:=fun σ H Q=>ty σ H fun y H1=>td σ H1 fun x H2=>∃a o,x=.ref a/\DGet H2 a y o/\Q (.bl o.isSome) H2
def z6C (ty td:TE):TE:=fun σ H Q=>ty σ H fun y H1=>td σ H1 fun x H2=>∃a o,x=.ref a/\DGet H2 a y o/\Q (.bl (!o.isSome)) H2
def za6 (td ty tv:TE):TS:=fun D σ H=>tv σ H fun v H1=>td σ H1 fun x H2=>ty σ H2 fun y H3=>∃a H4,x=.ref a/\DPut H3 a y v H4/\D.nx σ H4
section
variable {X:Cx} {o i e value:Expr} {pos pos' tpos:Pos} {td ty tv:TE}
theorem Qi (hu:X.A.units+1 < cLine) (ho:PE X o td) (hi:PE X i ty) (hs:NoSl i):PE X (.Subscript o i pos) (z9U td ty):=by
 intro vX s σ H Q I h;refine z2R PySem.F.slot_dict_getitem.lookup hs (thn (ho vX s σ H _ I h) fun u s1 ⟨x,H1,I1,rx,q1⟩=>thn (hi vX s1 σ H1 _ I1 q1) fun iv s2 zz=>?_);obtain ⟨y,H2,I2,ry,a,v,ex,g,q2⟩:=zz;subst ex;obtain rfl:u=Value.ref a:=rx;exact ⟨z1s I2 g,z47 hu I2 g ry fun w' s3 I3 rw'=>⟨v,H2,I3,rw',q2⟩⟩
theorem z6f (hu:X.A.units+1 < cLine) (hi:PE X i ty) (ho:PE X o td):PC X .In i o (tDIn ty td):=by
 intro vX s σ H Q I h;refine thn (hi vX s σ H _ I h) fun iv s1 ⟨y,H1,I1,ry,q1⟩=>thn (ho vX s1 σ H1 _ I1 q1) fun u s2 zz=>?_
 obtain ⟨x,H2,I2,rx,a,ov,ex,g,q2⟩:=zz;subst ex;obtain rfl:u=Value.ref a:=rx;exact d_in hu I2 g ry fun s3 I3=>⟨.bl ov.isSome,H2,I3,rfl,q2⟩
theorem QU (hu:X.A.units+1 < cLine) (hi:PE X i ty) (ho:PE X o td):PC X .NotIn i o (z6C ty td):=by
 intro vX s σ H Q I h;refine thn (hi vX s σ H _ I h) fun iv s1 ⟨y,H1,I1,ry,q1⟩=>thn (ho vX s1 σ H1 _ I1 q1) fun u s2 zz=>?_
 obtain ⟨x,H2,I2,rx,a,ov,ex,g,q2⟩:=zz;subst ex;obtain rfl:u=Value.ref a:=rx;exact z7R hu I2 g ry fun s3 I3=>⟨.bl (!ov.isSome),H2,I3,rfl,q2⟩
theorem z1c (hu:X.A.units+1 < cLine) (ho:PE X o td) (hi:PE X i ty) (hv:PE X value tv) (hs:swapsWith value (some (.Subscript o i pos')) pos.line X.env=pure false):
  PS X (.Assign [.Subscript o i pos'] value pos) (za6 td ty tv):=by
 intro vX s σ H D I h;refine wpAny_Assign_Subscript (thn (hv vX s σ H _ I h) fun r s1 ⟨v,H1,I1,rv,q1⟩=>thn (ho vX s1 σ H1 _ I1 q1) fun u s2 ⟨x,H2,I2,rx,q2⟩=>thn (hi vX s2 σ H2 _ I2 q2) fun iv s3 ⟨y,H3,I3,ry,a,H4,ex,g,q3⟩=>?_) hs;subst ex;obtain rfl:u=Value.ref a:=rx;exact z46 hu I3 g ry rv fun s4 I4=>⟨σ,H4,I4,q3⟩
end
theorem z1Z {P:Program} {w:World} {H:Hp} (h:Heap) (hb:sysModules < h.objs.size):qK P w H (h.push { cls:=.type "dict",data:=.dict #[] }) h.objs.size (.dK []):=
 ⟨vi _,beq_eq_false_iff_ne.mpr (Ne.symm (vm hb)),[],.nil,Heap.DictOf.new h⟩
def z8h:TE:=fun _ H Q=>∀p,H p=none->Q (.ref p) (upd H p (.dK []))
section
variable {X:Cx} {pos:Pos}
theorem z1J:PE X (.Dict [] [] pos) z8h:=fun vX s σ H Q I h=>
 wpAny_Dict_empty ⟨.ref s.heap.objs.size,_,I.laid (a:=s.heap.objs.size) (o:=.dK []) (t':=s.toks) (fun _ _ q=>vb _ q) (ki _) (z1Z s.heap I.big),rfl,h _ (I.hok.fresh (ki _))⟩
end
def z2P:List (TE × TE)->St->Hp->(List (V × V)->Hp->Prop)->Prop
 | [],_,H,Q=>Q [] H
 | (tk,tv) :: r,σ,H,Q=>tk σ H fun x H1=>tv σ H1 fun y H2=>z2P r σ H2 fun ps H3=>Q ((x,y) :: ps) H3
abbrev VV:List (V × V)->List (Value × Value)->Prop:=Paired fun p q=>RelV p.1 q.1/\RelV p.2 q.2
def PPs (X:Cx) (pos:Pos) (keys:List (Option Expr)) (values:List Expr) (trs:List (TE × TE)):Prop:=
 ∀(vX:List (Addr × Obj)) (s:Shared) (σ:St) (H:Hp) (Q:List (V × V)->Hp->Prop),Inv X vX σ H s->z2P trs σ H Q->
  wpAny (model X.prog X.w) X.A (evalPairs (pairTrees keys values X.env pos)) (fun vs s'=>∃ps H',Inv X vX σ H' s'/\VV ps vs/\Q ps H') X.xe s
theorem z3e {X:Cx} {pos:Pos}:PPs X pos [] [] []:=fun vX s σ H Q I h=>pairTrees_nil_walk ⟨[],H,I,.nil,h⟩
theorem ZW {X:Cx} {pos:Pos} {k v:Expr} {ks:List (Option Expr)} {vs:List Expr} {tk tv:TE} {trs:List (TE × TE)} (hk:PE X k tk) (hv:PE X v tv) (hr:PPs X pos ks vs trs):
  PPs X pos (some k :: ks) (v :: vs) ((tk,tv) :: trs):=fun vX s σ H Q I h=>
 pairTrees_cons_walk (thn (hk vX s σ H _ I h) fun u s1 ⟨x,H1,I1,rx,q1⟩=>thn (hv vX s1 σ H1 _ I1 q1) fun w2 s2 ⟨y,H2,I2,ry,q2⟩=>
  thn (hr vX s2 σ H2 _ I2 q2) fun ws s3 ⟨ps,H3,I3,rel,q3⟩=>⟨(x,y) :: ps,H3,I3,.cons ⟨rx,ry⟩ rel,q3⟩)
noncomputable def Qu (kvs more:List (Key × V)):List (Key × V):=more.foldl (fun acc kv=>putK acc kv.1 kv.2) kvs
theorem KV.merge:∀{more:List (Key × V)} {rs:List (Key × Value)} {kvs:List (Key × V)} {vs:List (Key × Value)},KV more rs->KV kvs vs->KV (Qu kvs more) (merged vs rs):=by
 intro more rs kvs vs r;unfold KV at r;induction r generalizing kvs vs with
 | nil=>intro q;exact q
 | @cons p q ps qs h t ih=>
  intro r0;have e:KV (putK kvs p.1 p.2) (stored vs q.1 q.2):=by
   have:=r0.put p.1 h.2
   rw [<-h.1];exact this
  exact ih e
theorem Q2:∀(more kvs:List (Key × V)),(Qu kvs more).length<=kvs.length+more.length
 | [],kvs=>by show kvs.length<=kvs.length+0;lia
 | p :: r,kvs=>by
  have h1:=Q2 r (putK kvs p.1 p.2);have h2:=j9 kvs p.1 p.2;show (Qu (putK kvs p.1 p.2) r).length<=_;rw [kX];lia
theorem Ju {P:Program} {w:World}:∀{kvs:List (Key × V)} {ws:List (Value × Value)},VV (kvs.map fun kv=>(kV kv.1,kv.2)) ws->∃rs,Carries (qp P w) ws rs/\KV kvs rs
 | [],_,r=>by rw [List.map_nil] at r;cases r;exact ⟨[],True.intro,.nil⟩
 | p :: kvs,_,r=>by
  rw [yb] at r;cases r with
  | @cons a b as bs h t=>
   obtain ⟨rs,c,q⟩:=Ju (P:=P) (w:=w) t;obtain ⟨b1,b2⟩:=b;exact ⟨(p.1,b2) :: rs,⟨JT h.1,rfl,c⟩,.cons ⟨rfl,h.2⟩ q⟩
def z9T (trs:List (TE × TE)):TE:=fun σ H Q=>∀p,H p=none->z2P trs σ (upd H p (.dK [])) fun ps H2=>H2 p=some (.dK [])/\∃kvs:List (Key × V),ps=kvs.map (fun kv=>(kV kv.1,kv.2))/\kvs.length<=15/\Q (.ref p) (upd H2 p (.dK (Qu [] kvs)))
theorem z3m {X:Cx} {pos:Pos} {keys:List (Option Expr)} {values:List Expr} {trs:List (TE × TE)} (h:PPs X pos keys values trs) (hall:keys.all (·.isSome)=true) (hl:keys.length=values.length) (h0:keys≠[])
  (h15:keys.length<=15):PE X (.Dict keys values pos) (z9T trs):=by
 intro vX s σ H Q I q;have hn:=I.hok.fresh (ki s.heap.objs.size);have I1:=I.laid (a:=s.heap.objs.size) (o:=.dK []) (h':=s.heap.push { cls:=.type "dict",data:=.dict #[] }) (t':=s.toks) (fun _ _ q=>vb _ q) (ki _) (z1Z s.heap I.big);refine wpAny_Dict_walk (knd:=qp X.prog X.w) hall hl h0 h15 (thn (h vX _ σ _ _ I1 (q _ hn)) fun ws s2 zz=>?_);obtain ⟨ps,H2,I2,rel,e,kvs,ep,lk,q2⟩:=zz;subst ep;obtain ⟨rs,c,rk⟩:=Ju (P:=X.prog) (w:=X.w) rel;obtain ⟨z,hd,vs0,r0,dd⟩:=z40 I2.hok e;cases r0;refine ⟨rs,c,dd,fun h' dd' hs=>⟨.ref s.heap.objs.size,_,?_,rfl,q2⟩⟩;have hz:(Qu [] kvs).length<=sizeLine:=by
  have h1:=Q2 kvs [];rw [List.length_nil] at h1;rw [sizeLine_eq];lia
 have he:∃q,h'.get? s.heap.objs.size=some q:=let ⟨q,_,_,hq,_⟩:=dd';⟨q,hq⟩;exact J9 I2 (by rw [e];exact True.intro) hs he (z0I hz hd (rk.merge .nil) dd')
structure M1 (X:Cx) (o:Expr) (m:Str) (apos:Pos) (e:Expr) (cpos:Pos):Prop where
 base:attributeBase o m X.env (eval o X.env)=eval o X.env
 few:((backTo cpos (starEach [e] X.env)).all (fun x=> !x.1)&&(backToKw cpos (keywordEach [] X.env)).all (fun x=>x.1.isSome)
  &&decide (([e]:List Expr).length+([]:List Keyword).length+(if ([]:List Keyword).isEmpty then 0 else 1) < 30))=true
 line:(apos.endLine == cpos.line)=true
 trees:backTo cpos (starEach [e] X.env)=[(false,eval e X.env)]
structure M2 (X:Cx) (o:Expr) (m:Str) (apos:Pos) (e f:Expr) (cpos:Pos):Prop where
 base:attributeBase o m X.env (eval o X.env)=eval o X.env
 few:((backTo cpos (starEach [e,f] X.env)).all (fun x=> !x.1)&&(backToKw cpos (keywordEach [] X.env)).all (fun x=>x.1.isSome)
  &&decide (([e,f]:List Expr).length+([]:List Keyword).length+(if ([]:List Keyword).isEmpty then 0 else 1) < 30))=true
 line:(apos.endLine == cpos.line)=true
 trees:backTo cpos (starEach [e,f] X.env)=[(false,eval e X.env),(false,eval f X.env)]
def IsD (H:Hp) (a:Addr):Prop:=(∃kvs,Rd H a (.dK kvs))\/∃kvs,Rd H a (.dT kvs)
theorem z3F {X:Cx} {vX:List (Addr × Obj)} {σ:St} {H:Hp} {s:Shared} {a:Addr} (I:Inv X vX σ H s) (d:IsD H a):
  s.TypeIs (.ref a) "dict"/\(∀b,Value.ref a=.ref b->∃ob,s.heap.get? b=some ob/\ob.dict=none)/\(a == sysModules)=false:=by
 rcases d with ⟨kvs,e⟩ | ⟨kvs,e⟩
 ·obtain ⟨_,hd,vs,_,dd⟩:=z03 I.hok e;refine ⟨dd.typeIs,fun b q=>?_,hd⟩;cases q;obtain ⟨ob,_,_,h1,h2,_⟩:=dd;exact ⟨ob,h1,h2.2.1⟩
 ·obtain ⟨_,hd,xs,_,dd⟩:=z1r I.hok e;refine ⟨dd.typeIs,fun b q=>?_,hd⟩;cases q;obtain ⟨ob,_,_,h1,h2,_⟩:=dd;exact ⟨ob,h1,h2.2.1⟩
section
variable {X:Cx} {vX:List (Addr × Obj)} {σ:St} {H:Hp} {s:Shared} {a:Addr} {y d:V} {u r:Value} {o:Option V} {A:Around} {E:Value->Shared->Prop}
theorem z9v {Q:Value->Shared->Prop} (hu:A.units+1 < cLine) (I:Inv X vX σ H s) (g:DGet H a y o) (ry:RelV y u) (h:∀w' s',Inv X vX σ H s'->RelV (o.getD .non) w'->Q w' s'):
  wpAny (model X.prog X.w) A (call (.builtin "dict.get") [.ref a,u]) Q E s:=by
 rcases g with ⟨kvs,k,e,ey,l⟩ | ⟨kvs,k,b,e,ey,eb,l⟩
 ·subst ey;obtain ⟨z,hd,vs,rel,dd⟩:=z03 I.hok e;refine call_meetsIn vS dd.typeIs PySem.F.entry_dict_get (PySem.F.args_dict_get_2 _ _) (meets_dict_get (qp X.prog X.w) a (JT ry) hd) ⟨_,dd.mapOf,h _ _ (I.tok _) ?_⟩;rw [l];exact (rel.val k).getD rfl
 ·subst ey;cases (show u=Value.ref b from ry);obtain ⟨z,hd,xs,rel,dd⟩:=z1r I.hok e;refine call_meetsIn vS dd.typeIs PySem.F.entry_dict_get (PySem.F.args_dict_get_2 _ _) (meetsH_dict_get (tupleKind (qp X.prog X.w)) a b hd) ⟨tupleKind_room_in1 hu,k,xs,Jn I.hok eb,dd,h _ _ (I.tok _) ?_⟩;rw [l];exact (rel.val k).getD rfl
end
def z8i (td ty:TE):TE:=fun σ H Q=>td σ H fun x H1=>∃a,x=.ref a/\IsD H1 a/\ty σ H1 fun y H2=>∃o,DGet H2 a y o/\Q (o.getD .non) H2
def z8g (td ty:TE):TE:=fun σ H Q=>td σ H fun x H1=>∃a,x=.ref a/\IsD H1 a/\ty σ H1 fun y H2=>∃kvs k v,H2 a=some (.dK kvs)/\y=kV k/\valV kvs k=some v/\Q v (upd H2 a (.dK (z02 kvs k)))
section
variable {X:Cx} {o e f:Expr} {apos cpos:Pos} {td ty tx:TE}
theorem z1K (hu:X.A.units+1 < cLine) (ho:PE X o td) (he:PE X e ty) (m:M1 X o "get" apos e cpos):PE X (.Call (.Attribute o "get" apos) [e] [] cpos) (z8i td ty):=by
 intro vX s σ H Q I h;refine wpAny_Call_method m.base m.few m.line PySem.F.plainAttrs_dict vS PySem.F.type_dict_get (thn (ho vX s σ H _ I h) fun u s1 zz=>?_);obtain ⟨x,H1,I1,rx,a,ex,d,q1⟩:=zz;subst ex;obtain rfl:u=Value.ref a:=rx;obtain ⟨t1,t2,_⟩:=z3F I1 d;refine ⟨t1,t2,?_⟩;rw [m.trees];refine vC rfl (Calls.evalArgs_plain (vK (thn (he vX s1 σ H1 _ I1 q1) fun iv s2 ⟨y,H2,I2,ry,ov,g,q2⟩=>Calls.spliced_nil ?_)));exact z9v hu I2 g ry fun w' s3 I3 rw'=>⟨_,H2,I3,rw',q2⟩
theorem z4N (ho:PE X o td) (he:PE X e ty) (m:M1 X o "pop" apos e cpos):PE X (.Call (.Attribute o "pop" apos) [e] [] cpos) (z8g td ty):=by
 intro vX s σ H Q I h;refine wpAny_Call_method m.base m.few m.line PySem.F.plainAttrs_dict PySem.F.slot_dict_pop PySem.F.type_dict_pop (thn (ho vX s σ H _ I h) fun u s1 zz=>?_);obtain ⟨x,H1,I1,rx,a,ex,d,q1⟩:=zz;subst ex;obtain rfl:u=Value.ref a:=rx;obtain ⟨t1,t2,_⟩:=z3F I1 d;refine ⟨t1,t2,?_⟩;rw [m.trees];refine vC rfl (Calls.evalArgs_plain (vK (thn (he vX s1 σ H1 _ I1 q1) fun iv s2 ⟨y,H2,I2,ry,kvs,k,v,ea,ey,l,q2⟩=>Calls.spliced_nil ?_)));subst ey;exact zax I2 ea ry l (.inl rfl) fun w' s3 I3 rw'=>⟨v,_,I3,rw',q2⟩
end
section
variable {X:Cx} {vX:List (Addr × Obj)} {σ:St} {H:Hp} {s:Shared} {a:Addr} {kvs:List (Key × V)} {A:Around} {E:Value->Shared->Prop}
theorem z5C {Q:Value->Shared->Prop} (I:Inv X vX σ H s) (e:Rd H a (.dK kvs)) (h:∀p s',H p=none->Inv X vX σ (upd H p (.dK kvs)) s'->Q (.ref p) s'):wpAny (model X.prog X.w) A (call (.type "dict") [.ref a]) Q E s:=by
 obtain ⟨z,hd,vs,rel,dd⟩:=z03 I.hok e;refine kt_call_dict hd dd (by rw [<-rel.length];exact z) fun h' dd' hs=>?_
 refine h _ _ (I.hok.fresh (ki _)) (I.laid (a:=s.heap.objs.size) (o:=.dK kvs) (t':=s.toks) (fun b q hq=>?_) (ki _) (z0I z (beq_eq_false_iff_ne.mpr (Ne.symm (vm I.big))) rel dd'));exact (hs.2 b (vm (vf hq))).trans (vb _ hq)
end
section
variable {X:Cx} {vX:List (Addr × Obj)} {σ:St} {H:Hp} {s:Shared} {a:Addr} {y:V} {u:Value} {A:Around} {E:Value->Shared->Prop}
end
end L2
namespace Att
open PySem PySem.W PySem.Calls PyProof.Rows
theorem J7 {P:Params} {h:Heap}:∀(ns:List Int) (vs:List Value),WellAll P h vs (ns.map WData.int)->IntsAre vs ns:=by
 intro ns;induction ns with
 | nil=>
  intro vs w;rw [List.map_nil] at w;cases w;exact .nil
 | cons n ns ih=>
  intro vs w;rw [yb] at w;cases w with
  | cons a b=>
   cases a;exact .cons _ _ (ih _ b)
theorem z37 {l:OpenLaw} {n:Nat} (hn:l.most=some n) {P:Params} {h:Heap} {args:List WData} {vals:List Value}
  (hpre:l.row.toRowW.claim.pre args=true) (hwl:WellAll P h vals args):
  ∃a vs ns,vals=[Value.ref a]/\args=[WData.list (ns.map WData.int)]/\h.get? a=some { cls:=.type "list",data:=.seq vs.toArray }/\IntsAre vs ns/\ns.length<=n:=by
 have hsh:WShape.hasAll [] args [.list .int]=true:=(pre_splitW hpre).1;have hc:l.pre.holds [] { args:=args }=true:=(pre_splitW hpre).2;obtain ⟨d,r,rfl,h1,h2⟩:=hasAllW_cons hsh;obtain rfl:=hasAllW_nil h2;obtain ⟨xs,rfl,h3⟩:=hasW_list h1;obtain ⟨ns,rfl⟩:=items_int h3;have hlen:ns.length<=n:=by
  unfold OpenLaw.pre at hc;have h4:(WTm.not (.lt (.lit (.int (n:Int))) (.len (.arg 0)))).holds [] { args:=[.list (ns.map .int)] }=true:=by
   have h4:=(holds_andW hc).1;rw [hn] at h4;exact h4
  have h5:=condW_of h4 (w_not (w_lt w_lit (w_len_list (w_arg rfl))));rw [kq] at h5;refine Nat.le_of_not_lt fun q=>?_
  have q':(n:Int) < ((ns.length:Nat):Int):=by lia
  first
   | (rw [ko q'] at h5;exact vd h5 (by decide))
   | (simp at h5;lia)
 cases hwl with
 | cons w1 w2=>
  cases w2;cases w1 with
  | list ho hall=>exact ⟨_,_,ns,rfl,rfl,ho,J7 ns _ hall,hlen⟩
theorem z3f (l:OpenLaw) (args:List WData):l.row.toRowW.claim.post args (.bool true) args=true:=
 postW_of (r:=l.row.toRowW) (X:=(true == true))
  (show WShape.has [] (.bool true) .bool=true by first | rfl | decide | simp [WShape.has,WShape.arms,WShape.armsAll])
  (show (WTm.eq .res (.lit (.bool true))).value [] { args:=args,res:=some (.bool true),after:=args }=some (.bool (true == true)) from w_eq_bool (w_res rfl) w_lit) rfl
theorem attach_call {l:OpenLaw} {n:Nat} {q:Program} {loose:List Str} {XP:(Str->Option Value)->Heap->Prop} {YP:World->Heap->Prop} {d:DefRec}
  (hn:l.most=some n) (hdf:d.params.defaults=[])
  (call:∀(w:World) (s₀ s₁:Shared) (mg mb:Str->Option Value) (fa:Addr) (o:Obj) (pm cd doc:Value) (a:Addr) (vs:List Value) (ns:List Int),
   Ground q loose [] XP w s₀ mg mb s₁.heap->YP w s₁.heap->
   s₁.heap.get? fa=some o->o.data=.func (docDef d.name d.params d.body d.scope pm cd doc)->s₁.heap.CodeRec cd d.name->mg d.name=some (.ref fa)->
   s₁.heap.get? a=some { cls:=.type "list",data:=.seq vs.toArray }->IntsAre vs ns->ns.length<=n->s₁.gens=#[]->
   codeAny (model l.prog w) callerA (.call (.ref fa) ⟨[.ref a],[]⟩) (fun r s'=>r=.ok (.ret (.bool true))/\OldK s₁.heap s'.heap/\s'.os=s₁.os/\AllBare s'.gens) s₁):
  WalkO q loose XP YP l.row.toRowW d [] (fun f vs=>PySem.call f vs):=by
 intro w s₀ s₁ mg mb G Y fa o pm cd doc dV kV ho hd hcd hD hmg hg args vals as hpre hlay hrd hwl hlo;obtain rfl:dV=.none:=Dflts.none hD hdf;obtain rfl:kV=.none:=Dflts.noKw hD;obtain ⟨a,vs,ns,rfl,rfl,hobj,hints,hlen⟩:=z37 hn hpre hwl;refine enter_call (codeAny_mono (call w s₀ s₁ mg mb fa o pm cd doc a vs ns G Y ho (fd_plain hd) hcd hmg hobj hints hlen hg) fun r s' hq=>?_);obtain ⟨rfl,h2,h3,h4⟩:=hq;exact ⟨.inl ⟨.bool true,.bool true,[],rfl,fun _=>rfl,.bool true,z3f l _,fun _=>⟨List.Pairwise.nil,fun _ hm=>(nomatch hm)⟩⟩,h2,h3,h4⟩
section
variable {prog:Program} {w:World} {A:Around} {E:Value->Shared->Prop} {s:Shared} {K:Frag}
end
end Att
namespace L2
theorem z0c:∀{vs:List Value} {ns:List Int},IntsAre vs ns->Vals (ns.map V.int) vs
 | _,_,.nil=>.nil
 | _,_,.cons n t h=>.cons ⟨t,rfl⟩ (z0c h)
def Only (H:Hp):Prop:=∀b,H b=none\/∃o xs,H b=some (.frz o (.lst xs))
theorem z54 {P:Program} {w:World} {K:kE} {mg mb:Str->Option Value} {CX:CXT} {k:Nat} {fa a:Addr} {fd:FuncData} {x:Str} {sp:Sp} {s₁:Shared} {vs:List Value} {ns:List Int}
  (KX:K.In s₁.heap) (hns:s₁.heap.Ns mainGlobals mg) (hb:s₁.heap.Ns builtinsNs mb) (hbb:∀x:Str,x≠"__name__"->mb x=bootBuiltins x) (hlim:s₁.heap.NoLimit) (hg:s₁.gens=#[])
  (ha:s₁.heap.get? a=some { cls:=.type "list",data:=.seq vs.toArray }) (hi:IntsAre vs ns) (hl:ns.length<=sizeLine) (hr:Room k callerA)
  (F:∀base:Heap,K.In base->base.Ns mainGlobals mg->FnOk P w K mg base CX k fa fd [x] sp) (hbind:∀(s:Shared) (u:Value),BindsTo s fd ⟨[u],[]⟩ [(x,u)])
  (hsp:∀H:Hp,Only H->SqL K H a (ns.map V.int)->sp [.ref a] H (fun v _=>v=.bl true) fun _ _ _=>False)
  (hCX:∀H e s',CX [] H s₁ (fun _ _ _=>False) e s'->False):
  codeAny (model P w) callerA (.call (.ref fa) ⟨[.ref a],[]⟩) (fun r s'=>r=.ok (.ret (.bool true))/\OldK s₁.heap s'.heap/\s'.os=s₁.os/\AllBare s'.gens) s₁:=by
 have rv:=z0c hi;have lenV:=hi.length;have core:∀H:Hp,Only H->SqL K H a (ns.map V.int)->HOk P w H s₁.heap->(∀b,H b≠none->b=a)->(H a≠none->K.lookup a=none)->
   codeAny (model P w) callerA (.call (.ref fa) ⟨[.ref a],[]⟩) (fun r s'=>r=.ok (.ret (.bool true))/\OldK s₁.heap s'.heap/\s'.os=s₁.os/\AllBare s'.gens) s₁:=by
  intro H hO hS hok hA hK;have base_of:∀{b:Addr} {o:Obj},s₁.heap.get? b=some o->H b=none->(hidT s₁.heap H).get? b=some o:=fun e n=>z58 e n
  have noA:∀{b:Addr} {o:Obj} {es:Array DictEntry} {ep:Nat},s₁.heap.get? b=some o->o.data=.dict es ep->H b=none:=fun {b o es ep} e d=>by
   cases q:H b with
   | none=>rfl
   | some u=>
    have e':b=a:=hA b (by rw [q];simp);subst e';rw [ha] at e;cases e;have d':Data.seq vs.toArray _=Data.dict es ep:=d;cases d'
  have nsK:∀{b:Addr} {m:Str->Option Value},s₁.heap.Ns b m->(hidT s₁.heap H).Ns b m:=fun {b m} ⟨o,es,ep,e,d,r⟩=>⟨o,es,ep,base_of e (noA e d),d,r⟩
  have hKb:K.In (hidT s₁.heap H):=fun b o e=>base_of (KX b o e) (by
   cases q:H b with
   | none=>rfl
   | some u=>
    have e':b=a:=hA b (by rw [q];simp);subst e';rw [hK (by rw [q];simp)] at e;cases e)
  have hM:Mod K mg (hidT s₁.heap H):=⟨hKb,nsK hns,⟨mb,nsK hb,hbb⟩,let ⟨mc,h1,h2⟩:=hlim;⟨mc,nsK h1,h2⟩⟩
  have e0:Env0 P w K mg (hidT s₁.heap H) callerA [] s₁ H:=⟨rfl,hM,fun b o e=>z72 e,ye (z3H _ _),trivial,fun b hb=>vd (show b∈([]:List Addr) from hb) (by simp),hok,.of_eq hg⟩
  refine codeAny_mono ((F _ hKb (nsK hns)).run callerA [] s₁ H ⟨[.ref a],[]⟩ [.ref a] [.ref a] _ _ hr e0 (hbind s₁ (.ref a)) (.cons rfl .nil) (hsp H hO hS)) fun r s' h=>?_
  cases r with
  | error e=>exact (hCX H e s' h).elim
  | ok fl=>
   cases fl with
   | next=>exact False.elim h
   | brk=>exact False.elim h
   | cont=>exact False.elim h
   | ret u=>
    obtain ⟨v,H',os,bare,un,hok',r',q⟩:=h;have q':v=.bl true:=q;subst q';obtain rfl:u=Value.bool true:=r';refine ⟨rfl,OldK.of_keep fun b o e=>?_,os,bare⟩;cases q:H b with
    | none=>exact un.keep b o e q (by intro z;exact vd (show b∈([]:List Addr) from z) (by simp)) (by simp)
    | some u=>
     rcases hO b with z | ⟨ob,xs,z⟩
     ·rw [q] at z;cases z
     ·have z2:=un.frzs b ob _ z;obtain ⟨e1,_⟩:=hok b _ z;obtain ⟨e2,_⟩:=hok' b _ z2;rw [e] at e1;cases e1;exact e2
 cases hk:K.lookup a with
 | some o=>
  have e:=KX a o hk;rw [ha] at e;cases e;refine core (fun _=>none) (fun _=>.inl rfl) (.inr ⟨_,vs.toArray,_,hk,rfl,rfl,rfl,by rw [kK,lenV];exact hl,by simpa using rv⟩) (fun b u z=>by have z':(none:Option HO)=some u:=z;cases z') (fun b z=>vd rfl z) fun z=>vd rfl z
 | none=>
  refine core (fun b=>if b=a then some (.frz { cls:=.type "list",data:=.seq vs.toArray } (.lst (ns.map V.int))) else none) (fun b=>?_) (.inl (.inr ⟨{ cls:=.type "list",data:=.seq vs.toArray },kG rfl⟩)) (fun b u z=>?_) (fun b z=>?_) fun _=>hk
  ·by_cases hb:b=a
   ·exact .inr ⟨_,_,kG hb⟩
   ·exact .inl (kF hb)
  ·by_cases hb:b=a
   ·have z':=(kG hb).symm.trans z;cases z';subst hb;exact ⟨ha,by rw [kq];exact hl,vs,_,rv,ha⟩
   ·have z':=(kF hb).symm.trans z;cases z'
  ·by_cases hb:b=a
   ·exact hb
   ·exact vd (kF hb) z
end L2
namespace L2
theorem z6w {l:PySem.W.OpenLaw} {n k:Nat} {q:Program} {loose:List Str} {XP:(Str->Option Value)->Heap->Prop} {YP:World->Heap->Prop} {d:DefRec} {K:Params->kE} {CX:World->CXT} {sp:World->Sp} {x:Str}
  (hn:l.most=some n) (hn2:n<=sizeLine) (hdf:d.params.defaults=[]) (hr:Room k callerA)
  (hY:∀(w:World) (h:Heap),YP w h->(K w.params).In h)
  (F:∀(w:World) (mg:Str->Option Value) (fa:Addr) (h:Heap),(K w.params).In h->h.Ns mainGlobals mg->mg d.name=some (.ref fa)->
   ∃fd:FuncData,(∀(s:Shared) (u:Value),BindsTo s fd ⟨[u],[]⟩ [(x,u)])/\
    ∀base:Heap,(K w.params).In base->base.Ns mainGlobals mg->FnOk l.prog w (K w.params) mg base (CX w) k fa fd [x] (sp w))
  (hsp:∀(w:World) (H:Hp) (a:Addr) (ns:List Int),ns.length<=n->Only H->SqL (K w.params) H a (ns.map V.int)->sp w [.ref a] H (fun v _=>v=.bl true) fun _ _ _=>False)
  (hCX:∀(w:World) (H:Hp) (s:Shared) (e:Value) (s':Shared),CX w [] H s (fun _ _ _=>False) e s'->False):
  PySem.W.WalkO q loose XP YP l.row.toRowW d [] (fun f vs=>PySem.call f vs):=by
 refine Att.attach_call hn hdf fun w s₀ s₁ mg mb fa o pm cd doc a vs ns G Y ho hd hcd hmg hobj hints hlen hg=>?_
 have KX:=hY w _ Y;obtain ⟨fd,hb,hF⟩:=F w mg fa _ KX G.T.g hmg;exact z54 KX G.T.g G.T.b G.T.builtins G.T.nolimit hg hobj hints (kD hlen hn2) hr hF hb (fun H hO hS=>hsp w H a ns hlen hO hS) fun H e s'=>hCX w H s₁ e s'
end L2
namespace L2
noncomputable def qr (s:Stmt):Arguments:=match s with
 | .FunctionDef _ a _ _ _ _ _ _ _ _=>a
 | _=>{ posonlyargs:=[],args:=[],vararg:=none,kwonlyargs:=[],kw_defaults:=[],kwarg:=none,defaults:=[] }
noncomputable def zG (s:Stmt):List Stmt:=match s with
 | .FunctionDef _ _ b _ _ _ _ _ _ _=>b
 | _=>[]
noncomputable def zh (s:Stmt):Scope:=match s with
 | .FunctionDef _ _ _ _ _ _ sc _ _ _=>sc
 | _=>{ kind:=.function,names:=[],isGenerator:=false,isCoroutine:=false }
abbrev CX0:CXT:=fun _ _ _ _ _ _=>False
abbrev E0:XK:=fun _ _ _=>False
theorem z0p {X:Cx}:Qc CX0 X E0:=fun _ _ _ _ _ _ _ h=>h.elim
structure Fun (K:kE) (x qual:Str) (st:Stmt) (f:Addr) (fd:FuncData):Prop where
 ex:∃(oc:Value) (od:Option Addr) (kV doc pm:Value) (an:Option Addr) (cdv ct:Value) (osl:Array (Option Value)),
  fd=PySem.W.fnOf x qual (qr st) (zG st) (zh st) .none kV doc pm an cdv ct/\K.lookup f=some ⟨oc,od,.func fd,osl⟩/\PySem.W.codeIn K cdv qual=true
 kp:PySem.W.keepIn K (.ref f)=true
section
variable {P:Program} {w:World} {K:kE} {mg:Str->Option Value} {base:Heap}
theorem Fun.ok {x qual:Str} {st:Stmt} {f:Addr} {fd:FuncData} {N ps:List Str} {k:Nat} {sp:Sp} (F:Fun K x qual st f fd) (S:zr N ps (zh st)) (len:∀vs H Q E,sp vs H Q E->vs.length=ps.length)
  (hbody:∀(cdv:Value) (A:Around) (vY:List Env) (s:Shared) (H:Hp) (vs:List V) (Q:VK) (E:XK),Room k (A.deeper (envOfC qual (zh st) s.heap.objs.size f cdv))->sp vs H Q E->
   ∃t,PSs (cxOf CX0 P w K mg base N qual (zh st) f cdv A vY s H E).nox (zG st) t/\t { nx:=fun _ H'=>Q .non H',rt:=Q } (jX N vs) H):FnOk P w K mg base CX0 (k+1) f fd ps sp:=by
 obtain ⟨oc,od,kV,doc,pm,an,cdv,ct,osl,rfl,lk,hcd⟩:=F.ex;refine z7v lk hcd S len fun A vY s H vs Q E hr hsp=>?_
 obtain ⟨t,h,q⟩:=hbody cdv A vY s H vs Q E hr hsp;exact ⟨t,h.nox,q⟩
theorem Fun.binds {x qual:Str} {st:Stmt} {f:Addr} {fd:FuncData} {ps:List Str} (F:Fun K x qual st f fd)
  (h:∀(kV doc pm:Value) (an:Option Addr) (cdv ct:Value) (us:List Value),us.length=ps.length->bindArgs (PySem.W.fnOf x qual (qr st) (zG st) (zh st) .none kV doc pm an cdv ct) ⟨us,[]⟩=pure (ps.zip us)):Zy K fd ps []:=by
 obtain ⟨oc,od,kV,doc,pm,an,cdv,ct,osl,rfl,lk,hcd⟩:=F.ex;exact .all (h kV doc pm an cdv ct)
theorem z1T {x qual:Str} {st:Stmt} {f:Addr} {oc:Value} {od an:Option Addr} {osl:Array (Option Value)} {kV doc pm cdv ct:Value} (l:K.lookup f=some ⟨oc,od,.func (PySem.W.fnOf x qual (qr st) (zG st) (zh st) .none kV doc pm an cdv ct),osl⟩)
  (c:PySem.W.codeIn K cdv qual=true) (k:PySem.W.keepIn K (.ref f)=true):Fun K x qual st f (PySem.W.fnOf x qual (qr st) (zG st) (zh st) .none kV doc pm an cdv ct):=⟨⟨oc,od,kV,doc,pm,an,cdv,ct,osl,rfl,l,c⟩,k⟩
end
theorem Ql {A:Around} {k:Nat} (hr:Room k A):A.units+1 < cLine:=Nat.lt_of_le_of_lt (Nat.add_le_add_left (by decide:1<=64) _) hr.units
theorem qL {n:Nat} (h:n<=1000):n < sizeLine:=Nat.lt_of_le_of_lt h (by decide)
section
variable {X:Cx}
theorem pv (i:Nat) {x:Str} {pos:Pos} (hN:autoParam (X.N[i]?=some x) aR._auto_1) (hv:Vis X.env.scope x:=by first | exact Or.inl rfl | exact Or.inr (Or.inl rfl) | exact Or.inr (Or.inr rfl)) (hd:autoParam ((x == ("__debug__":Str))=false) aR._auto_2)
  (hcd:autoParam ((x == ("__classdict__":Str))=false) aR._auto_2):PE X (.Name x pos) (tVar i):=z6c hN hv hd hcd
theorem pvX (i:Nat) {x:Str} {pos:Pos} (hN:autoParam (X.N[i]?=some x) aR._auto_1) (hv:Vis X.env.scope x:=by first | exact Or.inl rfl | exact Or.inr (Or.inl rfl) | exact Or.inr (Or.inr rfl)) (hd:autoParam ((x == ("__debug__":Str))=false) aR._auto_2)
  (hcd:autoParam ((x == ("__classdict__":Str))=false) aR._auto_2):PE X (.Name x pos) (z29 i):=(z6c hN hv hd hcd).x
theorem z4j:Zx X (.builtin "len") (fun xs H Q=>∃a kvs,xs=[V.ref a]/\H a=some (.dK kvs)/\Q (.int kvs.length) H):=by
 intro vX s σ H xs us Q I r h;obtain ⟨a,kvs,rfl,ha,q⟩:=h;obtain ⟨u,rfl,ru⟩:=Jd r;cases ru;exact zay I (.inl ha) fun t s' I'=>⟨.int kvs.length,H,I',⟨t,rfl⟩,q⟩
end
theorem iteF {A B:Prop} (h:B):if false=true then A else B:=by
 rw [kF ke];exact h
theorem iteT {A B:Prop} (h:A):if true=true then A else B:=by
 rw [kG rfl];exact h
theorem ite2 {c A B:Prop} [Decidable c] (h1:c->A) (h2:¬c->B):if c then A else B:=by
 by_cases h:c
 ·rw [kG h];exact h1 h
 ·rw [kF h];exact h2 h
def Same (H H':Hp):Prop:=∀b o,H b=some o->H' b=some o
theorem Same.refl (H:Hp):Same H H:=fun _ _ h=>h
theorem Same.trans {H H1 H2:Hp} (a:Same H H1) (b:Same H1 H2):Same H H2:=fun c o h=>b c o (a c o h)
theorem Same.free {H H':Hp} (e:Same H H') {l:Addr} (h:H' l=Option.none):H l=Option.none:=by
 cases q:H l with
 | none=>rfl
 | some o=>
  rw [e l o q] at h;cases h
theorem Same.seq {K:kE} {H H':Hp} {a:Addr} {xs:List V} (e:Same H H') (h:SqL K H a xs):SqL K H' a xs:=by
 rcases h with (h | ⟨o,h⟩) | h
 ·exact .inl (.inl (e _ _ h))
 ·exact .inl (.inr ⟨o,e _ _ h⟩)
 ·exact .inr h
section
variable {κ:Type} [DecidableEq κ]
end
end L2
set_option genInjectivity false
set_option maxRecDepth 100000
set_option maxHeartbeats 4000000
namespace L2
theorem z0u {names:List (Str × NameKind)} {k:NameKind} (h:∀y∈names,y.2≠k) (x:Str):names.lookup x≠some k:=fun e=>h _ (vc e) rfl
theorem z2d {scope:Scope} {env:Env} (h:∀y∈scope.names,y.2≠.free):relabel scope env=scope:=by
 unfold relabel;rw [map_eq_self (l:=scope.names) (fun x hx=>by
  obtain ⟨n,k⟩:=x;have:(k == NameKind.free)=false:=by simpa using h _ hx
  simp [this])]
section
variable {X:Cx}
def z4x (i:Nat) (te:TE):TS:=fun D σ H=>te σ H fun v H1=>D.nx (σ.set i (some v)) H1
end
end L2
namespace L2
theorem Inv.turned2 {X:Cx} {vX:List (Addr × Obj)} {σ:St} {H:Hp} {s:Shared} {h':Heap} {t':Nat} {e it:Addr} {xs:List V} (I:Inv X vX σ H s) (k:∀b o,b≠e->b≠it->s.heap.get? b=some o->h'.get? b=some o)
  (there:∀b∈[e,it],∃o,h'.get? b=some o) (fe:FpOk X vX H e) (fi:FpOk X vX H it) (new:qK X.prog X.w (upd H s.heap.objs.size (.tup xs)) h' s.heap.objs.size (.tup xs)):
  Inv X vX σ (upd H s.heap.objs.size (.tup xs)) { s with heap:=h',toks:=t' }:=by
 have hn:=I.fresh;have nit:∀b u,H b=some u->b≠e/\b≠it:=fun b u q=>⟨(fun z=>by rw [z,fe.1] at q;cases q),(fun z=>by rw [z,fi.1] at q;cases q)⟩
 have hm:∀{b:Addr},b∉[e,it]->b≠e/\b≠it:=fun {b} hb=>⟨fun z=>hb (by simp [z]),fun z=>hb (by simp [z])⟩
 refine I.step (g':=s.gens) (d':=s.drawn) (ch:=[e,it]) (fun b hb=>?_) (fun b o _ _ hc q _=>k b o (hm hc).1 (hm hc).2 q) (fun b o _ _ hc q _=>⟨o.slots,k b o (hm hc).1 (hm hc).2 q⟩) (fun b o _ q n=>?_)
  (fun b o hc q=>⟨o,k b o (hm hc).1 (hm hc).2 q⟩) (fun b xs q=>by rw [zj (ze q hn)];exact q) (fun b o u q=>by rw [zj (ze q hn)];exact q) (fun b ps q=>⟨#[],by rw [zj (ze q hn),q];simp⟩) (fun m hm'=>?_) (fun b u q=>?_) I.bare
 ·rcases kJ.mp hb with z | z
  ·subst z;exact ⟨fe.2.2.2.1,fe.2.1,fe.2.2.2.2.1,fe.2.2.2.2.2⟩
  ·have z:b=it:=by simpa using z
   subst z;exact ⟨fi.2.2.2.1,fi.2.1,fi.2.2.2.2.1,fi.2.2.2.2.2⟩
 ·rw [zj (vm (vf q))];exact n
 ·obtain ⟨o,es,ep,ho,r⟩:=hm';exact ⟨o,es,ep,k _ o (Ne.symm fe.2.1) (Ne.symm fi.2.1) ho,r⟩
 ·by_cases hb:b=s.heap.objs.size
  ·subst hb;rw [zc] at q;cases q;exact new
  ·rw [zj hb] at q;refine (I.hok b u q).stay (fun c v hc z=>?_) (fun c z=>by rw [zj (ze z hn)];exact z) fun c xs z=>by rw [zj (ze z hn)];exact z
   rcases hc with y | y
   ·subst y;exact k c v (nit c u q).1 (nit c u q).2 z
   ·exact k c v (nit c _ y).1 (nit c _ y).2 z
noncomputable def Ite (K:kE) (a:Addr):It:=
 ⟨fun i H=>∃xs x,SqL K H a xs/\xs[i]?=some x,fun i H x H'=>∃p y,x=.ref p/\H p=none/\H'=upd H p (.tup [.int i,y])/\∀xs,SqL K H a xs->xs[i]?=some y,fun i H=>∃xs,SqL K H a xs/\xs.length<=i⟩
theorem z2N {P:Program} {w:World} {K:kE} {elts:List Expr} {x1} {pos:Pos} (a e it:Addr) (hei:e≠it):Turn P w K (.Tuple elts x1 pos) (Ite K a) [e,it] e (fun i h=>(∃old,IsEnum h e it i old)/\h.IsListIter it a i) where
 mem:=by simp
 obj:=fun i h st b hb=>by
  rcases kJ.mp hb with z | z
  ·subst z;obtain ⟨old,q⟩:=st.1;exact ⟨_,q,fun v y=>by cases y⟩
  ·have z:b=it:=by simpa using z
   subst z;obtain ⟨o,q,c,d⟩:=st.2;exact ⟨o,q,fun v z=>by rw [d] at z;cases z⟩
 keep:=fun i h h' st k=>⟨let ⟨old,q⟩:=st.1;⟨old,k e (by simp) _ q⟩,st.2.at fun o q=>k it (by simp) o q⟩
 item:=by
  intro X hP hw hK hc i vX s σ H E I hf st hg;subst hP hw hK;obtain ⟨xs,x,hq,hx⟩:=hg;obtain ⟨its,rv,p,hz⟩:=I.list hq;obtain ⟨u,hu,ru⟩:=rv.get hx;obtain ⟨⟨old,he⟩,hit⟩:=st;have fe:=hf e (by simp);have fi:=hf it (by simp);refine wpAny_pyNext_enum_item he hit p.isList (x:=u) (by simpa using hu) hei fun h' ho hit' hT hsz hk=>?_
  refine ⟨_,rfl,?_⟩;have new:qK X.prog X.w (upd H s.heap.objs.size (.tup [.int i,x])) h' s.heap.objs.size (.tup [.int i,x]):=⟨vW,[.int i s.toks,u],.cons ⟨_,rfl⟩ (.cons ru .nil),_,hT,rfl,_,rfl⟩
  obtain ⟨oi,ei,_⟩:=id hit';have I1:Inv X vX σ (upd H s.heap.objs.size (.tup [.int i,x])) { s with heap:=h',toks:=s.toks+1 }:=I.turned2 hk (fun b hb=>by
   rcases kJ.mp hb with z | z
   ·subst z;exact ⟨_,ho⟩
   ·have z:b=it:=by simpa using z
    subst z;exact ⟨_,ei⟩) fe fi new
  have ne1:e≠s.heap.objs.size:=vm (vf he);have ne2:it≠s.heap.objs.size:=by obtain ⟨o2,e2,_⟩:=hit;exact vm (vf e2)
  refine wpAny_letOwnedTupleGo_enum (s:={ s with heap:=h',toks:=s.toks+1 }) ho fun h2 he2 hs2=>?_
  have he2':IsEnum h2 e it (((i+1:Nat)):Int) u:=by simpa using he2
  refine ⟨.ref s.heap.objs.size,_,I1.turned (t':=s.toks+1) (it:=e) (fun b o hb q=>(hs2.2 b hb).trans q) (by rw [zj ne1];exact fe.1) fe.2.1 fe.2.2.2.1 fe.2.2.2.2.1 fe.2.2.2.2.2,rfl,⟨_,x,rfl,I.fresh,rfl,fun ys hy=>by rw [I.list_inj hy hq];exact hx⟩,⟨⟨u,he2'⟩,hit'.at fun o q=>(hs2.2 it hei.symm).trans q⟩,fun b hb=>?_⟩;rcases kJ.mp hb with z | z
  ·subst z;rw [zj ne1];exact fe.1
  ·have z:b=it:=by simpa using z
   subst z;rw [zj ne2];exact fi.1
 done:=by
  intro X hP hw hK hc i vX s σ H E I hf st hg;subst hP hw hK;obtain ⟨xs,hq,hx⟩:=hg;obtain ⟨its,rv,p,hz⟩:=I.list hq;obtain ⟨⟨old,he⟩,hit⟩:=st;obtain ⟨f0,f1,f2,f3,f4,f5⟩:=hf it (by simp);have hl:=rv.length;exact wpAny_pyNext_enum_end (I.ok.hd hc) he hit p.isList (by simp;lia) fun h' eb=>⟨rfl,I.turned (t':=s.toks) (fun b o hb e=>eb b o hb e) f0 f1 f3 f4 f5⟩
 self:=fun _ _ _ _ _ st h=>let ⟨old,he⟩:=st.1;wpAny_pyIter_enum he h
section
variable {X:Cx}
def zaj (K:kE) (ta:TA):TI:=fun σ H R=>ta σ H fun vs H1=>∃a,vs=[.ref a]/\(∃xs,SqL K H1 a xs)/\R (Ite K a) H1
theorem z3j {a:Expr} {ta:TA} {p pos:Pos} {elts:List Expr} {x1} {tp:Pos} (hg:Gl X "enumerate") (hm:X.mg "enumerate"=none) (ha:PA X [a] ta) (hs:autoParam (starEach [a] X.env=[(false,eval a X.env)]) aR._auto_1):PI X (.Tuple elts x1 tp) (.Call (.Name "enumerate" p) [a] [] pos) (zaj X.K ta):=by
 intro vX s σ H R I h;refine Call_ (J5 I hg hm boot_enumerate (vH (thn (ha pos vX s σ H _ I h) fun us s1 ⟨vs,H1,I1,r1,q1⟩=>?_) hs rfl));obtain ⟨l,e,⟨xs,hq⟩,q⟩:=q1;subst e;cases r1 with
 | cons r rr=>
  cases rr;cases r;obtain ⟨its,rv,p,hz⟩:=I1.list hq;refine call_enumerate_list p.isList fun h' he hit hsz hk=>?_
  refine wpAny_pyIter_enum (s:={ s1 with heap:=h' }) he ?_;have I2:Inv X vX σ H1 { s1 with heap:=h' }:=I1.kept (t':=s1.toks) hk;have n0:H1 s1.heap.objs.size=none:=I1.fresh;have n1:H1 (s1.heap.objs.size+1)=none:=I1.hok.fresh (Nat.le_succ _);refine ⟨s1.heap.objs.size+1,[s1.heap.objs.size+1,s1.heap.objs.size],_,_,H1,rfl,I2,z2N l _ _ (Nat.succ_ne_self _),⟨⟨_,he⟩,hit⟩,fun b hb=>?_,q⟩;rcases kJ.mp hb with z | z
  ·subst z;exact I1.fpOk (Nat.le_succ _) n1
  ·have z:b=s1.heap.objs.size:=by simpa using z
   subst z;exact I1.fpOk (ki _) n0
end
theorem z1V {K:kE} {a:Addr} {xs:List V} {g:TG} {tb:TS} {D:Ends} {σ:St} {H:Hp} (Pv:Nat->St->Hp->Prop) (h0:Pv 0 σ H) (hl:∀i σ H,i<=xs.length->Pv i σ H->SqL K H a xs)
  (hs:∀(i:Nat) x σ H p,xs[i]?=some x->Pv i σ H->H p=none->g (.ref p) σ (upd H p (.tup [.int i,x])) fun σ2 H2=>tb { D with nx:=Pv (i+1),ct:=Pv (i+1),bk:=D.nx } σ2 H2) (hd:∀σ H,Pv xs.length σ H->D.nx σ H):
  ∃W:Nat->Nat->St->Hp->Prop,(∃m,W 0 m σ H)/\∀i m σ H,W i m σ H->
   ((Ite K a).stop i H/\D.nx σ H)\/((Ite K a).go i H/\∃N:St->Hp->Prop,(∀σ' H',N σ' H'->∃m',m' < m/\W (i+1) m' σ' H')/\∀x H',(Ite K a).yld i H x H'->g x σ H' fun σ2 H2=>tb { D with nx:=N,ct:=N,bk:=D.nx } σ2 H2):=by
 refine ⟨fun i m σ H=>m=xs.length - i/\i<=xs.length/\Pv i σ H,⟨xs.length,by simp,vi _,h0⟩,?_⟩;rintro i m σ H ⟨rfl,hi,p⟩;have q:=hl i σ H hi p;by_cases hlt:i < xs.length
 ·refine .inr ⟨⟨xs,xs[i],q,by simp [hlt]⟩,Pv (i+1),fun σ' H' p'=>⟨xs.length - (i+1),by lia,rfl,hlt,p'⟩,fun x H' y=>?_⟩;obtain ⟨p',y',rfl,hn,rfl,y⟩:=y;exact hs i y' σ _ p' (y xs q) p hn
 ·have e:i=xs.length:=by lia
  subst e;exact .inl ⟨⟨xs,q,ki _⟩,hd σ H p⟩
end L2
namespace L2
section
variable {X:Cx}
def rS0 (f:Str->V):V->List V->Hp->VK->Prop:=fun x vs H Q=>∃z,x=.str z/\vs=[]/\Q (f z) H
theorem z2j:MtM X "str.isascii" (rS0 fun z=>.bl (Txt.isascii z)):=by
 intro vX s σ H x vs v us Q I rx rv h;obtain ⟨z,rfl,rfl,q⟩:=h;obtain ⟨t,rfl⟩:=rx;cases rv;exact SC.isascii ⟨.bl _,H,I,rfl,q⟩
theorem z2k:MtM X "str.isalpha" (rS0 fun z=>.bl (Txt.isalpha z)):=by
 intro vX s σ H x vs v us Q I rx rv h;obtain ⟨z,rfl,rfl,q⟩:=h;obtain ⟨t,rfl⟩:=rx;cases rv;exact SC.isalpha ⟨.bl _,H,I,rfl,q⟩
theorem z2i:MtM X "str.islower" (rS0 fun z=>.bl (Txt.islower z)):=by
 intro vX s σ H x vs v us Q I rx rv h;obtain ⟨z,rfl,rfl,q⟩:=h;obtain ⟨t,rfl⟩:=rx;cases rv;exact SC.islower ⟨.bl _,H,I,rfl,q⟩
theorem qE:Zx X (.builtin "isinstance") (fun xs H Q=>∃x T t b,xs=[x,.ty T]/\TyOf X.K H x t/\PySem.W.kitOne X.K t (.type T)=some b/\Q (.bl b) H):=by
 intro vX s σ H xs us Q I r h;obtain ⟨x,T,t,b,rfl,ty,e,q⟩:=h;obtain ⟨u,u2,rfl,ru,r2⟩:=z4r r;cases r2;exact z3E I ru ty e fun tk=>⟨.bl b,H,I.tok tk,rfl,q⟩
end
end L2
namespace L2
def KTab (P:Params) (K:kE) (d:Addr) (tab:List (Str × V)):Prop:=
 ∃es n,K.lookup d=some ⟨.type "dict",none,.dict es n,#[]⟩/\PySem.W.KeysLit P es.toList/\(d == sysModules)=false/\Paired (fun (p:Str × V) (e:DictEntry)=>(∃t,e.key=.str p.1 t)/\RelV p.2 e.val) tab es.toList
theorem z0x {x:Str}:∀{tab:List (Str × V)} {es:List DictEntry},Paired (fun (p:Str × V) (e:DictEntry)=>(∃t,e.key=.str p.1 t)/\RelV p.2 e.val) tab es->
  RelO (tab.lookup x) ((es.find? fun e=>Value.isStrOf x e.key).map (·.val))
 | _,_,.nil=>trivial
 | (k,v) :: tab,e :: es,.cons ⟨⟨t,hk⟩,hv⟩ r=>by
  have ih:=z0x (x:=x) r;by_cases hx:x=k
  ·subst hx;have h1:((x,v) :: tab).lookup x=some v:=by simp [List.lookup]
   have h2:(e :: es).find? (fun e=>Value.isStrOf x e.key)=some e:=by
    rw [vM,hk];simp [Value.isStrOf]
   rw [h1,h2];exact hv
  ·have h1:((k,v) :: tab).lookup x=tab.lookup x:=by
    rw [List.lookup_cons];have:(x == k)=false:=by simpa using hx
    rw [this]
   have h2:(e :: es).find? (fun e=>Value.isStrOf x e.key)=es.find? (fun e=>Value.isStrOf x e.key):=by
    rw [vM,hk];have:Value.isStrOf x (Value.str k t)=false:=by simpa [Value.isStrOf] using fun z=>hx z.symm
    rw [this]
   rw [h1,h2];exact ih
section
variable {X:Cx}
theorem JR {P:Params} {K:kE} {prog:Program} {w:World} {h:Heap} {d:Addr} {tab:List (Str × V)} (hP:P=w.params) (t:KTab P K d tab) (kin:K.In h):
  ∃f,h.MapOf (strKind prog w) d f/\(d == sysModules)=false/\∀x,RelO (tab.lookup x) (f x):=by
 subst hP;obtain ⟨es,n,hl,hk,hd,hp⟩:=t;refine ⟨_,PySem.W.mapOf_K (prog:=prog) kin hl hk,hd,fun x=>?_⟩;have q:=z0x (x:=x) hp;show RelO _ (findBy Value.isStrOf es x);unfold findBy;rw [<-Array.find?_toList];exact q
def z9S (tab:List (Str × V)) (ty:TE):TE:=fun σ H Q=>ty σ H fun y H1=>∃x v,y=.str x/\tab.lookup x=some v/\Q v H1
theorem JI {nm:Str} {i:Expr} {p pos:Pos} {d:Addr} {tab:List (Str × V)} {ty:TE} (T:KTab X.w.params X.K d tab) (hg:Gl X nm) (hm:X.mg nm=some (.ref d)) (hi:PE X i ty) (hs:NoSl i) (hd:autoParam ((nm == ("__debug__":Str))=false) aR._auto_2):
  PE X (.Subscript (.Name nm p) i pos) (z9S tab ty):=by
 intro vX s σ H Q I h;refine z2R PySem.F.slot_dict_getitem.lookup hs (ZM I hg hm (thn (hi vX s σ H _ I h) fun iv s2 ⟨y,H2,I2,ry,x,v,ex,l,q⟩=>?_) hd);subst ex;obtain ⟨t,rfl⟩:=ry;obtain ⟨f,mo,_,hf⟩:=JR (prog:=X.prog) (w:=X.w) rfl T I2.kIn;have hf:=hf x;rw [l] at hf;obtain ⟨w',e',rw'⟩:=RelO.some_of hf;exact ⟨mo.typeIs,wpAny_getItem_of (strKind_is X.prog X.w x t) mo e' ⟨v,H2,I2.tok _,rw',q⟩⟩
def tKIn (tab:List (Str × V)) (ty:TE):TE:=fun σ H Q=>ty σ H fun y H1=>∃x,y=.str x/\Q (.bl (tab.lookup x).isSome) H1
theorem z8M {nm:Str} {i:Expr} {p:Pos} {d:Addr} {tab:List (Str × V)} {ty:TE} (T:KTab X.w.params X.K d tab) (hg:Gl X nm) (hm:X.mg nm=some (.ref d)) (hi:PE X i ty) (hd:autoParam ((nm == ("__debug__":Str))=false) aR._auto_2):
  PC X .In i (.Name nm p) (tKIn tab ty):=by
 intro vX s σ H Q I h;refine thn (hi vX s σ H _ I h) fun iv s1 ⟨y,H1,I1,ry,x,ex,q⟩=>ZM I1 hg hm ?_ hd
 subst ex;obtain ⟨t,rfl⟩:=ry;obtain ⟨f,mo,lo,hf⟩:=JR (prog:=X.prog) (w:=X.w) rfl T I1.kIn;refine wpAny_in_of (strKind_is X.prog X.w x t) lo mo ⟨.bl _,H1,I1.tok _,rfl,?_⟩;rw [<-RelO.isSome_eq (hf x)];exact q
def z8l (X:Cx) (i:Nat) (t:TA):TE:=fun σ H Q=>∃(f:Addr) (fd:FuncData) (ps:List Str) (sp:Sp) (k:Nat),σ[i]?=some (some (.ref f))/\PySem.W.keepIn X.K (.ref f)=true/\FnOk X.prog X.w X.K X.mg X.base CX0 k f fd ps sp/\Room k X.A/\Zy X.K fd ps []/\
 t σ H fun vs H1=>sp vs H1 Q E0
theorem JK {i:Nat} {x:Str} {p pos:Pos} {e:Expr} {es:List Expr} {t:TA} (hv:PE X (.Name x p) (tVar i)) (ha:PA X (e :: es) t)
  (he:autoParam (starEach (e :: es) X.env=(false,eval e X.env) :: starEach es X.env) aR._auto_1) (hpl:autoParam ((backTo pos (starEach es X.env)).any (·.1)=false) aR._auto_1):
  PE X (.Call (.Name x p) (e :: es) [] pos) (z8l X i t):=by
 intro vX s σ H Q I h;obtain ⟨f,fd,ps,sp,k,hσ,hk,F,hr,hb,h⟩:=h;refine vP (thn (hv vX s σ H (fun v H1=>v=.ref f/\H1=H) I (z4u hσ ⟨rfl,rfl⟩)) fun u s1 zz=>?_);obtain ⟨v,H1,I1,r1,e1,e2⟩:=zz;subst e1;subst e2;cases r1;refine PySem.W.callWith_K (h₀:=X.base) I1.ok.mod.kin hk (thn (ha pos vX s1 σ _ _ I1 h) fun us s2 ⟨vs,H2,I2,r,q⟩=>⟨I2.kIn,?_⟩) he hpl;exact z1E F hr hb .nil z0p I2 r (by rw [yc];exact q)
def rEqE (K:kE):R2:=fun x y H Q=>∃p q xs,x=.ref p/\y=.ref q/\SqL K H p xs/\SqL K H q []/\Q (.bl (decide (xs=[]))) H
theorem z8Q (hu:X.A.units < cLine):OpR X (compareOp .Eq) (rEqE X.K):=by
 intro vX s σ H x y v u Q I rx ry h;obtain ⟨p,q,xs,rfl,rfl,h1,h2,hq⟩:=h;cases rx;cases ry;obtain ⟨its,r,pl,_⟩:=I.list h1;obtain ⟨its2,r2,pl2,_⟩:=I.list h2;cases r2;cases r with
 | nil=>
  refine SeqAt.eq_listAt (e:=fun _=>true) pl.isList pl2.isList rfl hu (fun j h1 _=>vd h1 (by simp)) ⟨.bl _,H,I,rfl,?_⟩;simpa using hq
 | cons a b=>
  refine SeqAt.eq_list_lengthsAt pl.isList pl2.isList (by simp) hu ⟨.bl _,H,I,rfl,?_⟩;simpa using hq
def z6A (td ty tx:TE):TE:=fun σ H Q=>td σ H fun x H1=>∃a,x=.ref a/\IsD H1 a/\ty σ H1 fun y H2=>tx σ H2 fun z H3=>∃kvs k,H3 a=some (.dK kvs)/\y=kV k/\kvs.length < sizeLine/\
 match valV kvs k with
 | some v=>Q v H3
 | none=>Q z (upd H3 a (.dK (putK kvs k z)))
theorem z3k {o e f:Expr} {apos cpos:Pos} {td ty tx:TE} (ho:PE X o td) (he:PE X e ty) (hf:PE X f tx) (m:M2 X o "setdefault" apos e f cpos):PE X (.Call (.Attribute o "setdefault" apos) [e,f] [] cpos) (z6A td ty tx):=by
 intro vX s σ H Q I h;refine wpAny_Call_method m.base m.few m.line PySem.F.plainAttrs_dict PySem.F.slot_dict_setdefault PySem.F.type_dict_setdefault (thn (ho vX s σ H _ I h) fun u s1 zz=>?_);obtain ⟨x,H1,I1,rx,a,ex,d,q1⟩:=zz;subst ex;obtain rfl:u=Value.ref a:=rx;obtain ⟨t1,t2,_⟩:=z3F I1 d;refine ⟨t1,t2,?_⟩;rw [m.trees];refine vC rfl (Calls.evalArgs_plain (vK (thn (he vX s1 σ H1 _ I1 q1) fun iv s2 ⟨y,H2,I2,ry,q2⟩=>
  vK (thn (hf vX s2 σ H2 _ I2 q2) fun fv s3 ⟨z,H3,I3,rz,kvs,k,ea,ek,hz,q3⟩=>Calls.spliced_nil ?_))))
 subst ek;obtain ⟨hl,lo,vs,rel,dd⟩:=z40 I3.hok ea;have lenr:=rel.length;have hargs:argsOk "dict.setdefault" ⟨[.ref a,iv,fv],[]⟩:=PySem.F.args_dict_setdefault_3 _ _ _;show wpAny (model X.prog X.w) X.A (call (.builtin "dict.setdefault") [.ref a,iv,fv]) _ _ _;refine call_meetsIn PySem.F.slot_dict_setdefault dd.typeIs PySem.F.entry_dict_setdefault hargs (kt_meets_setdefault (qp X.prog X.w) a (JT ry) lo fv) ⟨vs,dd,by lia,fun v hv=>?_,fun hn h' dd' sb=>?_⟩
 ·cases l:valV kvs k with
  | none=>
   have:=rel.val k
   rw [l,hv] at this;exact this.elim
  | some w'=>
   have r:=rel.val k;rw [l,hv] at r;rw [l] at q3;exact ⟨w',H3,I3.tok _,r,q3⟩
 ·cases l:valV kvs k with
  | some w'=>
   have r:=rel.val k;rw [l,hn] at r;exact r.elim
  | none=>
   rw [l] at q3;refine ⟨z,_,J9 I3 (ob:=.dK (putK kvs k z)) (by rw [ea];exact trivial) sb ?_ (z0I (kD (j9 kvs k z) hz) lo (rel.put k rz) dd'),rz,q3⟩;obtain ⟨ob,_,_,e,_⟩:=dd';exact ⟨ob,e⟩
end
end L2
namespace L2
theorem z0N {prog:Program} {w:World} {A:Around} {R:Result->Shared->Prop} {s:Shared} {elt target iter:Expr} {ifs:List Expr} {scope:Scope} {pos:Pos} {it acc:Value} {env:Env} (I:Nat->Shared->Prop)
  (turn:∀n s,I n s->wpAny (model prog w) A (pyNext it) (fun r s₁=>match r with
   | none=>R (.ok .next) s₁
   | some v=>wpAny (model prog w) A (letOwnedTupleGo target it v) (fun _ s₁'=>wpAny (model prog w) A (assign target env v) (fun _ s₂=>
     wpAny (model prog w) A (forIn ifs true fun c r=>if r=true then do let ok <-isTrue c env (eval c env);pure (ForInStep.yield ok) else pure (ForInStep.yield r)) (fun ok s₃=>
     if ok=true then wpAny (model prog w) A (eval elt env) (fun x s₃'=>
      wpAny (model prog w) A (call (.builtin "list.append") [acc,x]) (fun _ s₄=>∃m,m < n/\I m s₄) (fun _ _=>False) s₃') (fun _ _=>False) s₃
     else ∃m,m < n/\I m s₃)
     (fun _ _=>False) s₂) (fun _ _=>False) s₁') (fun _ _=>False) s₁) (fun _ _=>False) s)
  (n:Nat) (h:I n s):codeAny (model prog w) A (.compLoop (.ListComp elt [⟨target,iter,ifs,0⟩] scope pos) 0 it acc env) R s:=by
 refine codeAny_loop rfl I (fun n s hI=>?_) n h;show wpAny _ _ ((compTurn (.ListComp elt [⟨target,iter,ifs,0⟩] scope pos) 0 it acc env).onRaise (fun x=>do noteFrame x env;theTreesLotGoes x)) _ _ s;refine wpAny_noted ?_;rw [compTurn_list];refine va (wpAny_standAt (va (vJ (turn n s hI) (fun r s₁ h₁=>?_) fun _ _ h'=>h'.elim)));cases r with
 | none=>exact ve h₁
 | some v=>
  refine va (vJ h₁ (fun _ s₁' h₁'=>?_) fun _ _ h'=>h'.elim);refine va (vJ h₁' (fun _ s₂ h₂=>va (vJ h₂ (fun ok s₃ h₃=>?_) fun _ _ h'=>h'.elim)) fun _ _ h'=>h'.elim);cases ok with
  | true=>
   rw [kG rfl] at h₃ ⊢
   exact va (va (vJ h₃ (fun x s₃' h₃'=>va (vJ h₃' (fun _ s₄ h₄=>ve (ve ⟨rfl,h₄⟩)) fun _ _ h'=>h'.elim)) fun _ _ h'=>h'.elim))
  | false=>
   rw [kF ke] at h₃ ⊢
   exact va (ve (ve ⟨rfl,h₃⟩))
noncomputable abbrev qG (X:Cx) (N:List Str) (scope:Scope) (cl:List (Str × Addr)) (s:Shared) (H:Hp) (fp:List Addr) (C:Addr):Cx where
 prog:=X.prog
 w:=X.w
 K:=X.K
 mg:=X.mg
 base:=X.base
 A:=X.A
 N:=N
 s₀:=s
 H₀:=H
 env:=compEnvC scope cl C X.env
 vY:=X.stack
 stack:=X.stack
 ex:=fp
 fn:=fun _=>false
 calm:=true
 pn:=[]
 xe:=fun _ _=>False
structure qz (X:Cx) (N:List Str) (nt:Nat) (ix:List Nat) (scope:Scope) (cl:List (Str × Addr)):Prop where
 clos:closureFor scope X.env=pure cl
 nocell:∀y∈scope.names,y.2≠.cell
 kind:scope.kind=.function
 names:∀y∈scope.names,y.2=.local->scope.names.lookup y.1=some .local
 sub:∀x c,cl.lookup x=some c->X.env.cells.lookup x=some c
 has:∀x,((relabel scope X.env).names.lookup x=some .cell\/(relabel scope X.env).names.lookup x=some .free)->∃c,cl.lookup x=some c
 len:N.length=nt+ix.length
 free:∀j x,N[nt+j]?=some x->∃i,ix[j]?=some i/\X.N[i]?=some x/\X.env.kindOf x=some .cell/\(relabel scope X.env).names.lookup x=some .cell/\∀c,X.env.cells.lookup x=some c->cl.lookup x=some c
noncomputable def Qw (nt:Nat) (ix:List Nat) (σ:St):St:=List.replicate nt none++ix.map fun i=>(σ[i]?).join
def PTs (X:Cx) (ifs:List Expr) (tc:TT):Prop:=
 ∀(vX:List (Addr × Obj)) (s:Shared) (σ:St) (H:Hp) (Q:Bool->Hp->Prop),Inv X vX σ H s->tc σ H Q->
  wpAny (model X.prog X.w) X.A (forIn ifs true fun c r=>if r=true then do let ok <-isTrue c X.env (eval c X.env);pure (ForInStep.yield ok) else pure (ForInStep.yield r)) (TP X vX σ Q) X.xe s
def tAll:TT:=fun _ H Q=>Q true H
theorem Zj {X:Cx}:PTs X [] tAll:=fun vX s σ H Q I h=>wpAny_tests_nil ⟨H,I,h⟩
theorem Qg {X:Cx} {c:Expr} {tc:TT} (h:PT X c tc):PTs X [c] tc:=fun vX s σ H Q I hq=>wpAny_tests_one (h vX s σ H Q I hq)
def z5V (nt:Nat) (ix:List Nat) (wi:TI) (g:TG) (tc:TT) (te:TE):TE:=fun σ H Q=>wi σ H fun J H1=>∀l,H1 l=none->∃W:Nat->Nat->List V->St->Hp->Prop,(∃m,W 0 m [] (Qw nt ix σ) (upd H1 l (.lst [])))/\∀i m ys σ' H2,W i m ys σ' H2->
 (J.stop i H2/\Q (.ref l) H2)\/(J.go i H2/\∀x H3,J.yld i H2 x H3->g x σ' H3 fun σ2 H4=>tc σ2 H4 fun b H5=>if b=true then te σ2 H5 fun v H6=>H6 l=some (.lst ys)/\ys.length < sizeLine/\∃m',m' < m/\W (i+1) m' (ys++[v]) σ2 (upd H6 l (.lst (ys++[v])))
  else ∃m',m' < m/\W (i+1) m' ys σ2 H5)
section
variable {X:Cx}
theorem ZR {elt iter tg:Expr} {ifs:List Expr} {N:List Str} {nt:Nat} {ix:List Nat} {scope:Scope} {cl:List (Str × Addr)} {pos:Pos} {vX:List (Addr × Obj)} {σ:St} {H:Hp} {s:Shared} {it:Addr} {fp:List Addr} {tn:Nat->Heap->Prop} {J:It} {g:TG} {tc:TT} {te:TE} {Q:VK} {E:Value->Shared->Prop}
  {RR:Value->Addr->Result->Shared->Prop}
  (hc:X.calm=true) (sc:qz X N nt ix scope cl) (I:Inv X vX σ H s) (T:Turn X.prog X.w X.K tg J fp it tn) (st:tn 0 s.heap) (hf:∀b∈fp,FpOk X vX H b)
  (hg:∀(s:Shared) (H:Hp) (fp:List Addr) (C:Addr),PG (qG X N scope cl s H fp C) tg g)
  (ht:∀(s:Shared) (H:Hp) (fp:List Addr) (C:Addr),PTs (qG X N scope cl s H fp C) ifs tc)
  (he:∀(s:Shared) (H:Hp) (fp:List Addr) (C:Addr),PE (qG X N scope cl s H fp C) elt te)
  (h:∀l,H l=none->∃W:Nat->Nat->List V->St->Hp->Prop,(∃m,W 0 m [] (Qw nt ix σ) (upd H l (.lst [])))/\∀i m ys σ' H2,W i m ys σ' H2->
   (J.stop i H2/\Q (.ref l) H2)\/(J.go i H2/\∀x H3,J.yld i H2 x H3->g x σ' H3 fun σ2 H4=>tc σ2 H4 fun b H5=>if b=true then te σ2 H5 fun v H6=>H6 l=some (.lst ys)/\ys.length < sizeLine/\∃m',m' < m/\W (i+1) m' (ys++[v]) σ2 (upd H6 l (.lst (ys++[v])))
    else ∃m',m' < m/\W (i+1) m' ys σ2 H5))
  (hRR:∀D C s' H' m,Inv X vX σ H' s'->s'.heap.Ns C m->C≠X.env.locals->H' C=none->X.s₀.heap.objs.size<=C->(∀x c,X.env.cells.lookup x=some c->c≠C)->(∀p∈X.pn++vX,p.1≠C)->Q (.ref D) H'->RR (.ref D) C (.ok .next) s'):
  wpAny (model X.prog X.w) X.A (newList []) (fun acc s₃=>wpAny (model X.prog X.w) X.A (newFunctionEnv scope X.env.globals cl [] X.env.qual none .none (some X.env)) (fun cenv s₄=>
   codeAny (model X.prog X.w) X.A (.compStart (.ListComp elt [⟨tg,iter,ifs,0⟩] scope pos) 0 (.ref it) acc { cenv with scope:=relabel scope X.env }) (RR acc cenv.locals) s₄) E s₃) E s:=by
 refine vG ?_;have I3:Inv X vX σ (upd H s.heap.objs.size (.lst [])) { s with heap:=s.heap.push { cls:=.type "list",data:=.seq ([]:List Value).toArray } }:=I.lnew (ys:=[]) (its:=[]) (t':=s.toks) .nil (vi _);have st3:tn 0 (s.heap.push { cls:=.type "list",data:=.seq ([]:List Value).toArray }):=T.keep _ _ _ st fun b hb o e=>vb _ e
 have fpl:∀b∈fp,b < s.heap.objs.size:=fun b hb=>by
  obtain ⟨o,e,_⟩:=T.obj _ _ st b hb;exact vf e
 obtain ⟨W,⟨m0,w0⟩,turn⟩:=h s.heap.objs.size I.fresh;have hf3:∀b∈fp,FpOk X vX (upd H s.heap.objs.size (.lst [])) b:=fun b hb=>⟨by rw [zj (vm (fpl b hb))];exact (hf b hb).1,(hf b hb).2⟩
 generalize hD:s.heap.objs.size=D at *;generalize hH3:upd H D (HO.lst [])=H3 at *;generalize hs3:({ s with heap:=s.heap.push { cls:=.type "list",data:=.seq ([]:List Value).toArray } }:Shared)=s3 at *;have hsz3:s3.heap.objs.size=D+1:=by rw [<-hs3,<-hD];exact Heap.size_push ..
 have st3':tn 0 s3.heap:=by rw [<-hs3];exact st3
 refine wpAny_newFunctionEnv (s:=s3) sc.nocell (by intro y hy;simp at hy) (fun h1 hns hsb=>?_) sc.kind;generalize hC:s3.heap.objs.size=C at *;have kept:∀b o,s3.heap.get? b=some o->h1.get? b=some o:=fun b o e=>hsb.extBut b o (by rw [<-hC];exact vm (vf e)) (vb _ e)
 show codeAny (model X.prog X.w) X.A (.compStart (.ListComp elt [⟨tg,iter,ifs,0⟩] scope pos) 0 (.ref it) (.ref D) (compEnvC scope cl C X.env)) (RR (.ref D) C) { s3 with heap:=h1,toks:=s3.toks+0 };have fpC:∀b∈fp,b≠C:=fun b hb=>vm (kR (fpl b hb) (by rw [hsz3];exact Nat.le_succ D))
 have cellC:∀x c,cl.lookup x=some c->c≠C:=fun x c e z=>by
  obtain ⟨v,q⟩:=I3.cell x c (sc.sub x c e);have:=q.lt
  rw [hC,z] at this;exact vA _ this
 have ok:(qG X N scope cl s3 H3 fp C).Ok:={
  mod:=I.ok.mod,kind:=(show (relabel scope X.env).kind=.function from sc.kind),glob:=I.ok.glob,blt:=I.ok.blt,above:=ye hC
  inj:=fun y z c e e'=>I.ok.inj y z c (sc.sub y c e) (sc.sub z c e')
  has:=fun y hy=>sc.has y hy
  cab:=fun y c e _=>nomatch e
  hd:=fun _=>I.ok.hd hc
  frames:=I.ok.frames
  stk:=.inl rfl
  exf:=fun b hb=>⟨fpC b hb,fun y c e=>(hf3 b hb).2.2.2.2.1 y c (sc.sub y c e)⟩
  bs:=I3.bs
  bsz:=kD I.ok.bsz I3.sz
  noex:=fun b o e hb=>by
   obtain ⟨_,_,_,h4,_⟩:=hf3 b hb;rcases h4 with z | z
   ·exact I.ok.noex b o e z
   ·exact vd (kR (vf (I.ok.bs b o e).1) z) (vA _)
  exfs:=fun b hb z=>by
   obtain ⟨_,h1,h2,_⟩:=hf3 b hb;rcases kJ.mp (I3.stkSub b z) with q | q
   ·exact h1 q
   ·exact h2 q
  funs:=I3.stack
  frf:=I3.stkFree }
 have cellK:∀c v,s3.heap.IsCell c v->h1.IsCell c v:=fun c v ⟨o,ho,hd⟩=>⟨o,kept c o ho,hd⟩
 have I4:Inv (qG X N scope cl s3 H3 fp C) [] (Qw nt ix σ) H3 { s3 with heap:=h1,toks:=s3.toks+0 }:={
  ok:=ok,os:=rfl,bare:=I3.bare,base:=Un.kept kept
  loc:=⟨_,hns,fun i y v e1 e2 _=>by
   have e2:(Qw nt ix σ)[i]?=some (some v):=e2;unfold Qw at e2;by_cases hi:i < nt
   ·rw [ym (by simpa using hi),vq,kG hi] at e2;cases e2
   ·obtain ⟨j,rfl⟩:∃j,i=nt+j:=⟨i - nt,by lia⟩
    rw [yn (by simp),vj,Nat.add_sub_cancel_left,vh] at e2;obtain ⟨k,hk,hXN,hkind,hrel,hcl⟩:=sc.free j y e1;rw [hk] at e2;have e3:σ[k]?=some (some v):=by
     cases q:σ[k]? with
     | none=>rw [Option.map_some,q] at e2;cases e2
     | some o=>rw [Option.map_some,q] at e2;simpa using e2
    obtain ⟨m,_,hl⟩:=I3.loc;obtain ⟨u,ru,lk⟩:=hl k y v hXN e3 (.inr (.inl hkind));refine ⟨u,ru,.inr ⟨.inl hrel,?_⟩⟩;rcases lk with ⟨z,_⟩ | ⟨_,c,hcc,hcell⟩
    ·rw [hkind] at z;cases z
    ·exact ⟨c,hcl c hcc,cellK _ _ hcell⟩⟩
  cell:=fun y c e=>let ⟨v,q⟩:=I3.cell y c (sc.sub y c e);⟨v,cellK _ _ q⟩
  free:=I3.hok.fresh (ye hC)
  freeC:=fun y c e=>I3.freeC y c (sc.sub y c e)
  pin:=fun p hp=>vd (show p∈([]:List (Addr × Obj)) from hp) (by simp)
  hok:=I3.hok.kept kept
  len:=by show (Qw nt ix σ).length=N.length;rw [sc.len];unfold Qw;simp }
 have st4:tn 0 h1:=T.keep _ _ _ st3' fun b hb o e=>kept b o e
 have stat:∀{H':Hp},(∀b∈fp,H' b=none)->∀b∈fp,FpOk (qG X N scope cl s3 H3 fp C) [] H' b:=fun hn b hb=>⟨hn b hb,fpC b hb,ok.exfs b hb,.inl hb,(fun y c e=>(hf3 b hb).2.2.2.2.1 y c (sc.sub y c e)),fun p hp=>vd (show p∈([]:List (Addr × Obj)) from hp) (by simp)⟩
 have loop:codeAny (model X.prog X.w) X.A (.compLoop (.ListComp elt [⟨tg,iter,ifs,0⟩] scope pos) 0 (.ref it) (.ref D) (compEnvC scope cl C X.env)) (RR (.ref D) C) { s3 with heap:=h1,toks:=s3.toks+0 }:=by
  refine z0N (fun n s'=>∃i ys σ' H',Inv (qG X N scope cl s3 H3 fp C) [] σ' H' s'/\tn i s'.heap/\(∀b∈fp,H' b=none)/\W i n ys σ' H') ?_ m0 ⟨0,[],_,H3,I4,st4,fun b hb=>(hf3 b hb).1,w0⟩;rintro n s5 ⟨i,ys,σ5,H5,I5,st5,fr5,w5⟩;rcases turn i n ys σ5 H5 w5 with ⟨stop,qn⟩ | ⟨go,step⟩
  ·refine thn (T.done (qG X N scope cl s3 H3 fp C) rfl rfl rfl rfl i [] s5 σ5 H5 _ I5 (stat fr5) st5 stop) fun r s6 zz=>?_
   obtain ⟨hr,I6⟩:=zz;subst hr;obtain ⟨m6,n6,_⟩:=I6.loc;refine hRR D C s6 H5 m6 (I3.call' I6.os I6.base I6.hok I6.bare fun b hb=>?_) n6 (Nat.ne_of_gt (by have:=I3.lt;rw [hC] at this;exact this)) I6.free (by have:=I3.sz;rw [hC] at this;exact this) (fun y c e z=>?_) (fun p hp z=>?_) qn
   ·obtain ⟨_,h1,_,h4,h5,h6⟩:=hf3 b hb;exact ⟨h4,h1,h5,h6⟩
   ·obtain ⟨v,q⟩:=I3.cell y c e;have:=q.lt
    rw [hC,z] at this;exact vA _ this
   ·have:=vf (I3.pin p hp).1
    rw [hC,z] at this;exact vA _ this
  ·refine thn (T.item (qG X N scope cl s3 H3 fp C) rfl rfl rfl rfl i [] s5 σ5 H5 _ I5 (stat fr5) st5 go) fun r s6 zz=>?_
   obtain ⟨u,hr,h6⟩:=zz;subst hr;refine thn h6 fun _ s7 zz=>?_
   obtain ⟨v,H7,I7,r7,y7,st7,fr7⟩:=zz;have I7':=I7.pinned (stat fr7) (T.obj _ _ st7);refine thn (hg s3 H3 fp C _ s7 σ5 H7 v u _ I7' r7 (step v H7 y7)) fun _ s8 zz=>?_
   obtain ⟨σ8,H8,I8,q8⟩:=zz;refine thn (ht s3 H3 fp C _ s8 σ8 H8 _ I8 q8) fun b s9 zz=>?_
   obtain ⟨H9,I9,q9⟩:=zz;have again:∀{sE:Shared} {HE:Hp} {ysE:List V} {m':Nat},Inv (qG X N scope cl s3 H3 fp C) ([]++z0o fp s7.heap) σ8 HE sE->m' < n->W (i+1) m' ysE σ8 HE->∃m,m < n/\∃i ys σ' H',Inv (qG X N scope cl s3 H3 fp C) [] σ' H' sE/\tn i sE.heap/\(∀b∈fp,H' b=none)/\W i m ys σ' H':=fun {sE HE ysE m'} IE hm' wE=>by
    refine ⟨m',hm',i+1,ysE,σ8,HE,IE.unpinned (vX:=[]),T.keep _ _ _ st7 fun b hb o e=>(IE.pin (b,o) (kU _ (kU _ (ZA hb e)))).1,fun b hb=>?_,wE⟩;obtain ⟨o,e,d⟩:=T.obj _ _ st7 b hb;exact (IE.pin (b,o) (kU _ (kU _ (ZA hb e)))).2.1
   cases b with
   | false=>
    rw [kF ke] at q9 ⊢
    obtain ⟨m',hm',w9⟩:=q9;exact again I9 hm' w9
   | true=>
    rw [kG rfl] at q9 ⊢
    refine thn (he s3 H3 fp C _ s9 σ8 H9 _ I9 q9) fun yv s10 zz=>?_
    obtain ⟨y,H10,I10,r10,q10⟩:=zz;obtain ⟨hl9,hz9,m',hm',w9⟩:=q10;obtain ⟨z9,its,k9,rv9,ll9,e9⟩:=I10.lstM hl9;refine call_meets F.slot_list_append ⟨_,e9,rfl⟩ F.entry_list_append (F.args_list_append_2 _ _) (PySem.list_append D its.toArray k9 yv (by rw [kK];lia)) ⟨e9,?_⟩;have I11:=I10.lset (t':=s10.toks) (its':=its++[yv]) (f:=(·.push yv)) hl9 e9 (by simp) (rv9.append (.cons r10 .nil)) (by rw [ku,kL];lia);exact again I11 hm' w9
 exact codeAny_compStart_list loop (T.self _ 0 _ _ _ st4 loop)
theorem je {elt iter tg:Expr} {ifs:List Expr} {N:List Str} {nt:Nat} {ix:List Nat} {scope:Scope} {cl:List (Str × Addr)} {pos:Pos} {wi:TI} {g:TG} {tc:TT} {te:TE} (hc:X.calm=true) (sc:qz X N nt ix scope cl) (hi:PI X tg iter wi)
  (hg:∀(s:Shared) (H:Hp) (fp:List Addr) (C:Addr),PG (qG X N scope cl s H fp C) tg g)
  (ht:∀(s:Shared) (H:Hp) (fp:List Addr) (C:Addr),PTs (qG X N scope cl s H fp C) ifs tc)
  (he:∀(s:Shared) (H:Hp) (fp:List Addr) (C:Addr),PE (qG X N scope cl s H fp C) elt te) (hs:∀x,foldedSetIterable iter X.env x=pure x:=by intro _;rfl):
  PE X (.ListComp elt [⟨tg,iter,ifs,0⟩] scope pos) (z5V nt ix wi g tc te):=by
 intro vX s σ H Q I h;rw [eval_ListComp];refine wpAny_comprehension_free (use:=none) rfl hs sc.clos sc.kind sc.names (thn (hi vX s σ H _ I h) fun v s1 h1=>thn h1 fun itv s2 h2=>?_);obtain ⟨it,fp,tn,J,H2,e,I2,T,st2,f2,q2⟩:=h2;subst e;refine ZR (RR:=fun acc C=>compPost (model X.prog X.w) X.A X.xe none (EP X vX σ Q) acc C) hc sc I2 T st2 f2 hg ht he q2 ?_;intro D C s' H' m I' n' c1 c2 c3 c4 c5 q';exact ⟨m,n',fun h' hs'=>⟨.ref D,H',I'.turned (t':=s'.toks) (it:=C) (fun b o hb e=>(hs'.2 b hb).trans e) c2 c1 (.inr c3) c4 c5,rfl,q'⟩⟩
theorem QQ {elt iter tg:Expr} {ifs:List Expr} {N:List Str} {nt:Nat} {ix:List Nat} {y:Str} {i:Nat} {py spos:Pos} {scope:Scope} {cl:List (Str × Addr)} {pos:Pos} {wi:TI} {g:TG} {tc:TT} {te:TE} (hc:X.calm=true) (hN:X.N.Nodup) (hy:X.N[i]?=some y) (hl:Loc X.env.scope y) (sc:qz X N nt ix scope cl) (hi:PI X tg iter wi)
  (hg:∀(s:Shared) (H:Hp) (fp:List Addr) (C:Addr),PG (qG X N scope cl s H fp C) tg g)
  (ht:∀(s:Shared) (H:Hp) (fp:List Addr) (C:Addr),PTs (qG X N scope cl s H fp C) ifs tc)
  (he:∀(s:Shared) (H:Hp) (fp:List Addr) (C:Addr),PE (qG X N scope cl s H fp C) elt te)
  (hsw:autoParam (swapsWith (.ListComp elt [⟨tg,iter,ifs,0⟩] scope pos) (some (.Name y py)) spos.line X.env=pure true) aR._auto_1) (hs:∀x,foldedSetIterable iter X.env x=pure x:=by intro _;rfl)
  (hf:X.fn y=true\/X.env.scope.names.lookup y=some .local:=by first | exact .inl rfl | exact .inr rfl | assumption):
  PS X (.Assign [.Name y py] (.ListComp elt [⟨tg,iter,ifs,0⟩] scope pos) spos) (z4x i (z5V nt ix wi g tc te)):=by
 intro vX s σ H D I h;rw [exec_Assign_Name_used _ _ _ _ hsw];refine va (wpAny_standAt (va ?_));show wpAny _ X.A (do let _ <-comprehension (.ListComp elt [⟨tg,iter,ifs,0⟩] scope pos) scope X.env _ (newList []) false (eval iter X.env) (some (assign (.Name y py) X.env))) _ _ s;refine va (vJ (wpAny_comprehension_free (use:=some (assign (.Name y py) X.env)) (Q:=fun _ s'=>SP X vX D .next s') (E:=X.xe) rfl hs sc.clos sc.kind sc.names
  (thn (hi vX s σ H _ I h) fun v s1 h1=>thn h1 fun itv s2 h2=>?_)) (fun _ s' hq=>ve (ve hq)) fun _ _ e=>e)
 obtain ⟨it,fp,tn,J,H2,e,I2,T,st2,f2,q2⟩:=h2;subst e;refine ZR (Q:=fun v H1=>D.nx (σ.set i (some v)) H1) (RR:=fun acc C=>compPost (model X.prog X.w) X.A X.xe (some (assign (.Name y py) X.env)) (fun _ s'=>SP X vX D .next s') acc C) hc sc I2 T st2 f2 hg ht he q2 ?_;intro l C s' H' m I' n' c1 c2 c3 c4 c5 q';show wpAny _ X.A (assign (.Name y py) X.env (.ref l)) _ _ _;refine wpAny_assign_Name (z0f I' hN hy hl (v:=.ref l) rfl (fun s'' I'' k=>?_) hf);obtain ⟨a,sb,ha⟩:=k;have hne:C≠a:=by
  rcases ha with ha | ha
  ·rw [ha];exact c1
  ·exact fun z=>c4 _ _ ha z.symm
 refine ⟨m,n'.sameBut sb hne,fun h' hs'=>?_⟩;exact ⟨_,H',I''.turned (t':=s''.toks) (it:=C) (fun b o hb e=>(hs'.2 b hb).trans e) c2 c1 (.inr c3) c4 c5,q'⟩
end
end L2
namespace L2
theorem Inv.recast {X:Cx} {vX:List (Addr × Obj)} {σ:St} {H:Hp} {s:Shared} {d:Addr} {u u':HO} (I:Inv X vX σ H s) (e:H d=some u) (nt:∀xs,u≠.tup xs) (nb:∀ps,u≠.tbl ps) (no:∀x,u≠.own x)
  (hfz:∀o v,X.H₀ d≠some (.frz o v)) (ok:qK X.prog X.w (upd H d u') s.heap d u'):Inv X vX σ (upd H d u') s:=by
 have nn:∀b,H b=none->upd H d u' b=none:=fun b h=>by
  rw [zj (fun z=>by rw [z,e] at h;cases h)];exact h
 refine { I with base:=⟨I.base.keep,I.base.slot,fun b o q n hx=>nn b (I.base.free b o q n hx),I.base.there,fun b xs q=>?_,fun b o v q=>?_,fun b ps q=>?_⟩,free:=nn _ I.free,freeC:=fun x c q=>nn _ (I.freeC x c q),pin:=fun p hp=>?_,hok:=fun b v q=>?_ }
 ·have:=I.base.tups b xs q
  rw [zj (fun z=>by rw [z,e] at this;exact nt xs (kH this))];exact this
 ·have:=I.base.frzs b o v q
  rw [zj (fun z=>hfz o v (by rw [<-z];exact q))];exact this
 ·obtain ⟨m,h⟩:=I.base.tbls b ps q;exact ⟨m,by rw [zj (fun z=>by rw [z,e] at h;exact nb _ (kH h))];exact h⟩
 ·obtain ⟨a,b,c⟩:=I.pin p hp;exact ⟨a,nn _ b,c⟩
 ·by_cases hb:b=d
  ·subst hb;rw [zc] at q;cases q;exact ok
  ·rw [zj hb] at q;refine (I.hok b v q).stay (fun _ _ _ z=>z) (fun c z=>?_) fun c xs z=>?_
   ·rw [zj (fun y=>by rw [y,e] at z;exact no _ (kH z))];exact z
   ·rw [zj (fun y=>by rw [y,e] at z;exact nt _ (kH z))];exact z
theorem Inv.nofrz {X:Cx} {vX:List (Addr × Obj)} {σ:St} {H:Hp} {s:Shared} {d:Addr} {u:HO} (I:Inv X vX σ H s) (e:H d=some u) (nf:∀o v,u≠.frz o v):∀o v,X.H₀ d≠some (.frz o v):=fun o v q=>by
 have:=I.base.frzs d o v q
 rw [e] at this;exact nf o v (kH this)
theorem z3z {k:Key} {u:Value} (h:z1n k u=true):RelV (kV k) u:=by
 rcases qD h with ⟨i,t,rfl,rfl⟩ | ⟨x,t,rfl,rfl⟩
 ·exact ⟨t,rfl⟩
 ·exact ⟨t,rfl⟩
theorem KV.get {kvs:List (Key × V)} {vs:List (Key × Value)} (r:KV kvs vs):∀{i:Nat} {p:Key × V},kvs[i]?=some p->∃v,vs[i]?=some (p.1,v)/\RelV p.2 v:=by
 unfold KV at r;induction r with
 | nil=>intro i p h;simp at h
 | @cons p q ps qs h t ih=>
  intro i p' hp;cases i with
  | zero=>
   simp at hp
   subst hp;exact ⟨q.2,by rw [h.1];rfl,h.2⟩
  | succ i=>
   obtain ⟨v,h1,h2⟩:=ih (by simpa using hp);exact ⟨v,by simpa using h1,h2⟩
noncomputable def Itd (a:Addr) (o:Obj) (kvs:List (Key × V)):It:=
 ⟨fun i H=>H a=some (.frz o (.dK kvs))/\i < kvs.length,fun i H x H'=>∃p k v,x=.ref p/\H p=none/\kvs[i]?=some (k,v)/\H'=upd H p (.tup [kV k,v]),fun i H=>H a=some (.frz o (.dK kvs))/\kvs.length<=i⟩
theorem z3V:entryFor table "dict_itemiterator.__iter__"=some Builtin.«dict_keyiterator.__iter__»:=
 entryFor_alias (id':="dict_keyiterator.__iter__") (by rw [fastTable_eq_tree];kernel_rfl) (by kernel_rfl) (by kernel_rfl) (by rw [fastTable_eq_tree];kernel_rfl)
theorem Zb {prog:Program} {w:World} {A:Around} {E:Value->Shared->Prop} {s:Shared} {it d:Addr} {i n ep:Nat} {ok ov:Value} {Q:Value->Shared->Prop} (he:IsItemIter s.heap it d i n ep ok ov) (h:Q (.ref it) s):
  wpAny (model prog w) A (pyIter (.ref it)) Q E s:=by
 have hT:s.TypeIs (.ref it) "dict_itemiterator":=⟨_,he,rfl⟩
 refine wpAny_pyIter_slot hT F.slot_dict_itemiterator_iter (wpAny_call_entry F.slot_dict_itemiterator_iter hT z3V ?_ (F.args_dict_itemiterator_iter_1 _));show wpAny _ _ (ret (.ref it)) _ _ s;exact ve ⟨_,rfl,"dict_itemiterator",_,hT,F.slot_dict_itemiterator_next.lookup,h⟩
theorem z28 {P:Program} {w:World} {K:kE} {elts:List Expr} {x1} {pos:Pos} (a it:Addr) (o:Obj) (kvs:List (Key × V)):
  Turn P w K (.Tuple elts x1 pos) (Itd a o kvs) [it] it (fun i h=>∃es ep ok ov,o.data=.dict es ep/\IsItemIter h it a i kvs.length ep ok ov) where
 mem:=by simp
 obj:=fun i h st b hb=>by
  have z:b=it:=by simpa using hb
  subst z;obtain ⟨es,ep,ok,ov,_,q⟩:=st;exact ⟨_,q,fun v y=>by cases y⟩
 keep:=fun i h h' st k=>let ⟨es,ep,ok,ov,d,q⟩:=st;⟨es,ep,ok,ov,d,k it (by simp) _ q⟩
 item:=by
  intro X hP hw hK hc i vX s σ H E I hf st hg;subst hP hw hK;obtain ⟨hq,hi⟩:=hg;obtain ⟨es,ep,ok,ov,hd,hit⟩:=st;obtain ⟨ho,hz,hsy,vs,rel,ob,es',ep',hob,hex,hdat,r3⟩:=(show qK X.prog X.w H s.heap a (.frz o (.dK kvs)) from I.hok a _ hq)
  rw [ho] at hob;cases hob;rw [hd] at hdat;cases hdat;have hm:s.heap.DictAt (qp X.prog X.w) a vs ep:=⟨o,es,ho,hex,hd,r3⟩
  have hlen:kvs.length=vs.length:=Paired.length rel;obtain ⟨p,hp⟩:∃p,kvs[i]?=some p:=⟨kvs[i],kQ hi⟩
  obtain ⟨v,hv,rv⟩:=rel.get hp;have fi:=hf it (by simp);rw [hlen] at hit;refine wpAny_pyNext_items_item hit hm hv fun key h' hkey heo ht hsz hk=>⟨_,rfl,?_⟩
  have rk:RelV (kV p.1) key:=z3z hkey;have new:qK X.prog X.w (upd H s.heap.objs.size (.tup [kV p.1,p.2])) h' s.heap.objs.size (.tup [kV p.1,p.2]):=⟨vW,[key,v],.cons rk (.cons rv .nil),_,ht,rfl,_,rfl⟩
  have I1:Inv X vX σ (upd H s.heap.objs.size (.tup [kV p.1,p.2])) { s with heap:=h',toks:=s.toks }:=I.turned2 (e:=it) (it:=it) (t':=s.toks) (fun b o hb _ e=>hk b o hb e) (fun b hb=>by
   have z:b=it:=by simpa using hb
   subst z;exact ⟨_,heo⟩) fi fi new
  have ne1:it≠s.heap.objs.size:=vm (vf hit);refine wpAny_letOwnedTupleGo_items (s:={ s with heap:=h' }) heo fun h2 he2 hs2=>?_
  refine ⟨.ref s.heap.objs.size,_,I1.turned (t':=s.toks) (it:=it) (fun b o hb q=>(hs2.2 b hb).trans q) (by rw [zj ne1];exact fi.1) fi.2.1 fi.2.2.2.1 fi.2.2.2.2.1 fi.2.2.2.2.2,rfl,⟨_,p.1,p.2,rfl,I.fresh,hp,rfl⟩,⟨es,ep,key,v,hd,by rw [hlen];exact he2⟩,fun b hb=>?_⟩;have z:b=it:=by simpa using hb
  subst z;rw [zj ne1];exact fi.1
 done:=by
  intro X hP hw hK hc i vX s σ H E I hf st hg;subst hP hw hK;obtain ⟨hq,hi⟩:=hg;obtain ⟨es,ep,ok,ov,hd,hit⟩:=st;obtain ⟨ho,hz,hsy,vs,rel,ob,es',ep',hob,hex,hdat,r3⟩:=(show qK X.prog X.w H s.heap a (.frz o (.dK kvs)) from I.hok a _ hq)
  rw [ho] at hob;cases hob;rw [hd] at hdat;cases hdat;have hm:s.heap.DictAt (qp X.prog X.w) a vs ep:=⟨o,es,ho,hex,hd,r3⟩
  have hlen:kvs.length=vs.length:=Paired.length rel;rw [hlen] at hit hi;obtain ⟨f0,f1,f2,f3,f4,f5⟩:=hf it (by simp);exact wpAny_pyNext_items_end (I.ok.hd hc) hit hm (by rw [List.getElem?_eq_none_iff];exact hi) fun h' eb=>⟨rfl,I.turned (t':=s.toks) (fun b o hb e=>eb b o hb e) f0 f1 f3 f4 f5⟩
 self:=fun _ _ _ _ _ st h=>let ⟨es,ep,ok,ov,_,q⟩:=st;Zb q h
section
variable {X:Cx}
def z8j (nt:Nat) (ix:List Nat) (td:TE) (g:TG) (tc:TT) (te:TE):TE:=fun σ H Q=>td σ H fun x H1=>∃a kvs,x=.ref a/\H1 a=some (.dK kvs)/\∀o l,H1 l=none->∃W:Nat->Nat->List V->St->Hp->Prop,(∃m,W 0 m [] (Qw nt ix σ) (upd (upd H1 a (.frz o (.dK kvs))) l (.lst [])))/\∀i m ys σ' H2,W i m ys σ' H2->
 H2 a=some (.frz o (.dK kvs))/\(kvs.length<=i->Q (.ref l) (upd H2 a (.dK kvs)))/\(∀p k v,kvs[i]?=some (k,v)->H2 p=none->g (.ref p) σ' (upd H2 p (.tup [kV k,v])) fun σ2 H4=>tc σ2 H4 fun b H5=>if b=true then te σ2 H5 fun v H6=>H6 l=some (.lst ys)/\ys.length < sizeLine/\∃m',m' < m/\W (i+1) m' (ys++[v]) σ2 (upd H6 l (.lst (ys++[v])))
  else ∃m',m' < m/\W (i+1) m' ys σ2 H5)
theorem z1L {elt o:Expr} {elts:List Expr} {x1} {tp apos cpos:Pos} {ifs:List Expr} {N:List Str} {nt:Nat} {ix:List Nat} {scope:Scope} {cl:List (Str × Addr)} {pos:Pos} {td:TE} {g:TG} {tc:TT} {te:TE} (hc:X.calm=true) (sc:qz X N nt ix scope cl) (ho:PE X o td)
  (hg:∀(s:Shared) (H:Hp) (fp:List Addr) (C:Addr),PG (qG X N scope cl s H fp C) (.Tuple elts x1 tp) g)
  (ht:∀(s:Shared) (H:Hp) (fp:List Addr) (C:Addr),PTs (qG X N scope cl s H fp C) ifs tc)
  (he:∀(s:Shared) (H:Hp) (fp:List Addr) (C:Addr),PE (qG X N scope cl s H fp C) elt te) (hs:∀x,foldedSetIterable (.Call (.Attribute o "items" apos) [] [] cpos) X.env x=pure x:=by intro _;rfl)
  (hbase:autoParam (attributeBase o "items" X.env (eval o X.env)=eval o X.env) aR._auto_1) (hline:autoParam ((apos.endLine == cpos.line)=true) aR._auto_1):
  PE X (.ListComp elt [⟨.Tuple elts x1 tp,.Call (.Attribute o "items" apos) [] [] cpos,ifs,0⟩] scope pos) (z8j nt ix td g tc te):=by
 intro vX s σ H Q I h;rw [eval_ListComp];refine wpAny_comprehension_free (use:=none) rfl hs sc.clos sc.kind sc.names ?_;refine wpAny_Call_method0_late hbase hline (thn (ho vX s σ H _ I h) fun v s1 zz=>?_);obtain ⟨x,H1,I1,r1,a,kvs,ex,ha,q1⟩:=zz;subst ex;cases r1;obtain ⟨hz,hsy,vs,rel,dd⟩:=z40 I1.hok ha;obtain ⟨ob,es,ep,hob,hex,hdat,r3⟩:=id dd;have hlen:kvs.length=vs.length:=Paired.length rel;refine ⟨"dict",_,F.plainAttrs_dict,F.slot_dict_items,F.type_dict_items,⟨ob,hob,hex.1⟩,fun b z=>(by cases z;exact ⟨ob,hob,hex.2.1⟩),vC rfl (PySem.evalArgs_none ?_)⟩;refine call_meetsIn F.slot_dict_items dd.typeIs F.entry_dict_items (F.args_dict_items_1 _) (meets_dict_items (qp X.prog X.w) a hsy) ⟨⟨vs,dd⟩,?_⟩;have k2:∀b o,s1.heap.get? b=some o->(s1.heap.push { cls:=.type "dict_items",data:=.fields #[.ref a] }).get? b=some o:=fun b o e=>vb _ e
 have I2:Inv X vX σ H1 { s1 with heap:=s1.heap.push { cls:=.type "dict_items",data:=.fields #[.ref a] } }:=I1.kept (t':=s1.toks) k2;have hm:(s1.heap.push { cls:=.type "dict_items",data:=.fields #[.ref a] }).DictAt (qp X.prog X.w) a vs ep:=⟨ob,es,k2 _ _ hob,hex,hdat,r3⟩
 generalize hs2:({ s1 with heap:=s1.heap.push { cls:=.type "dict_items",data:=.fields #[.ref a] } }:Shared)=s2 at *;have hm2:s2.heap.DictAt (qp X.prog X.w) a vs ep:=by rw [<-hs2];exact hm
 have hview:s2.heap.IsItemsView s1.heap.objs.size a:=⟨_,by rw [<-hs2];exact vg _ rfl,rfl,rfl⟩
 refine wpAny_pyIter_items hview hm2 ?_;have k3:∀b o,s2.heap.get? b=some o->(s2.heap.push { cls:=.type "dict_itemiterator",data:=.fields #[.none,.bool false,.ref a,.int 0 0,.int vs.length 0,.int ep 0,.none,.none] }).get? b=some o:=fun b o e=>vb _ e
 have I3:Inv X vX σ H1 { s2 with heap:=s2.heap.push { cls:=.type "dict_itemiterator",data:=.fields #[.none,.bool false,.ref a,.int 0 0,.int vs.length 0,.int ep 0,.none,.none] } }:=I2.kept (t':=s2.toks) k3;have hob3:(s2.heap.push { cls:=.type "dict_itemiterator",data:=.fields #[.none,.bool false,.ref a,.int 0 0,.int vs.length 0,.int ep 0,.none,.none] }).get? a=some ob:=k3 _ _ (by rw [<-hs2];exact k2 _ _ hob);have nf:=I3.nofrz ha (fun _ _=>nofun);have I4:=I3.recast (u':=.frz ob (.dK kvs)) ha (fun _=>nofun) (fun _=>nofun) (fun _=>nofun) nf ⟨hob3,hz,hsy,vs,rel,ob,es,ep,hob3,hex,hdat,r3⟩;have itn:H1 s2.heap.objs.size=none:=I2.fresh;have nea:s2.heap.objs.size≠a:=(ze ha itn).symm;refine ZR (Q:=fun v H'=>H' a=some (.frz ob (.dK kvs))/\Q v (upd H' a (.dK kvs))) (RR:=fun acc C=>compPost (model X.prog X.w) X.A X.xe none (EP X vX σ Q) acc C) hc sc I4 (z28 a s2.heap.objs.size ob kvs) ⟨es,ep,.none,.none,hdat,by rw [hlen];exact vg _ rfl⟩ (fun b hb=>?_) hg ht he (fun l hl=>?_) ?_
 ·have z:b=s2.heap.objs.size:=by simpa using hb
  subst z;exact I2.fpOk (ki _) (by rw [zj nea];exact itn)
 ·have hl1:H1 l=none:=by
   cases q:H1 l with
   | none=>rfl
   | some u=>
    by_cases z:l=a
    ·subst z;rw [zc] at hl;cases hl
    ·rw [zj z,q] at hl;cases hl
  obtain ⟨W,w0,turn⟩:=q1 ob l hl1;refine ⟨W,w0,fun i m ys σ' H2 hW=>?_⟩;obtain ⟨t1,t2,t3⟩:=turn i m ys σ' H2 hW;by_cases hlt:i < kvs.length
  ·refine .inr ⟨⟨t1,hlt⟩,fun x H3 y=>?_⟩;obtain ⟨p,k,v,rfl,hp,hkv,rfl⟩:=y;exact t3 p k v hkv hp
  ·exact .inl ⟨⟨t1,by lia⟩,t1,t2 (by lia)⟩
 ·intro D C s' H' m I' n' c1 c2 c3 c4 c5 q';obtain ⟨q5,q6⟩:=q';refine ⟨m,n',fun h' hs'=>?_⟩;have I5:=I'.turned (t':=s'.toks) (it:=C) (h':=h') (fun b o hb e=>(hs'.2 b hb).trans e) c2 c1 (.inr c3) c4 c5;obtain ⟨hob5,ok5⟩:=(show qK X.prog X.w H' h' a (.frz ob (.dK kvs)) from I5.hok a _ q5)
  obtain ⟨z1,z2,vs',rel',dd'⟩:=(show qK X.prog X.w H' h' a (.dK kvs) from ok5)
  exact ⟨.ref D,_,I5.recast (u':=.dK kvs) q5 (fun _=>nofun) (fun _=>nofun) (fun _=>nofun) nf ⟨z1,z2,vs',rel',dd'⟩,rfl,q6⟩
theorem z4n {bs:List Bool} {us:List Value} (r:Vals (bs.map V.bl) us):us=bs.map Value.bool:=by
 induction bs generalizing us with
 | nil=>cases r;rfl
 | cons b bs ih=>
  cases r with
  | cons x y=>cases x;rw [ih y];rfl
theorem Z2 (hc:X.calm=true):Zx X (.builtin "all") (fun xs H Q=>∃(p:Addr) (bs:List Bool),xs=[.ref p]/\SqL X.K H p (bs.map V.bl)/\Q (.bl (bs.all id)) H):=by
 intro vX s σ H xs us Q I r h;obtain ⟨p,bs,rfl,hS,q⟩:=h;obtain ⟨u,rfl,ru⟩:=Jd r;cases ru;obtain ⟨its,rv,pl,hz⟩:=I.list hS;obtain rfl:=z4n rv;have hh:X.A.in1.handled=none:=I.ok.hd hc;have hne:p≠s.heap.objs.size:=vm (by obtain ⟨o,_,e,_⟩:=pl;exact vf e);refine call_all_walk (wpAny_pyIter_list pl.isList ?_);refine ⟨s.heap.objs.size,_,_,_,_,_,fun i=>(bs[i]?).getD true,rfl,Walks.list hh s.heap.objs.size p hne (bs.map Value.bool).toArray,⟨⟨_,vg _ rfl,rfl,rfl⟩,pl.isList.push _⟩,fun i v s' Q' E' hv hq=>?_,fun h' tk hk=>?_⟩
 ·have hv:(bs.map Value.bool).toArray[i]?=some v:=hv;rw [List.getElem?_toArray,vh] at hv;cases hb:bs[i]? with
  | none=>rw [hb] at hv;cases hv
  | some b=>
   rw [hb] at hv;cases hv;have hq:Q' ((bs[i]?).getD true) s':=hq;rw [hb] at hq;exact vB hq
 ·have e:(List.range (bs.map Value.bool).toArray.size).all (fun i=>(bs[i]?).getD true)=bs.all id:=by
   rw [kK,kq,vR,List.all_eq_true,List.all_eq_true];constructor
   ·intro h b hb;obtain ⟨i,hi⟩:=List.getElem?_of_mem hb;have:=h i (List.mem_range.mpr (kj.mp hi).1)
    rw [hi] at this;exact this
   ·intro h i hi;rw [kQ (List.mem_range.mp hi)];exact h _ (List.getElem_mem _)
  rw [e];refine ⟨.bl _,H,I.kept (t':=tk) fun b o e=>hk b o (fun z=>?_) (vb _ e),rfl,q⟩;have:b=s.heap.objs.size:=by simpa using z
  rw [this] at e;exact vd (vf e) (vA _)
theorem z07:Zx X (.type "bool") (fun xs H Q=>∃x,xs=[x]/\((x=.non/\Q (.bl false) H)\/(∃b,x=.bl b/\Q (.bl b) H)\/(∃i,x=.int i/\Q (.bl (i != 0)) H)\/∃z,x=.str z/\z.length<=sizeLine/\Q (.bl ((z.length:Int) != 0)) H)):=by
 intro vX s σ H xs us Q I r h;obtain ⟨x,rfl,h⟩:=h;obtain ⟨u,rfl,ru⟩:=Jd r;rcases h with ⟨rfl,q⟩ | ⟨b,rfl,q⟩ | ⟨i,rfl,q⟩ | ⟨z,rfl,hz,q⟩
 ·cases ru;exact call_bool_none ⟨.bl false,H,I,rfl,q⟩
 ·cases ru;exact call_bool_bool ⟨.bl b,H,I,rfl,q⟩
 ·obtain ⟨t,rfl⟩:=ru;exact call_bool_int ⟨.bl _,H,I,rfl,q⟩
 ·obtain ⟨t,rfl⟩:=ru;have:=J3
  exact call_bool_str (by lia) ⟨.bl _,H,I.tok _,rfl,q⟩
def z8e (tab:List (Str × V)) (ty tx:TE):TE:=fun σ H Q=>ty σ H fun y H1=>tx σ H1 fun z H2=>∃x,y=.str x/\Q ((tab.lookup x).getD z) H2
theorem QL {nm:Str} {e f:Expr} {p apos cpos:Pos} {d:Addr} {tab:List (Str × V)} {ty tx:TE} (T:KTab X.w.params X.K d tab) (hg:Gl X nm) (hm:X.mg nm=some (.ref d)) (he:PE X e ty) (hf:PE X f tx) (m:M2 X (.Name nm p) "get" apos e f cpos) (hd:autoParam ((nm == ("__debug__":Str))=false) aR._auto_2):
  PE X (.Call (.Attribute (.Name nm p) "get" apos) [e,f] [] cpos) (z8e tab ty tx):=by
 intro vX s σ H Q I h;refine wpAny_Call_method m.base m.few m.line PySem.F.plainAttrs_dict vS PySem.F.type_dict_get (ZM I hg hm ?_ hd);obtain ⟨es,n,hl,hk,hsy,hp⟩:=id T;have ho:=I.kIn d _ hl;refine ⟨⟨_,ho,rfl⟩,fun b z=>(by cases z;exact ⟨_,ho,rfl⟩),?_⟩;rw [m.trees];refine vC rfl (Calls.evalArgs_plain (vK (thn (he vX s σ H _ I h) fun iv s2 ⟨y,H2,I2,ry,q2⟩=>
  vK (thn (hf vX s2 σ H2 _ I2 q2) fun fv s3 ⟨z,H3,I3,rz,x,ex,q3⟩=>Calls.spliced_nil ?_))))
 subst ex;obtain ⟨t,rfl⟩:=ry;obtain ⟨fm,mo,_,hf⟩:=JR (prog:=X.prog) (w:=X.w) rfl T I3.kIn;refine call_meetsIn vS mo.typeIs PySem.F.entry_dict_get (PySem.F.args_dict_get_3 _ _ _) (meets_dict_get_default (strKind X.prog X.w) d (strKind_is X.prog X.w x t) hsy fv) ⟨_,mo,_,H3,I3.tok _,(hf x).getD rz,q3⟩
end
end L2
theorem zU0 {C:List PySem.Value->Prop} (h:C []):∀us:List PySem.Value,us.length=0->C us:=by
 intro us hl;cases us with
 | nil=>exact h
 | cons a t=>exact vd hl (Nat.succ_ne_zero _)
theorem zU1 {C:List PySem.Value->Prop} (h:∀a,C [a]):∀us:List PySem.Value,us.length=1->C us:=by
 intro us hl;cases us with
 | nil=>exact vd hl.symm (Nat.succ_ne_zero _)
 | cons a t=>exact zU0 (C:=fun t=>C (a :: t)) (h a) t (Nat.succ.inj hl)
theorem zU2 {C:List PySem.Value->Prop} (h:∀a b,C [a,b]):∀us:List PySem.Value,us.length=2->C us:=by
 intro us hl;cases us with
 | nil=>exact vd hl.symm (Nat.succ_ne_zero _)
 | cons a t=>exact zU1 (C:=fun t=>C (a :: t)) (h a) t (Nat.succ.inj hl)
theorem zU3 {C:List PySem.Value->Prop} (h:∀a b c,C [a,b,c]):∀us:List PySem.Value,us.length=3->C us:=by
 intro us hl;cases us with
 | nil=>exact vd hl.symm (Nat.succ_ne_zero _)
 | cons a t=>exact zU2 (C:=fun t=>C (a :: t)) (h a) t (Nat.succ.inj hl)
theorem zU4 {C:List PySem.Value->Prop} (h:∀a b c d,C [a,b,c,d]):∀us:List PySem.Value,us.length=4->C us:=by
 intro us hl;cases us with
 | nil=>exact vd hl.symm (Nat.succ_ne_zero _)
 | cons a t=>exact zU3 (C:=fun t=>C (a :: t)) (h a) t (Nat.succ.inj hl)
theorem zU5 {C:List PySem.Value->Prop} (h:∀a b c d e,C [a,b,c,d,e]):∀us:List PySem.Value,us.length=5->C us:=by
 intro us hl;cases us with
 | nil=>exact vd hl.symm (Nat.succ_ne_zero _)
 | cons a t=>exact zU4 (C:=fun t=>C (a :: t)) (h a) t (Nat.succ.inj hl)
local macro_rules | `(tactic| symm) => `(tactic| try dsimp only [L2.cxOf, L2.Cx.nox])
namespace My
open L2
variable {P:Program} {w:World} {K:kE} {mg:Str->Option Value} {base:Heap}
theorem fsM {N P:List Str} {sc:Scope} (a:autoParam (sc.kind=.function) aR._auto_1) (b:autoParam (sc.isCoroutine=false) aR._auto_1) (c:autoParam (sc.isGenerator=false) aR._auto_1) (d:N.Nodup:=by trivial) (e:autoParam (N.take P.length=P) aR._auto_1)
  (f:∀x∈P,sc.names.lookup x=some .local\/sc.names.lookup x=some .cell:=by trivial) (g:∀y∈sc.names,y.2≠.free:=by trivial):zr N P sc:=⟨a,b,c,d,e,f,g⟩
theorem jC {X:Cx} {o e:Expr} {es:List Expr} {to:TE} {t:TA} {apos cpos:Pos} (ho:PE X o to) (ha:PA X (e :: es) t) (hbase:autoParam (attributeBase o "append" X.env (eval o X.env)=eval o X.env) aR._auto_1)
  (hfew:autoParam (((backTo cpos (starEach (e :: es) X.env)).all (fun x=> !x.1)&&(backToKw cpos (keywordEach [] X.env)).all (fun x=>x.1.isSome)&&decide ((e :: es).length+([]:List Keyword).length+(if ([]:List Keyword).isEmpty then 0 else 1) < 30))=true) aR._auto_1)
  (hline:autoParam ((apos.endLine == cpos.line)=true) aR._auto_1) (hs:autoParam (starEach (e :: es) X.env=(false,eval e X.env) :: starEach es X.env) aR._auto_1) (hplain:autoParam ((backTo cpos (starEach es X.env)).any (·.1)=false) aR._auto_1):PE X (.Call (.Attribute o "append" apos) (e :: es) [] cpos) (tBM X.K "list" z1a to t):=z8L PySem.F.plainAttrs_list PySem.F.slot_list_append PySem.F.type_list_append z3v ho ha hbase hfew hline hs hplain
theorem jT {X:Cx} {o:Expr} {to:TE} {apos cpos:Pos} (ho:PE X o to) (hbase:autoParam (attributeBase o "pop" X.env (eval o X.env)=eval o X.env) aR._auto_1) (hline:autoParam ((apos.endLine == cpos.line)=true) aR._auto_1):PE X (.Call (.Attribute o "pop" apos) [] [] cpos) (tBM0 X.K "list" rPop to):=z1M PySem.F.plainAttrs_list PySem.F.slot_list_pop PySem.F.type_list_pop z8Z ho hbase hline
noncomputable def top (i:Nat):Stmt:=PySem.Challenge.pw_codemill_k61_whole_sure_is_set.main.body.getD i (.Pass ⟨0,0,0,0⟩)
def FN (P:Program) (w:World) (K:kE) (mg:Str->Option Value) (base:Heap) (k:Nat) (name:Str) (ps:List Str) (sp:Sp):Prop:=
 ∃f fd,mg name=some (.ref f)/\PySem.W.keepIn K (.ref f)=true/\Zy K fd ps []/\FnOk P w K mg base CX0 k f fd ps sp
def zx (K:kE) (mg:Str->Option Value) (name:Str) (st:Stmt):Prop:=∃f fd,Fun K name name st f fd/\mg name=some (.ref f)
section
theorem FN.mono {j k:Nat} {name:Str} {ps:List Str} {sp:Sp} (F:FN P w K mg base j name ps sp) (h:j<=k):FN P w K mg base k name ps sp:=by
 obtain ⟨f,fd,a,b,c,d⟩:=F;exact ⟨f,fd,a,b,c,d.mono h⟩
theorem FN.imp {k:Nat} {name:Str} {ps:List Str} {sp sp':Sp} (F:FN P w K mg base k name ps sp) (h:∀vs H Q E,sp' vs H Q E->sp vs H Q E):FN P w K mg base k name ps sp':=by
 obtain ⟨f,fd,a,b,c,d⟩:=F;exact ⟨f,fd,a,b,c,d.imp h⟩
theorem FN.of {name:Str} {st:Stmt} {N ps:List Str} {sp:Sp} {k:Nat} (D:zx K mg name st) (S:zr N ps (zh st))
  (hb:∀(kV doc pm:Value) (an:Option Addr) (cdv ct:Value) (us:List Value),us.length=ps.length->bindArgs (PySem.W.fnOf name name (qr st) (zG st) (zh st) .none kV doc pm an cdv ct) ⟨us,[]⟩=pure (ps.zip us))
  (len:∀vs H Q E,sp vs H Q E->vs.length=ps.length)
  (hbody:∀(f:Addr) (cdv:Value) (A:Around) (vY:List Env) (s:Shared) (H:Hp) (vs:List V) (Q:VK) (E:XK),Room k (A.deeper (envOfC name (zh st) s.heap.objs.size f cdv))->sp vs H Q E->
   ∃t,PSs (cxOf CX0 P w K mg base N name (zh st) f cdv A vY s H E).nox (zG st) t/\t { nx:=fun _ H'=>Q .non H',rt:=Q } (jX N vs) H):FN P w K mg base (k+1) name ps sp:=by
 obtain ⟨f,fd,F,m⟩:=D;exact ⟨f,fd,m,F.kp,F.binds hb,F.ok S len (hbody f)⟩
theorem FN.o {name:Str} {st:Stmt} {N ps:List Str} {sp:Sp} {k:Nat} (D:zx K mg name st) (S:zr N ps (zh st))
  (hbody:∀(f:Addr) (cdv:Value) (A:Around) (vY:List Env) (s:Shared) (H:Hp) (vs:List V) (Q:VK) (E:XK),Room k (A.deeper (envOfC name (zh st) s.heap.objs.size f cdv))->sp vs H Q E->
   ∃t,PSs (cxOf CX0 P w K mg base N name (zh st) f cdv A vY s H E).nox (zG st) t/\t { nx:=fun _ H'=>Q .non H',rt:=Q } (jX N vs) H)
  (hb:∀(kV doc pm:Value) (an:Option Addr) (cdv ct:Value) (us:List Value),us.length=ps.length->bindArgs (PySem.W.fnOf name name (qr st) (zG st) (zh st) .none kV doc pm an cdv ct) ⟨us,[]⟩=pure (ps.zip us):=by (first | exact fun _ _ _ _ _ _=>zU1 fun _=>rfl | exact fun _ _ _ _ _ _=>zU2 fun _ _=>rfl | exact fun _ _ _ _ _ _=>zU3 fun _ _ _=>rfl | exact fun _ _ _ _ _ _=>zU4 fun _ _ _ _=>rfl | exact fun _ _ _ _ _ _=>zU5 fun _ _ _ _ _=>rfl))
  (len:∀vs H Q E,sp vs H Q E->vs.length=ps.length:=by (intro vs H Q E h;repeat (first | (obtain ⟨e,_⟩:=h;subst e;rfl) | (obtain ⟨_,h⟩:=h)))):FN P w K mg base (k+1) name ps sp:=FN.of D S hb len hbody
end
section
variable {X:Cx} {k:Nat} {name:Str} {ps:List Str} {sp:Sp} {p pos:Pos} {e:Expr} {es:List Expr} {t:TA}
theorem zw (F:FN X.prog X.w X.K X.mg X.base k name ps sp) (hr:Room k X.A) (hg:Gl X name) (ha:PA X (e :: es) t) (hdb:autoParam ((name == ("__debug__":Str))=false) aR._auto_2)
  (he:autoParam (starEach (e :: es) X.env=(false,eval e X.env) :: starEach es X.env) aR._auto_1) (hpl:autoParam ((backTo pos (starEach es X.env)).any (·.1)=false) aR._auto_1):
  PE X (.Call (.Name name p) (e :: es) [] pos) (z2Q sp [] E0 t):=by
 obtain ⟨f,fd,a,b,c,d⟩:=F;exact z1h d hr hg a b c .nil z0p ha hdb he hpl
end
inductive Scal:V->Prop where
 | non:Scal .non
 | bl (b:Bool):Scal (.bl b)
 | int (i:Int):Scal (.int i)
 | str (s:Str) (h:s.length<=sizeLine):Scal (.str s)
noncomputable def QC:V->Bool
 | .int _=>true
 | _=>false
noncomputable def isB:V->Bool
 | .bl _=>true
 | _=>false
noncomputable def isS:V->Bool
 | .str _=>true
 | _=>false
noncomputable def qX (x:V) (lo hi:Int):Bool:=match x with
 | .int i=>decide (lo<=i)&&decide (i<=hi)
 | _=>false
noncomputable def Zn (x:V) (most:Int):Bool:=match x with
 | .str s=>decide ((1:Int)<=(s.length:Int))&&decide ((s.length:Int)<=most)&&Txt.isascii s&&Txt.isalpha s
 | _=>false
noncomputable def low:V->Bool
 | .str s=>Txt.islower s
 | _=>false
noncomputable def QZ (x:V):Bool:=Zn x 4&&low x
noncomputable def JS (x:V):Bool:=Zn x 8
noncomputable def z4Y (x:V):Bool:=qX x 0 99
noncomputable def Ji (x:V) (most:Int):Bool:=decide (x=.non)||isB x||qX x (-most) most||JS x
noncomputable def Zi (x:V):Bool:=Ji x 1000000000
noncomputable def z04 (x:V):Bool:=qX x 1 9
noncomputable def QI (x:V):Bool:=qX x 2 9
noncomputable def z4W (x:V):Bool:=decide (x=.non)
noncomputable def Qe:List (Str × Str):=[("push","value"),("load","name"),("quick","name"),("store","name"),("clear","name"),("copy","copied"),("swap","swapped"),("jump","mark"),("iftrue","mark"),("iffalse","mark"),("ortrue","mark"),("orfalse","mark"),("try","mark"),("label","mark"),("add","none"),("sub","none"),("mul","none"),("div","none"),("rest","none"),("less","none"),("same","none"),("neg","none"),("not","none"),("drop","none"),("tell","none"),("return","none"),("raise","none"),("endtry","none")]
noncomputable def qg (op:Str):Option Str:=Qe.lookup op
noncomputable def jj (sort:Str) (x:V):Bool:=
 if sort="value" then Zi x else if sort="name" then QZ x else if sort="copied" then z04 x else if sort="swapped" then QI x else if sort="mark" then z4Y x else z4W x
noncomputable def ZS (op:Str) (x:V):Bool:=match qg op with
 | some s=>jj s x
 | none=>false
noncomputable def rowV (op:Str) (arg line:V):Bool:=(qg op).isSome&&ZS op arg&&qX line 0 9999
structure Glo (mg:Str->Option Value):Prop where
 isinstance:mg "isinstance"=none
 int:mg "int"=none
 bool:mg "bool"=none
 str:mg "str"=none
 tuple:mg "tuple"=none
 list:mg "list"=none
 len:mg "len"=none
 range:mg "range"=none
 enumerate:mg "enumerate"=none
 rows:∃u,mg "MOST_ROWS"=some u/\RelV (.int 150) u
 line:∃u,mg "MOST_LINE"=some u/\RelV (.int 9999) u
 mark:∃u,mg "MOST_MARK"=some u/\RelV (.int 99) u
 pushed:∃u,mg "MOST_PUSHED"=some u/\RelV (.int 1000000000) u
 name:∃u,mg "LONGEST_NAME"=some u/\RelV (.int 4) u
 kind:∃u,mg "LONGEST_KIND"=some u/\RelV (.int 8) u
 all:mg "all"=none
 dict:mg "dict"=none
 max:mg "max"=none
 min:mg "min"=none
 abs:mg "abs"=none
 made:∃u,mg "MOST_MADE"=some u/\RelV (.int 1000000000000000000) u
 names:∃u,mg "MOST_NAMES"=some u/\RelV (.int 8) u
theorem zX:bootBuiltins "isinstance"=some (.builtin "isinstance"):=vV
theorem z5M:bootBuiltins "int"=some (.type "int"):=vV
theorem Zr:bootBuiltins "bool"=some (.type "bool"):=vV
theorem z23:bootBuiltins "str"=some (.type "str"):=vV
theorem Qn:bootBuiltins "tuple"=some (.type "tuple"):=vV
theorem Zq:bootBuiltins "list"=some (.type "list"):=vV
theorem qA:bootBuiltins "len"=some (.builtin "len"):=vV
theorem z57 {K:kE} {H:Hp} {x:V} (h:Scal x):∃t,TyOf K H x t/\PySem.W.kitOne K t (.type "int")=some (QC x||isB x):=by
 cases h with
 | non=>exact ⟨_,.non,rfl⟩
 | bl b=>exact ⟨_,.bl b,rfl⟩
 | int i=>exact ⟨_,.int i,rfl⟩
 | str s _=>exact ⟨_,.str s,rfl⟩
theorem Q4 {K:kE} {H:Hp} {x:V} (h:Scal x):∃t,TyOf K H x t/\PySem.W.kitOne K t (.type "bool")=some (isB x):=by
 cases h with
 | non=>exact ⟨_,.non,rfl⟩
 | bl b=>exact ⟨_,.bl b,rfl⟩
 | int i=>exact ⟨_,.int i,rfl⟩
 | str s _=>exact ⟨_,.str s,rfl⟩
theorem z1S {K:kE} {H:Hp} {x:V} (h:Scal x):∃t,TyOf K H x t/\PySem.W.kitOne K t (.type "str")=some (isS x):=by
 cases h with
 | non=>exact ⟨_,.non,rfl⟩
 | bl b=>exact ⟨_,.bl b,rfl⟩
 | int i=>exact ⟨_,.int i,rfl⟩
 | str s _=>exact ⟨_,.str s,rfl⟩
theorem z2u {K:kE} {H:Hp} {x:V} (h:Scal x):∃t,TyOf K H x t/\PySem.W.kitOne K t (.type "tuple")=some false:=by
 cases h with
 | non=>exact ⟨_,.non,rfl⟩
 | bl b=>exact ⟨_,.bl b,rfl⟩
 | int i=>exact ⟨_,.int i,rfl⟩
 | str s _=>exact ⟨_,.str s,rfl⟩
section
variable {X:Cx}
theorem QS (T:String) {x:Str} {pos:Pos} (hg:Gl X x) (hm:X.mg x=none) (hv:bootBuiltins x=some (.type T)) (hn:autoParam (x≠"__name__") aR._auto_2) (hd:autoParam ((x == ("__debug__":Str))=false) aR._auto_2):PE X (.Name x pos) (tC (.ty T)):=z6W hg hm hv rfl hn hd
theorem jJ {x:Str} {v:V} {pos:Pos} (hg:Gl X x) (hm:∃u,X.mg x=some u/\RelV v u) (hd:autoParam ((x == ("__debug__":Str))=false) aR._auto_2):PE X (.Name x pos) (tC v):=by
 obtain ⟨u,h1,h2⟩:=hm;exact qo hg h1 h2 hd
end
section
def sp1 (f:V->Bool):Sp:=fun vs H Q _=>∃x,vs=[x]/\Scal x/\Q (.bl (f x)) H
theorem z9X {f:V->Bool} (vs:List V) (H:Hp) (Q:VK) (E:XK) (h:sp1 f vs H Q E):vs.length=1:=by
 obtain ⟨x,rfl,_⟩:=h;rfl
theorem sc13:zr ["thing"] ["thing"] (zh (top 13)):=fsM
theorem z0G (D:zx K mg "is_number" (top 13)) (G:Glo mg):FN P w K mg base 1 "is_number" Vb (sp1 QC):=by
 refine FN.o D sc13 fun f cdv A vY s H vs Q E hr h=>?_
 obtain ⟨x,rfl,hx,q⟩:=h;refine ⟨_,zi (zu (jU (zH qE rfl G.isinstance zX (z6 (pv 0) (z6 (QS "int" rfl G.int z5M) z7)))
  (Z6 (z6d (zH qE rfl G.isinstance zX (z6 (pv 0) (z6 (QS "bool" rfl G.bool Zr) z7))))))),?_⟩
 symm
 obtain ⟨t1,ty1,k1⟩:=z57 (K:=K) (H:=H) hx;obtain ⟨t2,ty2,k2⟩:=Q4 (K:=K) (H:=H) hx;refine ⟨_,"int",t1,_,rfl,ty1,k1,_,rfl,?_⟩;cases hx with
 | non=>exact q
 | bl b=>exact ⟨_,"bool",t2,_,rfl,ty2,k2,_,rfl,q⟩
 | int i=>exact ⟨_,"bool",t2,_,rfl,ty2,k2,_,rfl,q⟩
 | str s _=>exact q
def Zz:Sp:=fun vs H Q _=>∃x lo hi,vs=[x,.int lo,.int hi]/\Scal x/\Q (.bl (qX x lo hi)) H
theorem sc14:zr ["thing","low","high"] ["thing","low","high"] (zh (top 14)):=fsM
theorem z3M (D:zx K mg "is_number_within" (top 14)) (G:Glo mg) (F1:FN P w K mg base 1 "is_number" Vb (sp1 QC)):FN P w K mg base 2 "is_number_within" ["thing","low","high"] Zz:=by
 refine FN.o D sc14 fun f cdv A vY s H vs Q E hr h=>?_
 obtain ⟨x,lo,hi,rfl,hx,q⟩:=h;refine ⟨_,zi (zu (jU (zw F1 hr rfl (z6 (pv 0) z7)) (Z6 (JJ z2h z2h (pv 1) (pv 0) (pv 2))))),?_⟩
 symm
 refine ⟨x,rfl,hx,_,rfl,?_⟩;cases hx with
 | non=>exact q
 | bl b=>exact q
 | str s _=>exact q
 | int i=>
  refine ⟨_,_,rfl,rfl,_,rfl,?_⟩;have q':Q (.bl (decide (lo<=i)&&decide (i<=hi))) H:=q;refine ite2 (fun c=>?_) (fun c=>?_)
  ·rw [c,Bool.true_and] at q';exact ⟨_,_,rfl,rfl,q'⟩
  ·rw [Bool.eq_false_iff.mpr c,vy] at q';exact q'
def QN:Sp:=fun vs H Q _=>∃x most,vs=[x,.int most]/\Scal x/\Q (.bl (Zn x most)) H
theorem sc15:zr ["thing","most"] ["thing","most"] (zh (top 15)):=fsM
theorem z2A (D:zx K mg "is_letters" (top 15)) (G:Glo mg):FN P w K mg base 1 "is_letters" ["thing","most"] QN:=by
 refine FN.o D sc15 fun f cdv A vY s H vs Q E hr h=>?_
 obtain ⟨x,most,rfl,hx,q⟩:=h;refine ⟨_,zi (zu (jU (zH qE rfl G.isinstance zX (z6 (pv 0) (z6 (QS "str" rfl G.str z23) z7)))
  (jU (JJ z2h z2h zl (zH z0R rfl G.len qA (z6 (pv 0) z7)) (pv 1))
  (jU (z1M F.plainAttrs_str F.slot_str_isascii F.type_str_isascii z2j (pv 0))
  (Z6 (z1M F.plainAttrs_str F.slot_str_isalpha F.type_str_isalpha z2k (pv 0))))))),?_⟩
 symm
 obtain ⟨t1,ty1,k1⟩:=z1S (K:=K) (H:=H) hx;refine ⟨_,"str",t1,_,rfl,ty1,k1,_,rfl,?_⟩;cases hx with
 | non=>exact q
 | bl b=>exact q
 | int i=>exact q
 | str z hz=>
  have q':Q (.bl (decide ((1:Int)<=(z.length:Int))&&decide ((z.length:Int)<=most)&&Txt.isascii z&&Txt.isalpha z)) H:=q;refine ⟨z,rfl,hz,_,_,rfl,rfl,_,rfl,?_⟩;refine ite2 (fun c=>?_) (fun c=>?_)
  ·rw [c,Bool.true_and] at q';refine ⟨_,_,rfl,rfl,_,rfl,?_⟩;refine ite2 (fun c=>?_) (fun c=>?_)
   ·rw [c,Bool.true_and] at q';refine ⟨rfl,z,rfl,rfl,_,rfl,?_⟩;refine ite2 (fun c=>?_) (fun c=>?_)
    ·rw [c,Bool.true_and] at q';exact ⟨rfl,z,rfl,rfl,q'⟩
    ·rw [Bool.eq_false_iff.mpr c,vy] at q';exact q'
   ·rw [Bool.eq_false_iff.mpr c,vy,vy] at q';exact q'
  ·rw [Bool.eq_false_iff.mpr c,vy,vy,vy] at q';exact ⟨_,rfl,q'⟩
theorem sc16:zr ["thing"] ["thing"] (zh (top 16)):=fsM
theorem z7y (D:zx K mg "is_name" (top 16)) (G:Glo mg) (F1:FN P w K mg base 1 "is_letters" ["thing","most"] QN):FN P w K mg base 2 "is_name" Vb (sp1 QZ):=by
 refine FN.o D sc16 fun f cdv A vY s H vs Q E hr h=>?_
 obtain ⟨x,rfl,hx,q⟩:=h;refine ⟨_,zi (zu (jU (zw F1 hr rfl (z6 (pv 0) (z6 (jJ rfl G.name) z7)))
  (Z6 (z1M F.plainAttrs_str F.slot_str_islower F.type_str_islower z2i (pv 0))))),?_⟩
 symm
 refine ⟨x,4,rfl,hx,_,rfl,?_⟩;have q':Q (.bl (Zn x 4&&low x)) H:=q;refine ite2 (fun c=>?_) (fun c=>?_)
 ·rw [c,Bool.true_and] at q';cases hx with
  | non=>cases c
  | bl b=>cases c
  | int i=>cases c
  | str z hz=>exact ⟨rfl,z,rfl,rfl,q'⟩
 ·rw [Bool.eq_false_iff.mpr c,vy] at q';exact q'
theorem sc17:zr ["thing"] ["thing"] (zh (top 17)):=fsM
theorem z7C (D:zx K mg "is_kind" (top 17)) (G:Glo mg) (F1:FN P w K mg base 1 "is_letters" ["thing","most"] QN):FN P w K mg base 2 "is_kind" Vb (sp1 JS):=by
 refine FN.o D sc17 fun f cdv A vY s H vs Q E hr h=>?_
 obtain ⟨x,rfl,hx,q⟩:=h;refine ⟨_,zi (zu (zw F1 hr rfl (z6 (pv 0) (z6 (jJ rfl G.kind) z7)))),?_⟩
 symm
 exact ⟨x,8,rfl,hx,q⟩
theorem sc18:zr ["thing"] ["thing"] (zh (top 18)):=fsM
theorem z7z (D:zx K mg "is_mark" (top 18)) (G:Glo mg) (F1:FN P w K mg base 2 "is_number_within" ["thing","low","high"] Zz):FN P w K mg base 3 "is_mark" Vb (sp1 z4Y):=by
 refine FN.o D sc18 fun f cdv A vY s H vs Q E hr h=>?_
 obtain ⟨x,rfl,hx,q⟩:=h;refine ⟨_,zi (zu (zw F1 hr rfl (z6 (pv 0) (z6 zl (z6 (jJ rfl G.mark) z7))))),?_⟩
 symm
 exact ⟨x,0,99,rfl,hx,q⟩
def z13:Sp:=fun vs H Q _=>∃x most,vs=[x,.int most]/\Scal x/\Q (.bl (Ji x most)) H
theorem sc19:zr ["thing","most"] ["thing","most"] (zh (top 19)):=fsM
theorem z5g (D:zx K mg "is_value_within" (top 19)) (G:Glo mg) (F1:FN P w K mg base 2 "is_number_within" ["thing","low","high"] Zz) (F2:FN P w K mg base 2 "is_kind" Vb (sp1 JS)):FN P w K mg base 3 "is_value_within" ["thing","most"] z13:=by
 refine FN.o D sc19 fun f cdv A vY s H vs Q E hr h=>?_
 obtain ⟨x,most,rfl,hx,q⟩:=h;refine ⟨_,z8 (zY (PW.pt (QA (zt Z7 (pv 0) qk (zA _)) (Z5 (j8 (zH qE rfl G.isinstance zX (z6 (pv 0) (z6 (QS "bool" rfl G.bool Zr) z7))))))) (zi (zu QT)) zE)
  (zi (zu (z8J (zw F1 hr rfl (z6 (pv 0) (z6 (ZL jy (pv 1)) (z6 (pv 1) z7)))) (Z6 (zw F2 hr rfl (z6 (pv 0) z7)))))),?_⟩
 symm
 refine ⟨rfl,_,rfl,?_⟩;have q':Q (.bl (decide (x=.non)||isB x||qX x (-most) most||JS x)) H:=q;refine ite2 (fun c=>?_) (fun c=>?_)
 ·rw [c,Bool.true_or,Bool.true_or,Bool.true_or] at q';exact iteT q'
 ·rw [Bool.eq_false_iff.mpr c,Bool.false_or] at q';obtain ⟨t2,ty2,k2⟩:=Q4 (K:=K) (H:=H) hx;refine ⟨_,"bool",t2,_,rfl,ty2,k2,_,rfl,?_⟩;refine ite2 (fun c=>?_) (fun c=>?_)
  ·rw [c,Bool.true_or,Bool.true_or] at q';exact q'
  ·rw [Bool.eq_false_iff.mpr c,Bool.false_or] at q';refine ⟨most,rfl,x,-most,most,rfl,hx,_,rfl,?_⟩;refine ite2 (fun c=>?_) (fun c=>?_)
   ·rw [c,Bool.true_or] at q';exact q'
   ·rw [Bool.eq_false_iff.mpr c,Bool.false_or] at q';exact ⟨x,rfl,hx,q'⟩
theorem sc20:zr ["thing"] ["thing"] (zh (top 20)):=fsM
theorem z3P (D:zx K mg "is_pushed" (top 20)) (G:Glo mg) (F1:FN P w K mg base 3 "is_value_within" ["thing","most"] z13):FN P w K mg base 4 "is_pushed" Vb (sp1 Zi):=by
 refine FN.o D sc20 fun f cdv A vY s H vs Q E hr h=>?_
 obtain ⟨x,rfl,hx,q⟩:=h;refine ⟨_,zi (zu (zw F1 hr rfl (z6 (pv 0) (z6 (jJ rfl G.pushed) z7)))),?_⟩
 symm
 exact ⟨x,1000000000,rfl,hx,q⟩
theorem sc21:zr ["thing"] ["thing"] (zh (top 21)):=fsM
theorem z3Q (D:zx K mg "is_copied" (top 21)) (F1:FN P w K mg base 2 "is_number_within" ["thing","low","high"] Zz):FN P w K mg base 3 "is_copied" Vb (sp1 z04):=by
 refine FN.o D sc21 fun f cdv A vY s H vs Q E hr h=>?_
 obtain ⟨x,rfl,hx,q⟩:=h;refine ⟨_,zi (zu (zw F1 hr rfl (z6 (pv 0) (z6 zl (z6 zl z7))))),?_⟩
 symm
 exact ⟨x,1,9,rfl,hx,q⟩
theorem sc22:zr ["thing"] ["thing"] (zh (top 22)):=fsM
theorem z2z (D:zx K mg "is_swapped_with" (top 22)) (F1:FN P w K mg base 2 "is_number_within" ["thing","low","high"] Zz):FN P w K mg base 3 "is_swapped_with" Vb (sp1 QI):=by
 refine FN.o D sc22 fun f cdv A vY s H vs Q E hr h=>?_
 obtain ⟨x,rfl,hx,q⟩:=h;refine ⟨_,zi (zu (zw F1 hr rfl (z6 (pv 0) (z6 zl (z6 zl z7))))),?_⟩
 symm
 exact ⟨x,2,9,rfl,hx,q⟩
theorem sc23:zr ["thing"] ["thing"] (zh (top 23)):=fsM
theorem z7w (D:zx K mg "is_none" (top 23)):FN P w K mg base 1 "is_none" Vb (sp1 z4W):=by
 refine FN.o D sc23 fun f cdv A vY s H vs Q E hr h=>?_
 obtain ⟨x,rfl,hx,q⟩:=h;refine ⟨_,zi (zu (qT Z7 (pv 0) qk (zA _))),?_⟩
 symm
 exact ⟨rfl,q⟩
theorem Qj {α β:Type} (f:α->β) (x:Str):∀l:List (Str × α),(l.map fun p=>(p.1,f p.2)).lookup x=(l.lookup x).map f
 | []=>rfl
 | (k,v) :: r=>by
  rw [yb,List.lookup_cons,List.lookup_cons];cases x == k with
  | true=>rfl
  | false=>exact Qj f x r
noncomputable def z35:List (Str × V):=Qe.map fun p=>(p.1,V.str p.2)
theorem QO (x:Str):z35.lookup x=(qg x).map V.str:=Qj _ _ _
structure Tabs (w:World) (K:kE) (mg:Str->Option Value):Prop where
 sorts:∃d,mg "ARG_SORTS"=some (.ref d)/\KTab w.params K d z35
 tests:∃d f1 f2 f3 f4 f5 f6,mg "ARG_TESTS"=some (.ref d)/\KTab w.params K d [("value",.ref f1),("name",.ref f2),("copied",.ref f3),("swapped",.ref f4),("mark",.ref f5),("none",.ref f6)]/\
  mg "is_pushed"=some (.ref f1)/\mg "is_name"=some (.ref f2)/\mg "is_copied"=some (.ref f3)/\mg "is_swapped_with"=some (.ref f4)/\mg "is_mark"=some (.ref f5)/\mg "is_none"=some (.ref f6)
noncomputable def isOp:V->Bool
 | .str s=>(qg s).isSome
 | _=>false
theorem sc25:zr ["thing"] ["thing"] (zh (top 25)):=fsM
theorem zar (D:zx K mg "is_op" (top 25)) (G:Glo mg) (T:Tabs w K mg):FN P w K mg base 1 "is_op" Vb (sp1 isOp):=by
 refine FN.o D sc25 fun f cdv A vY s H vs Q E hr h=>?_
 obtain ⟨x,rfl,hx,q⟩:=h;obtain ⟨d,md,td⟩:=T.sorts;refine ⟨_,zi (zu (jU (zH qE rfl G.isinstance zX (z6 (pv 0) (z6 (QS "str" rfl G.str z23) z7))) (Z6 (z6e (z8M td rfl md (pv 0)))))),?_⟩
 symm
 obtain ⟨t1,ty1,k1⟩:=z1S (K:=K) (H:=H) hx;refine ⟨_,"str",t1,_,rfl,ty1,k1,_,rfl,?_⟩;cases hx with
 | non=>exact q
 | bl b=>exact q
 | int i=>exact q
 | str z hz=>
  refine ⟨z,rfl,?_⟩;have q':Q (.bl (qg z).isSome) H:=q;rw [QO,Option.isSome_map];exact q'
def z2W:Sp:=fun vs H Q _=>∃op s,vs=[.str op]/\qg op=some s/\Q (.str s) H
theorem sc26:zr ["op"] ["op"] (zh (top 26)):=fsM
theorem z7m (D:zx K mg "arg_sort" (top 26)) (T:Tabs w K mg):FN P w K mg base 1 "arg_sort" ["op"] z2W:=by
 refine FN.o D sc26 fun f cdv A vY s H vs Q E hr h=>?_
 obtain ⟨op,so,rfl,hs,q⟩:=h;obtain ⟨d,md,td⟩:=T.sorts;refine ⟨_,zi (zu (JI td rfl md (pv 0) (fun _ _=>rfl))),?_⟩
 symm
 exact ⟨op,.str so,rfl,by rw [QO,hs];rfl,q⟩
def z65:Sp:=fun vs H Q _=>∃op s x,vs=[.str op,x]/\qg op=some s/\Scal x/\Q (.bl (jj s x)) H
theorem sc27:zr ["op","arg","fits"] ["op","arg"] (zh (top 27)):=fsM
theorem z6H {op s:Str} (h:qg op=some s):s="value"\/s="name"\/s="copied"\/s="swapped"\/s="mark"\/s="none":=by
 have hm:(op,s)∈Qe:=vc h;have all:∀p∈Qe,p.2="value"\/p.2="name"\/p.2="copied"\/p.2="swapped"\/p.2="mark"\/p.2="none":=vV;exact all _ hm
theorem z7F (D:zx K mg "arg_fits" (top 27)) (T:Tabs w K mg) (F1:FN P w K mg base 1 "arg_sort" ["op"] z2W) (A1:FN P w K mg base 4 "is_pushed" Vb (sp1 Zi)) (A2:FN P w K mg base 2 "is_name" Vb (sp1 QZ))
  (A3:FN P w K mg base 3 "is_copied" Vb (sp1 z04)) (A4:FN P w K mg base 3 "is_swapped_with" Vb (sp1 QI)) (A5:FN P w K mg base 3 "is_mark" Vb (sp1 z4Y)) (A6:FN P w K mg base 1 "is_none" Vb (sp1 z4W)):
  FN P w K mg base 5 "arg_fits" ["op","arg"] z65:=by
 refine FN.o D sc27 fun f cdv A vY s H vs Q E hr h=>?_
 obtain ⟨op,so,x,rfl,hs,hx,q⟩:=h;obtain ⟨d,f1,f2,f3,f4,f5,f6,md,td,m1,m2,m3,m4,m5,m6⟩:=T.tests;have hr1:=hr.mono (vV:1<=4);refine ⟨_,z8 (zK (i:=2) sc27.nd rfl (Or.inl rfl) (JI td rfl md (zw F1 hr1 rfl (z6 (pv 0) z7)) (fun _ _=>rfl))) (zi (zu (JK (pv 2) (z6 (pv 1) z7)))),?_⟩
 symm
 refine ⟨op,so,rfl,hs,so,?_⟩;rcases z6H hs with e | e | e | e | e | e
 ·subst e;obtain ⟨g,gd,mg1,kp,bd,ok⟩:=A1;cases (kH (m1.symm.trans mg1));exact ⟨.ref f1,rfl,by rfl,f1,gd,_,_,4,rfl,kp,ok,hr,bd,x,rfl,hx,q⟩
 ·subst e;obtain ⟨g,gd,mg1,kp,bd,ok⟩:=A2;cases (kH (m2.symm.trans mg1));exact ⟨.ref f2,rfl,by rfl,f2,gd,_,_,2,rfl,kp,ok,hr.mono (by decide),bd,x,rfl,hx,q⟩
 ·subst e;obtain ⟨g,gd,mg1,kp,bd,ok⟩:=A3;cases (kH (m3.symm.trans mg1));exact ⟨.ref f3,rfl,by rfl,f3,gd,_,_,3,rfl,kp,ok,hr.mono (by decide),bd,x,rfl,hx,q⟩
 ·subst e;obtain ⟨g,gd,mg1,kp,bd,ok⟩:=A4;cases (kH (m4.symm.trans mg1));exact ⟨.ref f4,rfl,by rfl,f4,gd,_,_,3,rfl,kp,ok,hr.mono (by decide),bd,x,rfl,hx,q⟩
 ·subst e;obtain ⟨g,gd,mg1,kp,bd,ok⟩:=A5;cases (kH (m5.symm.trans mg1));exact ⟨.ref f5,rfl,by rfl,f5,gd,_,_,3,rfl,kp,ok,hr.mono (by decide),bd,x,rfl,hx,q⟩
 ·subst e;obtain ⟨g,gd,mg1,kp,bd,ok⟩:=A6;cases (kH (m6.symm.trans mg1));exact ⟨.ref f6,rfl,by rfl,f6,gd,_,_,1,rfl,kp,ok,hr.mono (by decide),bd,x,rfl,hx,q⟩
def z6E:Sp:=fun vs H Q _=>(vs=[.non]/\Q (.bl false) H)\/∃a op arg line,vs=[.ref a]/\H a=some (.tup [.str op,arg,line])/\op.length<=sizeLine/\Scal arg/\Scal line/\Q (.bl (rowV op arg line)) H
theorem sc28:zr ["thing","op","arg","line"] ["thing"] (zh (top 28)):=fsM
theorem z9g (D:zx K mg "is_row" (top 28)) (G:Glo mg) (F1:FN P w K mg base 1 "is_op" Vb (sp1 isOp)) (F2:FN P w K mg base 5 "arg_fits" ["op","arg"] z65) (F3:FN P w K mg base 2 "is_number_within" ["thing","low","high"] Zz):
  FN P w K mg base 6 "is_row" Vb z6E:=by
 refine FN.of D sc28 (fun _ _ _ _ _ _=>zU1 fun _=>rfl) (fun vs H Q E h=>by rcases h with ⟨rfl,_⟩ | ⟨a,op,arg,line,rfl,_⟩ <;> rfl) (fun f cdv A vY s H vs Q E hr h=>?_);refine ⟨_,z8 (zY (PW.pt (QA (jS (j8 (zH qE rfl G.isinstance zX (z6 (pv 0) (z6 (QS "tuple" rfl G.tuple Qn) z7)))))
   (Z5 (zt z4S (zH zW rfl G.len qA (z6 (pv 0) z7)) zl (zA _))))) (zi (zu QT)) zE)
  (z8 (jq (pv 0) (jr rfl (zD (zC (i:=1) sc28.nd rfl (Or.inl rfl)) (zD (zC (i:=2) sc28.nd rfl (Or.inl rfl)) (zD (zC (i:=3) sc28.nd rfl (Or.inl rfl)) qC)))))
  (zi (zu (jU (zw F1 (hr.mono (by decide)) rfl (z6 (pv 1) z7)) (jU (zw F2 hr rfl (z6 (pv 1) (z6 (pv 2) z7))) (Z6 (zw F3 (hr.mono (by decide)) rfl (z6 (pv 3) (z6 zl (z6 (jJ rfl G.line) z7)))))))))),?_⟩
 symm
 rcases h with ⟨rfl,q⟩ | ⟨a,op,arg,line,rfl,ha,hop,harg,hline,q⟩
 ·obtain ⟨t1,ty1,k1⟩:=z2u (K:=K) (H:=H) .non;exact ⟨_,"tuple",t1,_,rfl,ty1,k1,_,rfl,iteT (iteT q)⟩
 ·refine ⟨_,"tuple",_,true,rfl,.tup ha,rfl,_,rfl,iteF ?_⟩;refine ⟨a,_,rfl,.inr (SqT.of ha),rfl,_,rfl,iteF ?_⟩;refine ⟨a,_,rfl,SqT.of ha,rfl,_,_,rfl,_,_,rfl,_,_,rfl,rfl,?_⟩;refine ⟨_,rfl,.str op hop,_,rfl,?_⟩;have q':Q (.bl ((qg op).isSome&&ZS op arg&&qX line 0 9999)) H:=q;cases hs:qg op with
  | none=>
   have e:isOp (.str op)=false:=by show (qg op).isSome=false;rw [hs];rfl
   rw [e];rw [hs] at q';exact iteF q'
  | some so=>
   have e:isOp (.str op)=true:=by show (qg op).isSome=true;rw [hs];rfl
   have ea:ZS op arg=jj so arg:=by unfold ZS;rw [hs]
   rw [e];rw [hs,ea] at q';refine iteT ⟨op,so,arg,rfl,hs,harg,_,rfl,?_⟩;refine ite2 (fun c=>?_) (fun c=>?_)
   ·rw [c] at q';exact ⟨line,0,9999,rfl,hline,q'⟩
   ·rw [Bool.eq_false_iff.mpr c] at q';exact q'
end
structure Row where
 op:Str
 arg:V
 line:Int
noncomputable def tupV (r:Row):List V:=[.str r.op,r.arg,.int r.line]
abbrev q0 (H:Hp):List Addr->List Row->Prop:=Paired fun a r=>H a=some (.tup (tupV r))
def Z3 (r:Row):Prop:=rowV r.op r.arg (.int r.line)=true
theorem z1I {α β:Type} {F:α->β->Prop} {xs ys:List α} {us vs:List β} (h:Paired F xs us) (k:Paired F ys vs):Paired F (xs++ys) (us++vs):=by
 induction h with
 | nil=>exact k
 | cons r _ ih=>exact .cons r ih
theorem z3c {β:Type} {F:Addr->β->Prop} {as:List Addr} {rs:List β} (h:Paired F as rs):∀{i:Nat} {x:V},(as.map V.ref)[i]?=some x->∃a r,x=.ref a/\rs[i]?=some r/\F a r:=by
 induction h with
 | nil=>intro i x e;simp at e
 | cons r t ih=>
  intro i x e;cases i with
  | zero=>simp at e;subst e;exact ⟨_,_,rfl,rfl,r⟩
  | succ i=>
   obtain ⟨a,r,h1,h2,h3⟩:=ih (i:=i) (x:=x) (by simpa using e);exact ⟨a,r,h1,by simpa using h2,h3⟩
theorem z8G {α β:Type} {F:α->β->Prop} {as:List α} {rs:List β} (h:Paired F as rs):∀{i:Nat} {r:β},rs[i]?=some r->∃a,as[i]?=some a/\F a r:=by
 induction h with
 | nil=>intro i x e;simp at e
 | cons r t ih=>
  intro i x e;cases i with
  | zero=>simp at e;subst e;exact ⟨_,rfl,r⟩
  | succ i=>
   obtain ⟨a,h2,h3⟩:=ih (i:=i) (by simpa using e);exact ⟨a,by simpa using h2,h3⟩
theorem q0.keep {H H':Hp} {as:List Addr} {rs:List Row} (h:q0 H as rs) (k:∀a xs,H a=some (.tup xs)->H' a=some (.tup xs)):q0 H' as rs:=Paired.mapP h fun _ _ e=>k _ _ e
theorem q0.same {H H':Hp} {as:List Addr} {rs:List Row} (h:q0 H as rs) (s:Same H H'):q0 H' as rs:=h.keep fun _ _ e=>s _ _ e
theorem q0.get {H:Hp} {as:List Addr} {rs:List Row} {i:Nat} {x:V} (h:q0 H as rs) (e:(as.map V.ref)[i]?=some x):∃a r,x=.ref a/\rs[i]?=some r/\H a=some (.tup (tupV r)):=z3c h e
theorem q0.append {H:Hp} {as bs:List Addr} {rs ts:List Row} (h:q0 H as rs) (k:q0 H bs ts):q0 H (as++bs) (rs++ts):=z1I h k
theorem q0.len {H:Hp} {as:List Addr} {rs:List Row} (h:q0 H as rs):as.length=rs.length:=Paired.length h
theorem zo {H:Hp} {p:Addr} (h:H p=none) (o:HO):Same H (upd H p o):=fun b u q=>by rw [zj (ze q h)];exact q
theorem Same.upd {H H2:Hp} {p:Addr} (s:Same H H2) (h:H p=none) (o:HO):Same H (upd H2 p o):=fun b u q=>by rw [zj (ze q h)];exact s b u q
theorem z4P {op s:Str} (h:qg op=some s):op.length<=7:=by
 have hm:(op,s)∈Qe:=vc h;have all:∀p∈Qe,p.1.length<=7:=vV;exact all _ hm
theorem z1C {n:Nat} (h:n<=1000):n<=sizeLine:=Nat.le_of_lt (qL h)
theorem Qv {x:V} {m:Int} (h:Zn x m=true) (hm:m<=100):Scal x:=by
 cases x with
 | str s=>
  have h:(decide ((1:Int)<=(s.length:Int))&&decide ((s.length:Int)<=m)&&Txt.isascii s&&Txt.isalpha s)=true:=h;simp only [yj,yk] at h;exact .str s (z1C (by lia))
 | _=>cases h
theorem qQ {x:V} {lo hi:Int} (h:qX x lo hi=true):∃i,x=.int i/\lo<=i/\i<=hi:=by
 cases x with
 | int i=>
  have h:(decide (lo<=i)&&decide (i<=hi))=true:=h;simp only [yj,yk] at h;exact ⟨i,rfl,h.1,h.2⟩
 | _=>cases h
theorem z3S {s:Str} {x:V} (h:jj s x=true):Scal x:=by
 unfold jj at h;split at h
 ·unfold Zi Ji at h;simp only [Bool.or_eq_true,yk] at h;rcases h with ((h | h) | h) | h
  ·subst h;exact .non
  ·cases x with
   | bl b=>exact .bl b
   | _=>cases h
  ·obtain ⟨i,rfl,_⟩:=qQ h;exact .int i
  ·exact Qv h (by decide)
 ·split at h
  ·unfold QZ at h;simp only [yj] at h;exact Qv h.1 (by decide)
  ·split at h
   ·obtain ⟨i,rfl,_⟩:=qQ h;exact .int i
   ·split at h
    ·obtain ⟨i,rfl,_⟩:=qQ h;exact .int i
    ·split at h
     ·obtain ⟨i,rfl,_⟩:=qQ h;exact .int i
     ·unfold z4W at h;simp only [yk] at h;subst h;exact .non
theorem Z3.parts {r:Row} (h:Z3 r):∃s,qg r.op=some s/\jj s r.arg=true/\0<=r.line/\r.line<=9999/\r.op.length<=sizeLine/\Scal r.arg:=by
 unfold Z3 rowV at h;simp only [yj] at h;obtain ⟨⟨h1,h2⟩,h3⟩:=h;obtain ⟨s,hs⟩:=Option.isSome_iff_exists.mp h1;have h2':jj s r.arg=true:=by unfold ZS at h2;rw [hs] at h2;exact h2
 obtain ⟨i,e,l1,l2⟩:=qQ h3;cases e;exact ⟨s,hs,h2',l1,l2,z1C (kD (z4P hs) (by decide)),z3S h2'⟩
theorem Q1 {x:V} (h:jj "mark" x=true):∃m:Int,x=.int m/\0<=m/\m<=99:=by
 have e:jj "mark" x=z4Y x:=by
  unfold jj;rw [kF vV,kF vV,kF vV,kF vV,kG rfl]
 rw [e] at h;exact qQ h
noncomputable def labP (m:Int) (r:Row):Bool:=decide (r.op="label")&&decide (r.arg=.int m)
noncomputable def zM (rs:List Row) (m:Int):Option Nat:=rs.findIdx? (labP m)
noncomputable def jW (rs:List Row) (i:Nat) (r:Row):Bool:=
 if r.op="label" then (match r.arg with | .int m=>decide (zM rs m=some i) | _=>false)
 else if qg r.op=some ("mark":Str) then (match r.arg with | .int m=>(zM rs m).isSome | _=>false) else true
def Qo (kvs:List (Key × V)) (rs:List Row):Prop:=∀m:Int,valV kvs (Sum.inl m:Key)=Option.map (fun i:Nat=>V.int (i:Int)) (zM rs m)
section
def z0j (K:kE):Sp:=fun vs H Q _=>∃l as rs,vs=[.ref l]/\SqL K H l (as.map V.ref)/\q0 H as rs/\(∀r∈rs,Z3 r)/\rs.length<=1000/\
 ∀d kvs H',H d=none->Same H H'->H' d=some (.dK kvs)->Qo kvs rs->Q (.ref d) H'
theorem sc29:zr ["rows","places","place","row"] ["rows"] (zh (top 29)):=fsM
theorem j3 {α:Type} {l:List α} {i:Nat} {x:α} (h:l[i]?=some x):l.take (i+1)=l.take i++[x]:=by
 rw [List.take_add_one,h];rfl
theorem JQ {rs:List Row} {i:Nat} {r:Row} (h:rs[i]?=some r) (m:Int):zM (rs.take (i+1)) m=(zM (rs.take i) m).or (if labP m r=true then some i else none):=by
 have hl:(rs.take i).length=i:=by
  rw [vp];have:=(kj.mp h).1
  lia
 unfold zM;rw [j3 h,List.findIdx?_append,hl];congr 1
 rw [List.findIdx?_cons];by_cases c:labP m r=true
 ·rw [kG c,kG c];simp
 ·rw [kF c,kF c];simp
theorem z7B (D:zx K mg "label_places" (top 29)) (G:Glo mg) (FR:FN P w K mg base 6 "is_row" Vb z6E):FN P w K mg base 7 "label_places" ["rows"] (z0j K):=by
 refine FN.o D sc29 fun f cdv A vY s H vs Q E hr h=>?_
 obtain ⟨l,as,rs,rfl,hS,hR,hok,hlen,q⟩:=h;refine ⟨_,z8 (zK (i:=1) sc29.nd rfl (Or.inl rfl) z1J)
  (z8 (jI vn rfl (z3j rfl G.enumerate (z6 (pv 0) z7)) (jr rfl (zD (zC (i:=2) sc29.nd rfl (Or.inl rfl)) (zD (zC (i:=3) sc29.nd rfl (Or.inl rfl)) qC)))
   (zi (zY (PW.pt (QP (j8 (zw FR hr rfl (z6 (pv 3) z7))) (ZK (zt qM (zZ qN (pv 3) zl (fun _ _=>rfl)) zq (zA _)))))
    (zi (zp (z3k (pv 1) (zZ qN (pv 3) zl (fun _ _=>rfl)) (pv 2) ⟨rfl,rfl,rfl,rfl⟩))) zE)))
  (zi (zu (pv 1)))),?_⟩
 symm
 intro d hd;have hll:as.length=rs.length:=hR.len;have hml:(as.map V.ref).length=rs.length:=by rw [kq];exact hll
 refine ⟨l,rfl,⟨_,(zo hd _).seq hS⟩,z1V (K:=K) (a:=l) (xs:=as.map V.ref) (fun i σ H2=>∃kvs v2 v3,σ=[some (.ref l),some (.ref d),v2,v3]/\Same H H2/\H2 d=some (.dK kvs)/\kvs.length<=i/\Qo kvs (rs.take i))
  ⟨[],none,none,rfl,zo hd _,zc,ki _,fun m=>by rw [List.take_zero];rfl⟩ (fun i σ H2 _ zz=>by obtain ⟨_,_,_,_,s2,_⟩:=zz;exact s2.seq hS) ?_ ?_⟩
 ·rintro i x σ H2 p hi ⟨kvs,v2,v3,rfl,s2,hD,hk,hL⟩ hp;obtain ⟨a,r,rfl,hr1,ha⟩:=(hR.same s2).get hi;have hil:i < rs.length:=(kj.mp hr1).1;have npd:d≠p:=ze hD hp;have nap:a≠p:=ze ha hp;have ha':(upd H2 p (.tup [.int i,.ref a])) a=some (.tup (tupV r)):=by rw [zj nap];exact ha
  have s3:Same H (upd H2 p (.tup [.int i,.ref a])):=fun b o e=>by rw [zj (ze (s2 b o e) hp)];exact s2 b o e
  obtain ⟨so,hs,hfit,hl0,hl1,hop,hsc⟩:=(hok r (kM hr1)).parts;have hrow:rowV r.op r.arg (.int r.line)=true:=hok r (kM hr1);refine ⟨p,_,rfl,SqT.of zc,rfl,_,_,rfl,_,_,rfl,rfl,?_⟩;refine (.inr ⟨a,r.op,r.arg,.int r.line,rfl,ha',hop,hsc,.int _,_,rfl,?_⟩);rw [hrow];refine iteT ⟨a,_,_,_,rfl,rfl,SqT.of ha',zy (j:=0) rfl,rfl,_,rfl,?_⟩;have hD':(upd H2 p (.tup [.int i,.ref a])) d=some (.dK kvs):=by rw [zj npd];exact hD
  refine ite2 (fun c=>?_) (fun c=>?_)
  ·have eop:r.op="label":=by
    have:=kI c
    injection this
   have esort:so="mark":=by
    rw [eop] at hs;have:qg "label"=some "mark":=vV
    rw [this] at hs;exact (kH hs).symm
   rw [esort] at hfit;obtain ⟨m,em,_,_⟩:=Q1 hfit;refine ⟨d,rfl,.inl ⟨kvs,.inl hD'⟩,a,_,_,_,rfl,rfl,SqT.of ha',zy (j:=1) rfl,kvs,Sum.inl m,hD',em,qL (by lia),?_⟩;have eP:labP m r=true:=by unfold labP;rw [eop,em];simp
   cases hv:valV kvs (Sum.inl m:Key) with
   | some v=>
    refine ⟨kvs,_,_,rfl,s3,hD',by lia,fun m'=>?_⟩;rw [JQ hr1 m',hL m'];by_cases e:m'=m
    ·subst e;have:=hL m'
     rw [hv] at this;cases h1:zM (rs.take i) m' with
     | none=>rw [h1] at this;cases this
     | some j=>rfl
    ·have:labP m' r=false:=by
      unfold labP;rw [em];have:¬(V.int m=V.int m'):=fun z=>e (by injection z with z;exact z.symm)
      simp [this]
     rw [this];simp
   | none=>
    refine ⟨putK kvs (Sum.inl m) (.int i),_,_,rfl,fun b o e=>?_,zc,?_,fun m'=>?_⟩
    ·rw [zj (ze e hd)];exact s3 b o e
    ·have:=j9 kvs (Sum.inl m:Key) (V.int i)
     lia
    ·rw [QG,JQ hr1 m'];by_cases e:m'=m
     ·subst e;have:=hL m'
      rw [hv] at this;rw [kG rfl,eP,kG rfl];cases h1:zM (rs.take i) m' with
      | none=>rfl
      | some j=>rw [h1] at this;cases this
     ·have:labP m' r=false:=by
       unfold labP;rw [em];have:¬(V.int m=V.int m'):=fun z=>e (by injection z with z;exact z.symm)
       simp [this]
      rw [this,kF (fun z=>e (by injection z)),hL m'];simp
  ·refine ⟨kvs,_,_,rfl,s3,hD',by lia,fun m'=>?_⟩;rw [JQ hr1 m',hL m'];have:labP m' r=false:=by
    unfold labP;have:¬(r.op="label"):=fun z=>c (by rw [z];rfl)
    simp [this]
   rw [this];simp
 ·rintro σ H2 ⟨kvs,v2,v3,rfl,s2,hD,hk,hL⟩;refine (q d kvs H2 hd s2 hD ?_);rw [hml,vz] at hL;exact hL
end
section
def z62:Sp:=fun vs H Q _=>∃a i d r kvs rs,vs=[.ref a,.int (i:Nat),.ref d]/\H a=some (.tup (tupV r))/\Z3 r/\H d=some (.dK kvs)/\Qo kvs rs/\(∀m:Int,r.op="label"->r.arg=.int m->(zM rs m).isSome=true)/\Q (.bl (jW rs i r)) H
theorem sc30:zr ["row","place","labels","op","mark"] ["row","place","labels"] (zh (top 30)):=fsM
theorem ZC:qg "label"=some "mark":=vV
theorem z0F (D:zx K mg "mark_fits" (top 30)) (FS:FN P w K mg base 1 "arg_sort" ["op"] z2W):FN P w K mg base 2 "mark_fits" ["row","place","labels"] z62:=by
 refine FN.o D sc30 fun f cdv A vY s H vs Q E hr h=>?_
 obtain ⟨a,i,d,r,kvs,rs,rfl,ha,hok,hd,hL,hlab,q⟩:=h;have hu:=Ql hr;obtain ⟨so,hs,hfit,hl0,hl1,hop,hsc⟩:=hok.parts;refine ⟨_,z8 (Qr (i:=3) (j:=4) rfl sc30.nd rfl rfl (by decide) rfl rfl (z6 (zZ qN (pv 0) zl (fun _ _=>rfl)) (z6 (zZ qN (pv 0) zl (fun _ _=>rfl)) z7)) rfl)
  (z8 (zY (zt qM (pv 3) zq (zA _)) (zi (zu (qT qM (Qi hu (pv 2) (pv 4) (fun _ _=>rfl)) (pv 1) (zA _)))) zE)
  (zi (zu (z8J (qT z4S (zw FS hr rfl (z6 (pv 3) z7)) zq (zA _)) (Z6 (z6e (z6f hu (pv 4) (pv 2)))))))),?_⟩
 symm
 refine ⟨a,_,_,_,rfl,rfl,SqT.of ha,zy (j:=0) rfl,a,_,_,_,rfl,rfl,SqT.of ha,zy (j:=1) rfl,_,_,rfl,?_⟩;refine ⟨rfl,_,rfl,?_⟩;refine ite2 (fun c=>?_) (fun c=>?_)
 ·have eop:r.op="label":=by
   have:=kI c
   injection this
  have esort:so="mark":=by
   rw [eop,ZC] at hs;exact (kH hs).symm
  rw [esort] at hfit;obtain ⟨m,em,_,_⟩:=Q1 hfit;obtain ⟨j,hj⟩:=Option.isSome_iff_exists.mp (hlab m eop em);have hv:valV kvs (Sum.inl m:Key)=some (.int (j:Int)):=by rw [hL m,hj];rfl
  have hg:DGet H d r.arg (some (.int (j:Int))):=by rw [em,<-hv];exact DGet.k (k:=Sum.inl m) hd
  refine ⟨d,_,rfl,hg,rfl,?_⟩;have e:jW rs i r=decide (V.int (j:Int)=V.int (i:Int)):=by
   unfold jW;rw [kG eop,em];show decide (zM rs m=some i)=_;rw [hj];by_cases z:j=i
   ·subst z;simp
   ·rw [km (fun y=>z (by injection y)),km (fun y=>z (by injection y with y;lia))]
  rw [e] at q;exact q
 ·have eop:¬r.op="label":=fun z=>c (by rw [z];rfl)
  refine ⟨r.op,so,rfl,hs,rfl,_,rfl,?_⟩;unfold jW at q;rw [kF eop,hs] at q;by_cases e:so="mark"
  ·subst e;rw [kG rfl] at q;obtain ⟨m,em,_,_⟩:=Q1 hfit;have e1:(!decide (V.str "mark"=V.str "mark"))=false:=vV;rw [e1];refine iteF ⟨d,Option.map (fun i:Nat=>V.int (i:Int)) (zM rs m),rfl,?_,?_⟩
   ·have:DGet H d r.arg (Option.map (fun i:Nat=>V.int (i:Int)) (zM rs m)):=by
     rw [em,<-hL m];exact DGet.k (k:=Sum.inl m) hd
    exact this
   ·rw [em] at q;rw [Option.isSome_map];exact q
  ·rw [kF (fun z=>e (kH z))] at q;have e1:(!decide (V.str so=V.str "mark"))=true:=by
    rw [km (fun z=>e (by injection z))];rfl
   rw [e1];exact iteT q
def z8r (K:kE):Sp:=fun vs H Q _=>∃l as rs,vs=[.ref l]/\SqL K H l (as.map V.ref)/\q0 H as rs/\(∀r∈rs,Z3 r)/\rs.length<=1000/\
 (∀H',Same H H'->(∀i r,rs[i]?=some r->jW rs i r=true)->Q .non H')/\
 (∀(i:Nat) r H',Same H H'->rs[i]?=some r->jW rs i r=false->(∀j r',j < i->rs[j]?=some r'->jW rs j r'=true)->Q (.int i) H')
theorem sc31:zr ["rows","labels","place","row"] ["rows"] (zh (top 31)):=fsM
theorem z1q {rs:List Row} {i:Nat} {r:Row} {m:Int} (h:rs[i]?=some r) (h1:r.op="label") (h2:r.arg=.int m):(zM rs m).isSome=true:=by
 unfold zM;rw [List.findIdx?_isSome,List.any_eq_true];exact ⟨r,kM h,by unfold labP;rw [h1,h2];simp⟩
theorem z9o (D:zx K mg "first_bad_place" (top 31)) (G:Glo mg) (FR:FN P w K mg base 6 "is_row" Vb z6E) (FL:FN P w K mg base 7 "label_places" ["rows"] (z0j K)) (FM:FN P w K mg base 2 "mark_fits" ["row","place","labels"] z62):
  FN P w K mg base 8 "first_bad_place" ["rows"] (z8r K):=by
 refine FN.o D sc31 fun f cdv A vY s H vs Q E hr h=>?_
 obtain ⟨l,as,rs,rfl,hS,hR,hok,hlen,q1,q2⟩:=h;refine ⟨_,z8 (zK (i:=1) sc31.nd rfl (Or.inl rfl) (zw FL hr rfl (z6 (pv 0) z7)))
  (z8 (jI vn rfl (z3j rfl G.enumerate (z6 (pv 0) z7)) (jr rfl (zD (zC (i:=2) sc31.nd rfl (Or.inl rfl)) (zD (zC (i:=3) sc31.nd rfl (Or.inl rfl)) qC)))
   (zi (zY (PW.pt (QA (jS (j8 (zw FR (hr.mono (by decide)) rfl (z6 (pv 3) z7)))) (Z5 (jS (j8 (zw FM (hr.mono (by decide)) rfl (z6 (pv 3) (z6 (pv 2) (z6 (pv 1) z7)))))))))
    (zi (zu (pv 2))) zE)))
  (zi (zu qk))),?_⟩
 symm
 refine ⟨l,as,rs,rfl,hS,hR,hok,hlen,fun d kvs H1 hd0 s1 hD hL=>?_⟩;have hll:as.length=rs.length:=hR.len;have hml:(as.map V.ref).length=rs.length:=by rw [kq];exact hll
 refine ⟨l,rfl,⟨_,s1.seq hS⟩,z1V (K:=K) (a:=l) (xs:=as.map V.ref) (fun i σ H2=>∃v2 v3,σ=[some (.ref l),some (.ref d),v2,v3]/\Same H1 H2/\∀j r',j < i->rs[j]?=some r'->jW rs j r'=true)
  ⟨none,none,rfl,Same.refl _,fun j _ hj=>vd hj (Nat.not_lt_zero _)⟩ (fun i σ H2 _ zz=>by obtain ⟨_,_,_,s2,_⟩:=zz;exact s2.seq (s1.seq hS)) ?_ ?_⟩
 ·rintro i x σ H2 p hi ⟨v2,v3,rfl,s2,hall⟩ hp;obtain ⟨a,r,rfl,hr1,ha⟩:=((hR.same s1).same s2).get hi;have hD2:=s2 _ _ hD;have npd:d≠p:=ze hD2 hp;have nap:a≠p:=ze ha hp;have ha':(upd H2 p (.tup [.int i,.ref a])) a=some (.tup (tupV r)):=by rw [zj nap];exact ha
  have hD':(upd H2 p (.tup [.int i,.ref a])) d=some (.dK kvs):=by rw [zj npd];exact hD2
  have s3:Same H1 (upd H2 p (.tup [.int i,.ref a])):=fun b o e=>by rw [zj (ze (s2 b o e) hp)];exact s2 b o e
  have hro:=hok r (kM hr1);obtain ⟨so,hs,hfit,hl0,hl1,hop,hsc⟩:=hro.parts;refine ⟨p,_,rfl,SqT.of zc,rfl,_,_,rfl,_,_,rfl,rfl,?_⟩;refine (.inr ⟨a,r.op,r.arg,.int r.line,rfl,ha',hop,hsc,.int _,_,rfl,?_⟩);have hrow:rowV r.op r.arg (.int r.line)=true:=hro;rw [hrow];refine iteF ⟨a,i,d,r,kvs,rs,rfl,ha',hro,hD',hL,(fun m h1 h2=>z1q hr1 h1 h2),_,rfl,?_⟩;cases hb:jW rs i r with
  | true=>
   refine iteF ⟨_,_,rfl,s3,fun j r' hj hr'=>?_⟩;by_cases e:j=i
   ·subst e;rw [hr1] at hr';cases hr';exact hb
   ·exact hall j r' (by lia) hr'
  | false=>exact iteT (q2 i r _ (s1.trans s3) hr1 hb hall)
 ·rintro σ H2 ⟨v2,v3,rfl,s2,hall⟩;refine q1 H2 (s1.trans s2) fun i r hir=>hall i r ?_ hir
  rw [hml];exact (kj.mp hir).1
def z8p:Sp:=fun vs H Q _=>∃l xs,vs=[.ref l]/\H l=some (.lst xs)/\1<=xs.length/\xs.length<=150/\Q (.bl true) H
theorem sc32:zr ["thing"] ["thing"] (zh (top 32)):=fsM
theorem z9m (D:zx K mg "has_places" (top 32)) (G:Glo mg):FN P w K mg base 1 "has_places" Vb z8p:=by
 refine FN.o D sc32 fun f cdv A vY s H vs Q E hr h=>?_
 obtain ⟨l,xs,rfl,hl,h1,h2,q⟩:=h;refine ⟨_,zi (zu (jU (zH qE rfl G.isinstance zX (z6 (pv 0) (z6 (QS "list" rfl G.list Zq) z7)))
  (Z6 (JJ z2h z2h zl (zH zW rfl G.len qA (z6 (pv 0) z7)) (jJ rfl G.rows))))),?_⟩
 symm
 refine ⟨_,"list",_,true,rfl,.lst hl,rfl,_,rfl,iteT ?_⟩;refine ⟨l,_,rfl,.inl (SqL.of hl),_,_,rfl,rfl,_,rfl,?_⟩;have e1:decide ((1:Int)<=(xs.length:Int))=true:=ko (by lia);have e2:decide ((xs.length:Int)<=150)=true:=ko (by lia);rw [e1];refine iteT ⟨_,_,rfl,rfl,?_⟩;show Q (.bl (decide ((xs.length:Int)<=150))) H;rw [e2];exact q
structure Code (rs:List Row):Prop where
 ok:∀r∈rs,Z3 r
 fit:∀i r,rs[i]?=some r->jW rs i r=true
 lo:1<=rs.length
 hi:rs.length<=150
def z34:Sp:=fun vs H Q _=>∃l as rs,vs=[.ref l]/\H l=some (.lst (as.map V.ref))/\q0 H as rs/\Code rs/\∀H',Same H H'->Q .non H'
theorem sc33:zr ["thing","place"] ["thing"] (zh (top 33)):=fsM
theorem z5y (D:zx K mg "check_code" (top 33)) (FH:FN P w K mg base 1 "has_places" Vb z8p) (FB:FN P w K mg base 8 "first_bad_place" ["rows"] (z8r K)):FN P w K mg base 9 "check_code" Vb z34:=by
 refine FN.o D sc33 fun f cdv A vY s H vs Q E hr h=>?_
 obtain ⟨l,as,rs,rfl,hl,hR,hC,q⟩:=h;refine ⟨_,z8 (zY (jS (j8 (zw FH (hr.mono (by decide)) rfl (z6 (pv 0) z7)))) j4 zE)
  (z8 (zK (i:=1) sc33.nd rfl (Or.inl rfl) (zw FB hr rfl (z6 (pv 0) z7)))
  (zi (zY (zt QV (pv 1) qk (zA _)) j4 zE))),?_⟩
 symm
 have hll:as.length=rs.length:=hR.len;refine ⟨l,_,rfl,hl,by rw [kq,hll];exact hC.lo,by rw [kq,hll];exact hC.hi,_,rfl,iteF ?_⟩;refine ⟨l,as,rs,rfl,SqL.of hl,hR,hC.ok,kD hC.hi (by decide),fun H' s' _=>?_,fun i r H' s' hi hf _=>?_⟩
 ·exact ⟨rfl,_,rfl,iteF (q H' s')⟩
 ·rw [hC.fit i r hi] at hf;cases hf
end
noncomputable def zN:List (Str × Int):=[("store",1),("drop",1),("add",2),("sub",2),("mul",2),("div",2),("rest",2),("less",2),("same",2),("neg",1),("not",1),("tell",1),("iftrue",1),("iffalse",1),("ortrue",1),("orfalse",1),("return",1),("raise",1)]
noncomputable def zU:List (Str × Int):=[("push",1),("load",1),("quick",1),("copy",1),("add",1),("sub",1),("mul",1),("div",1),("rest",1),("less",1),("same",1),("neg",1),("not",1)]
noncomputable def zS:List (Str × Int):=[("try",1),("endtry",-1)]
noncomputable def jumping:List Str:=["jump","iftrue","iffalse","ortrue","orfalse"]
noncomputable def leaving:List Str:=["ortrue","orfalse"]
noncomputable def qi:List Str:=["jump","return","raise"]
noncomputable def faulting:List Str:=["load","clear","add","sub","mul","div","rest","less","neg","raise"]
noncomputable def z0z (t:List (Str × Int)):List (Str × V):=t.map fun p=>(p.1,V.int p.2)
noncomputable def tabI (t:List (Str × Int)) (x:Str):Int:=(t.lookup x).getD 0
theorem Q3 (t:List (Str × Int)) (x:Str):((z0z t).lookup x).getD (.int 0)=.int (tabI t x):=by
 unfold z0z tabI;rw [Qj];cases t.lookup x <;> rfl
def KTup (K:kE) (a:Addr) (xs:List V):Prop:=
 ∃(o:Obj) (its:Array Value) (n:Nat),K.lookup a=some o/\o.cls=.type "tuple"/\o.data=.seq its n/\its.size<=sizeLine/\Vals xs its.toList
theorem KTup.sq {K:kE} {a:Addr} {xs:List V} (h:KTup K a xs) (H:Hp):SqT K H a xs:=.inr h
structure z5Q (w:World) (K:kE) (mg:Str->Option Value):Prop where
 takes:∃d,mg "TAKES"=some (.ref d)/\KTab w.params K d (z0z zN)
 pushes:∃d,mg "PUSHES"=some (.ref d)/\KTab w.params K d (z0z zU)
 gput:∃d,mg "GUARDS_PUT"=some (.ref d)/\KTab w.params K d (z0z zS)
 jumping:∃a,mg "JUMPING"=some (.ref a)/\KTup K a (jumping.map V.str)
 leaving:∃a,mg "LEAVING"=some (.ref a)/\KTup K a (leaving.map V.str)
 never:∃a,mg "NEVER_ON"=some (.ref a)/\KTup K a (qi.map V.str)
 faulting:∃a,mg "FAULTING"=some (.ref a)/\KTup K a (faulting.map V.str)
 first:∃a g,mg "FIRST_STATE"=some (.ref a)/\KTup K a [.int 0,.ref g]/\KTup K g []
noncomputable def inT (x:Str) (l:List Str):Bool:=inV (.str x) (l.map V.str)
theorem Zo {x:Str} {l:List Str}:inT x l=true↔x∈l:=by
 unfold inT inV;rw [List.any_map,List.any_eq_true];constructor
 ·rintro ⟨y,hy,e⟩;have e:(y == x)=true:=e;rw [beq_iff_eq] at e;exact e▸hy
 ·exact fun h=>⟨x,h,by show (x == x)=true;simp⟩
theorem Zp (l:List Str):(l.map V.str).all QE=true:=by
 rw [List.all_map,List.all_eq_true];exact fun _ _=>rfl
noncomputable def qO:List Str:=["copy","swap"]
noncomputable def qd (r:Row):Int:=if inT r.op qO=true then (match r.arg with | .int n=>n | _=>0) else tabI zN r.op
abbrev Gd:=Int × Int
def Zv (H:Hp) (x:V):Option Gd->Prop
 | none=>x=.non
 | some g=>∃a,x=.ref a/\H a=some (.tup [.int g.1,.int g.2])
theorem Zv.same {H H':Hp} {x:V} {og:Option Gd} (h:Zv H x og) (s:Same H H'):Zv H' x og:=by
 cases og with
 | none=>exact h
 | some g=>
  obtain ⟨a,e,h⟩:=h;exact ⟨a,e,s _ _ h⟩
noncomputable def ZN (r:Row) (og:Option Gd):Bool:=decide (r.op="endtry")&&og.isNone
noncomputable def qF (r:Row) (d:Int) (og:Option Gd):Bool:=match og with
 | none=>false
 | some g=>if r.op="copy" then false else decide ((if d - qd r > 0 then d - qd r else 0) < (if g.2 < d then g.2 else d))
theorem Qm {r:Row} (hok:Z3 r) (h:inT r.op qO=true):∃n:Int,r.arg=.int n/\1<=n/\n<=9:=by
 obtain ⟨s,hs,hfit,_⟩:=hok.parts;rw [Zo] at h;rcases kJ.mp h with h | h
 ·rw [h,show qg "copy"=some "copied" by trivial] at hs;cases hs;have e:jj "copied" r.arg=z04 r.arg:=by
   unfold jj;rw [kF vV,kF vV,kG rfl]
  rw [e] at hfit;exact qQ hfit
 ·rw [kz.mp h,show qg "swap"=some "swapped" by trivial] at hs;cases hs;have e:jj "swapped" r.arg=QI r.arg:=by
   unfold jj;rw [kF vV,kF vV,kF vV,kG rfl]
  rw [e] at hfit;obtain ⟨n,h1,h2,h3⟩:=qQ hfit;exact ⟨n,h1,by lia,h3⟩
theorem qx {K:kE} {H H':Hp} {a:Addr} {xs:List V} (s:Same H H') (h:SqT K H a xs):SqT K H' a xs:=by
 rcases h with (h | ⟨o,h⟩) | h
 ·exact .inl (.inl (s _ _ h))
 ·exact .inl (.inr ⟨o,s _ _ h⟩)
 ·exact .inr h
section
def spUp (K:kE):Sp:=fun vs H Q _=>∃(g:Addr) (as:List Addr),vs=[.ref g]/\SqT K H g (as.map V.ref)/\((as=[]/\Q .non H)\/∃bs a,as=bs++[a]/\Q (.ref a) H)
theorem sc43:zr ["guards"] ["guards"] (zh (top 43)):=fsM
theorem zan (D:zx K mg "uppermost" (top 43)):FN P w K mg base 1 "uppermost" ["guards"] (spUp K):=by
 refine FN.o D sc43 fun f cdv A vY s H vs Q E hr h=>?_
 obtain ⟨g,as,rfl,hS,q⟩:=h;refine ⟨_,zi (zu (j6 (ZV (pv 0) (fun _=>rfl)) (zZ qN (pv 0) (ZL jy zl) (fun _ _=>rfl)) qk)),?_⟩
 symm
 rcases q with ⟨rfl,q⟩ | ⟨bs,a,rfl,q⟩
 ·exact ⟨false,.inr (.inl ⟨_,hS,rfl⟩),iteF q⟩
 ·refine ⟨true,.inr (.inl ⟨_,hS,by simp⟩),iteT ⟨1,rfl,g,_,_,.ref a,rfl,rfl,hS,?_,q⟩⟩;rw [kP];exact z09 _ _
def z18:Sp:=fun vs H Q _=>∃a r,vs=[.ref a]/\H a=some (.tup (tupV r))/\Z3 r/\∀H',Same H H'->Q (.int (qd r)) H'
theorem sc44:zr ["row","op","arg"] ["row"] (zh (top 44)):=fsM
theorem z5z (D:zx K mg "depth_asked" (top 44)) (T:z5Q w K mg):FN P w K mg base 1 "depth_asked" ["row"] z18:=by
 refine FN.o D sc44 fun f cdv A vY s H vs Q E hr h=>?_
 obtain ⟨a,r,rfl,ha,hok,q⟩:=h;obtain ⟨d,md,td⟩:=T.takes;refine ⟨_,z8 (Qr (i:=1) (j:=2) rfl sc44.nd rfl rfl (by decide) rfl rfl (z6 (zZ qN (pv 0) zl (fun _ _=>rfl)) (z6 (zZ qN (pv 0) zl (fun _ _=>rfl)) z7)) rfl)
  (zi (zu (j6 (zt jh (pv 1) (qb (z6 zq (z6 zq z7))) rfl) (pv 2) (QL td rfl md (pv 1) zl ⟨rfl,rfl,rfl,rfl⟩)))),?_⟩
 symm
 refine ⟨a,_,_,_,rfl,rfl,SqT.of ha,zy (j:=0) rfl,a,_,_,_,rfl,rfl,SqT.of ha,zy (j:=1) rfl,_,_,rfl,?_⟩;refine ⟨vW,fun p hp=>?_⟩;have s1:=zo hp (.tup (qO.map V.str));refine ⟨p,_,rfl,.inr (SqT.of (xs:=qO.map V.str) zc),rfl,Zp _,_,rfl,?_⟩;have q:=q _ s1;unfold qd at q;refine ite2 (fun c=>?_) (fun c=>?_)
 ·have c':inT r.op qO=true:=c;obtain ⟨n,en,_⟩:=Qm hok c';rw [kG c',en] at q;refine (z4u (by rfl) <| ?_);rw [en];exact q
 ·have c':¬inT r.op qO=true:=c;rw [kF c'] at q;refine ⟨r.op,rfl,?_⟩;rw [Q3];exact q
def z15:Sp:=fun vs H Q _=>∃a r d,vs=[.ref a,.int d]/\H a=some (.tup (tupV r))/\Z3 r/\∀H',Same H H'->Q (.bl (decide (d < qd r))) H'
theorem sc45:zr ["row","depth"] ["row","depth"] (zh (top 45)):=fsM
theorem z5q (D:zx K mg "lacks_values" (top 45)) (F1:FN P w K mg base 1 "depth_asked" ["row"] z18):FN P w K mg base 2 "lacks_values" ["row","depth"] z15:=by
 refine FN.o D sc45 fun f cdv A vY s H vs Q E hr h=>?_
 obtain ⟨a,r,d,rfl,ha,hok,q⟩:=h;refine ⟨_,zi (zu (qT Je (pv 1) (zw F1 hr rfl (z6 (pv 0) z7)) (zA _))),?_⟩
 symm
 exact ⟨a,r,rfl,ha,hok,fun H' s'=>⟨_,_,rfl,rfl,q H' s'⟩⟩
def z16:Sp:=fun vs H Q _=>∃a r gv og,vs=[.ref a,gv]/\H a=some (.tup (tupV r))/\Zv H gv og/\Q (.bl (ZN r og)) H
theorem sc46:zr ["row","guard"] ["row","guard"] (zh (top 46)):=fsM
theorem z3K {H:Hp} {x:V} {og:Option Gd} (h:Zv H x og):decide (x=.non)=og.isNone:=by
 cases og with
 | none=>rw [show x=.non from h];rfl
 | some g=>obtain ⟨a,e,_⟩:=h;rw [e];rfl
theorem z5r (D:zx K mg "lacks_guard" (top 46)):FN P w K mg base 1 "lacks_guard" ["row","guard"] z16:=by
 refine FN.o D sc46 fun f cdv A vY s H vs Q E hr h=>?_
 obtain ⟨a,r,gv,og,rfl,ha,hg,q⟩:=h;refine ⟨_,zi (zu (jU (qT qM (zZ qN (pv 0) zl (fun _ _=>rfl)) zq (zA _)) (Z6 (qT Z7 (pv 1) qk (zA _))))),?_⟩
 symm
 refine ⟨a,_,_,_,rfl,rfl,SqT.of ha,zy (j:=0) rfl,rfl,_,rfl,?_⟩;unfold ZN at q;rw [<-z3K hg] at q;refine ite2 (fun c=>?_) (fun c=>?_)
 ·have e:r.op="endtry":=by have:=kI c;injection this
  rw [ko e,Bool.true_and] at q;exact ⟨rfl,q⟩
 ·have e:¬r.op="endtry":=fun z=>c (by rw [z];rfl)
  rw [km e,vy] at q;exact q
def z0m:Sp:=fun vs H Q _=>∃a r d gv og,vs=[.ref a,.int d,gv]/\H a=some (.tup (tupV r))/\Z3 r/\Zv H gv og/\∀H',Same H H'->Q (.bl (qF r d og)) H'
theorem sc47:zr ["row","depth","guard","lowest"] ["row","depth","guard"] (zh (top 47)):=fsM
theorem z5L:bootBuiltins "max"=some (.builtin "max"):=vV
theorem z5K:bootBuiltins "min"=some (.builtin "min"):=vV
theorem z2C (D:zx K mg "takes_beneath" (top 47)) (G:Glo mg) (F1:FN P w K mg base 1 "depth_asked" ["row"] z18):FN P w K mg base 2 "takes_beneath" ["row","depth","guard"] z0m:=by
 refine FN.o D sc47 fun f cdv A vY s H vs Q E hr h=>?_
 obtain ⟨a,r,d,gv,og,rfl,ha,hok,hg,q⟩:=h;refine ⟨_,z8 (zY (PW.pt (QA (zt Z7 (pv 2) qk (zA _)) (Z5 (zt qM (zZ qN (pv 0) zl (fun _ _=>rfl)) zq (zA _))))) (zi (zu QT)) zE)
  (z8 (zK (i:=3) sc47.nd rfl (Or.inl rfl) (zH (z4i rfl) rfl G.max z5L (z6 zl (z6 (qa jD (pv 1) (zw F1 hr rfl (z6 (pv 0) z7))) z7))))
  (zi (zu (qT Je (pv 3) (zH (z4h rfl) rfl G.min z5K (z6 (pv 1) (z6 (zZ qN (pv 2) zl (fun _ _=>rfl)) z7))) (zA _))))),?_⟩
 symm
 refine ⟨rfl,_,rfl,?_⟩;cases og with
 | none=>
  have e:gv=.non:=hg;subst e;exact iteT (iteT (q H (Same.refl _)))
 | some g=>
  obtain ⟨ga,rfl,hga⟩:=hg;refine iteF ⟨a,_,_,_,rfl,rfl,SqT.of ha,zy (j:=0) rfl,rfl,_,rfl,?_⟩;unfold qF at q;refine ite2 (fun c=>?_) (fun c=>?_)
  ·have e:r.op="copy":=by have:=kI c;injection this
   simp only [kG e] at q;exact q H (Same.refl _)
  ·have e:¬r.op="copy":=fun z=>c (by rw [z];rfl)
   simp only [kF e] at q;refine ⟨a,r,rfl,ha,hok,fun H' s'=>⟨_,_,rfl,rfl,_,_,rfl,?_⟩⟩;exact ⟨ga,_,_,_,rfl,rfl,SqT.of (s' _ _ hga),zy (j:=1) rfl,_,_,rfl,_,_,rfl,rfl,q H' s'⟩
end
theorem PS.imp {X:Cx} {st:Stmt} {t t':TS} (h:PS X st t) (hi:∀D σ H,t' D σ H->t D σ H):PS X st t':=fun vX s σ H D I q=>h vX s σ H D I (hi D σ H q)
abbrev Mv:=V × Int × Int
abbrev Za (H:Hp):List Addr->List Mv->Prop:=Paired fun t m=>H t=some (.tup [m.1,.int m.2.1,.int m.2.2])
theorem Za.same {H H':Hp} {ts:List Addr} {ms:List Mv} (h:Za H ts ms) (k:∀a xs,H a=some (.tup xs)->H' a=some (.tup xs)):Za H' ts ms:=Paired.mapP h fun _ _ e=>k _ _ e
theorem Za.append {H:Hp} {as bs:List Addr} {rs ts:List Mv} (h:Za H as rs) (k:Za H bs ts):Za H (as++bs) (rs++ts):=z1I h k
theorem Za.get {H:Hp} {as:List Addr} {rs:List Mv} {i:Nat} {x:V} (h:Za H as rs) (e:(as.map V.ref)[i]?=some x):∃a r,x=.ref a/\rs[i]?=some r/\H a=some (.tup [r.1,.int r.2.1,.int r.2.2]):=z3c h e
noncomputable def zJ (r:Row) (d:Int):Int:=d - tabI zN r.op+tabI zU r.op
noncomputable def labV (rs:List Row) (m:Int):V:=match zM rs m with
 | some j=>.int (j:Nat)
 | none=>.non
noncomputable def argM (x:V):Int:=match x with
 | .int m=>m
 | _=>0
noncomputable def mv1 (r:Row) (place:Nat) (d:Int):List Mv:=if inT r.op qi=true then [] else [(.int ((place:Int)+1),zJ r d,tabI zS r.op)]
noncomputable def mv2 (rs:List Row) (r:Row) (d:Int):List Mv:=if inT r.op jumping=true then [(labV rs (argM r.arg),if inT r.op leaving=true then d else zJ r d,0)] else []
noncomputable def mv3 (rs:List Row) (r:Row) (og:Option Gd):List Mv:=if inT r.op faulting=true then (match og with | some g=>[(labV rs g.1,g.2+1,-1)] | none=>[]) else []
noncomputable def ql (rs:List Row) (place:Nat) (r:Row) (d:Int) (og:Option Gd):List Mv:=if decide (d < qd r)=true then [] else if ZN r og=true then [] else mv1 r place d++mv2 rs r d++mv3 rs r og
theorem z1R {rs:List Row} {i:Nat} {r:Row} (hc:Code rs) (hr:rs[i]?=some r) (h:inT r.op jumping=true):∃(m:Int) (j:Nat),r.arg=.int m/\zM rs m=some j:=by
 have hok:=hc.ok r (kM hr);obtain ⟨s,hs,hfit,_⟩:=hok.parts;have hm:qg r.op=some ("mark":Str)/\r.op≠"label":=by
  rw [Zo] at h;have all:∀x∈jumping,qg x=some ("mark":Str)/\x≠"label":=vV;exact all _ h
 rw [hm.1] at hs;cases hs;obtain ⟨m,em,_,_⟩:=Q1 hfit;have hf:=hc.fit i r hr;unfold jW at hf;rw [kF hm.2,kG hm.1,em] at hf;obtain ⟨j,hj⟩:=Option.isSome_iff_exists.mp hf;exact ⟨m,j,em,hj⟩
def sMv (σ0:Addr->L2.St) (Hin:Hp) (new:List Mv):TS:=fun D σ H=>∃(fa:Addr) (ts:List Addr) (ms:List Mv),σ=σ0 fa/\Hin fa=none/\Same Hin H/\H fa=some (.lst (ts.map V.ref))/\Za H ts ms/\ts.length<=100/\
 ∀H' ts',Same Hin H'->H' fa=some (.lst (ts'.map V.ref))->Za H' ts' (ms++new)->ts'.length<=ts.length+1->D.nx (σ0 fa) H'
theorem z3u {Hin H:Hp} {fa p:Addr} {ts:List Addr} {ms:List Mv} {m:Mv} (hn:Hin fa=none) (sm:Same Hin H) (hf:H fa=some (.lst (ts.map V.ref))) (hM:Za H ts ms) (hp:H p=none):
  Same Hin (upd (upd H p (.tup [m.1,.int m.2.1,.int m.2.2])) fa (.lst (ts.map V.ref++[.ref p])))/\upd (upd H p (.tup [m.1,.int m.2.1,.int m.2.2])) fa (.lst (ts.map V.ref++[.ref p])) fa=some (.lst ((ts++[p]).map V.ref))/\
   Za (upd (upd H p (.tup [m.1,.int m.2.1,.int m.2.2])) fa (.lst (ts.map V.ref++[.ref p]))) (ts++[p]) (ms++[m]):=by
 have npf:p≠fa:=(ze hf hp).symm;have kt:∀a xs,(upd H p (.tup [m.1,.int m.2.1,.int m.2.2])) a=some (.tup xs)->(upd (upd H p (.tup [m.1,.int m.2.1,.int m.2.2])) fa (.lst (ts.map V.ref++[.ref p]))) a=some (.tup xs):=fun a xs e=>by
  rw [zj (fun z=>by rw [z,zj npf.symm,hf] at e;cases e)];exact e
 refine ⟨fun b o e=>?_,?_,Za.append ((hM.same fun a xs e=>?_).same kt) (.cons ?_ .nil)⟩
 ·have e2:=sm b o e;rw [zj (ze e hn),zj (ze e2 hp)];exact e2
 ·rw [zc,kP];rfl
 ·rw [zj (ze e hp)];exact e
 ·exact kt _ _ zc
section
structure Z8 (K:kE) (H:Hp) (l d:Addr) (rs:List Row):Prop where
 rows:∃as,SqL K H l (as.map V.ref)/\q0 H as rs
 code:Code rs
 labs:∃kvs,H d=some (.dK kvs)/\Qo kvs rs
theorem Z8.same {H H':Hp} {l d:Addr} {rs:List Row} (h:Z8 K H l d rs) (s:Same H H'):Z8 K H' l d rs:=by
 obtain ⟨⟨as,h1,h2⟩,hc,kvs,h3,h4⟩:=h;exact ⟨⟨as,s.seq h1,h2.same s⟩,hc,kvs,s _ _ h3,h4⟩
theorem q0.get' {H:Hp} {as:List Addr} {rs:List Row} {i:Nat} {r:Row} (h:q0 H as rs) (e:rs[i]?=some r):∃a,(as.map V.ref)[i]?=some (.ref a)/\H a=some (.tup (tupV r)):=by
 have hi:i < rs.length:=(kj.mp e).1;obtain ⟨a,r',h1,h2,h3⟩:=q0.get (i:=i) (x:=(as.map V.ref)[i]'(by rw [kq,h.len];exact hi)) h (kQ _);rw [e] at h2;cases h2;exact ⟨a,by rw [<-h1];exact kQ _,h3⟩
def JA (K:kE):Sp:=fun vs H Q _=>∃l d place dep gv og rs r,vs=[.ref l,.ref d,.int (place:Nat),.int dep,gv]/\Z8 K H l d rs/\rs[place]?=some r/\Zv H gv og/\
 ∀f ts H',Same H H'->H f=none->H' f=some (.lst (ts.map V.ref))->Za H' ts (ql rs place r dep og)->Q (.ref f) H'
theorem sc48:zr ["code","labels","place","depth","guard","row","op","arg","behind","found"] ["code","labels","place","depth","guard"] (zh (top 48)):=fsM
theorem z5n (D:zx K mg "moves" (top 48)) (T:z5Q w K mg) (FV:FN P w K mg base 2 "lacks_values" ["row","depth"] z15) (FG:FN P w K mg base 1 "lacks_guard" ["row","guard"] z16):
  FN P w K mg base 3 "moves" Vf (JA K):=by
 refine FN.o D sc48 fun f cdv A vY s H vs Q E hr h=>?_
 obtain ⟨l,d,place,dep,gv,og,rs,r,rfl,hC,hrp,hg,q⟩:=h;have hu:=Ql hr;obtain ⟨⟨as,hS,hR⟩,hc,kvs,hd,hL⟩:=id hC;obtain ⟨ra,hra,har⟩:=hR.get' hrp;have hro:=hc.ok r (kM hrp);obtain ⟨d1,md1,td1⟩:=T.takes;obtain ⟨d2,md2,td2⟩:=T.pushes;obtain ⟨d3,md3,td3⟩:=T.gput;obtain ⟨a1,ma1,ta1⟩:=T.never;obtain ⟨a2,ma2,ta2⟩:=T.jumping;obtain ⟨a3,ma3,ta3⟩:=T.leaving;obtain ⟨a4,ma4,ta4⟩:=T.faulting
 let σ0:Addr->L2.St:=fun fa=>[some (.ref l),some (.ref d),some (.int (place:Nat)),some (.int dep),some gv,some (.ref ra),some (.str r.op),some r.arg,some (.int (zJ r dep)),some (.ref fa)]
 refine ⟨_,z8 (zK (i:=5) sc48.nd rfl (Or.inl rfl) (zZ zI (pv 0) (pv 2) (fun _ _=>rfl)))
  (z8 (Qr (i:=6) (j:=7) rfl sc48.nd rfl rfl (by decide) rfl rfl (z6 (zZ qN (pv 5) zl (fun _ _=>rfl)) (z6 (zZ qN (pv 5) zl (fun _ _=>rfl)) z7)) rfl)
  (z8 (zY (PW.pt (QA (j8 (zw FV hr rfl (z6 (pv 5) (z6 (pv 3) z7)))) (Z5 (j8 (zw FG (hr.mono (by decide)) rfl (z6 (pv 5) (z6 (pv 4) z7))))))) (zi (zu (qe z7))) zE)
  (z8 (zK (i:=8) sc48.nd rfl (Or.inl rfl) (qa js (qa jD (pv 3) (QL td1 rfl md1 (pv 6) zl ⟨rfl,rfl,rfl,rfl⟩)) (QL td2 rfl md2 (pv 6) zl ⟨rfl,rfl,rfl,rfl⟩)))
  (z8 (zK (i:=9) sc48.nd rfl (Or.inl rfl) (qe z7))
  (z8 (PS.imp (t':=sMv σ0 H (mv1 r place dep)) (zY (zt z0q (pv 6) (qo rfl ma1 (v:=.ref a1) rfl) rfl) (zi (zp (jC (pv 9)
    (z6 (qb (z6 (qa js (pv 2) zl) (z6 (pv 8) (z6 (QL td3 rfl md3 (pv 6) zl ⟨rfl,rfl,rfl,rfl⟩) z7)))) z7)))) zE) ?m1)
  (z8 (PS.imp (t':=sMv σ0 H (mv2 rs r dep)) (zY (zt jh (pv 6) (qo rfl ma2 (v:=.ref a2) rfl) rfl) (zi (zp (jC (pv 9)
    (z6 (qb (z6 (Qi hu (pv 1) (pv 7) (fun _ _=>rfl)) (z6 (j6 (zt jh (pv 6) (qo rfl ma3 (v:=.ref a3) rfl) rfl) (pv 3) (pv 8)) (z6 zl z7)))) z7)))) zE) ?m2)
  (z8 (PS.imp (t':=sMv σ0 H (mv3 rs r og)) (zY (PW.pt (QP (zt jh (pv 6) (qo rfl ma4 (v:=.ref a4) rfl) rfl) (ZK (zt QV (pv 4) qk (zA _))))) (zi (zp (jC (pv 9)
    (z6 (qb (z6 (z1K hu (pv 1) (zZ qN (pv 4) zl (fun _ _=>rfl)) ⟨rfl,rfl,rfl,rfl⟩) (z6 (qa js (zZ qN (pv 4) zl (fun _ _=>rfl)) zl) (z6 (ZL jy zl) z7)))) z7)))) zE) ?m3)
  (zi (zu (pv 9)))))))))),?_⟩
 symm
 case m1=>
  rintro D σ H1 ⟨fa,ts,ms,rfl,hn,sm,hf,hM,hl,k⟩;refine ⟨a1,_,rfl,.inr (ta1.sq _),rfl,Zp _,_,rfl,?_⟩;unfold mv1 at k;refine ite2 (fun c=>?_) (fun c=>?_)
  ·have c':¬inT r.op qi=true:=by
    intro z;have c:(!inT r.op qi)=true:=c;rw [z] at c;cases c
   rw [kF c'] at k;refine ⟨.inl ⟨rfl,_,SqL.of hf⟩,_,_,rfl,rfl,r.op,rfl,vW,fun p hp=>?_⟩;rw [Q3];obtain ⟨k1,k2,k3⟩:=z3u (m:=(.int ((place:Int)+1),zJ r dep,tabI zS r.op)) hn sm hf hM hp;exact ⟨fa,_,.ref p,rfl,rfl,by rw [zj (ze hf hp)];exact hf,qL (by rw [kq];lia),k _ _ k1 k2 k3 (by simp)⟩
  ·have c':inT r.op qi=true:=by
    cases z:inT r.op qi with
    | true=>rfl
    | false=>exact vd (show (!inT r.op qi)=true by rw [z];rfl) c
   rw [kG c'] at k;exact k H1 ts sm hf (by rw [yc];exact hM) (by lia)
 case m2=>
  rintro D σ H1 ⟨fa,ts,ms,rfl,hn,sm,hf,hM,hl,k⟩;refine ⟨a2,_,rfl,.inr (ta2.sq _),rfl,Zp _,_,rfl,?_⟩;unfold mv2 at k;refine ite2 (fun c=>?_) (fun c=>?_)
  ·have c':inT r.op jumping=true:=c;rw [kG c'] at k;obtain ⟨m,j,em,hj⟩:=z1R hc hrp c';have hv:valV kvs (Sum.inl m:Key)=some (.int (j:Int)):=by rw [hL m,hj];rfl
   have hgt:DGet H1 d r.arg (some (.int (j:Int))):=by rw [em,<-hv];exact DGet.k (k:=Sum.inl m) (sm _ _ hd)
   refine ⟨.inl ⟨rfl,_,SqL.of hf⟩,d,_,rfl,hgt,a3,_,rfl,.inr (ta3.sq _),rfl,Zp _,_,rfl,?_⟩;have el:labV rs (argM r.arg)=.int (j:Nat):=by
    rw [em];show labV rs m=_;unfold labV;rw [hj]
   rw [el] at k;have fin:∀x:Int,(if inT r.op leaving=true then dep else zJ r dep)=x->∀p,H1 p=none->z1a (.ref fa) [.ref p] (upd H1 p (.tup [.int (j:Nat),.int x,.int 0])) (fun _ H2=>D.nx (σ0 fa) H2):=fun x ex p hp=>by
    rw [ex] at k;obtain ⟨k1,k2,k3⟩:=z3u (m:=(.int (j:Nat),x,0)) hn sm hf hM hp;exact ⟨fa,_,.ref p,rfl,rfl,by rw [zj (ze hf hp)];exact hf,qL (by rw [kq];lia),k _ _ k1 k2 k3 (by simp)⟩
   refine ite2 (fun c2=>?_) (fun c2=>?_)
   ·have c2':inT r.op leaving=true:=c2;exact ⟨vW,fin dep (kG c2')⟩
   ·have c2':¬inT r.op leaving=true:=c2;exact ⟨vW,fin _ (kF c2')⟩
  ·have c':¬inT r.op jumping=true:=c;rw [kF c'] at k;exact k H1 ts sm hf (by rw [yc];exact hM) (by lia)
 case m3=>
  rintro D σ H1 ⟨fa,ts,ms,rfl,hn,sm,hf,hM,hl,k⟩;refine ⟨a4,_,rfl,.inr (ta4.sq _),rfl,Zp _,_,rfl,?_⟩;unfold mv3 at k;refine ite2 (fun c=>?_) (fun c=>?_)
  ·have c':inT r.op faulting=true:=c;rw [kG c'] at k;have hg1:=hg.same sm;refine ⟨rfl,_,rfl,?_⟩;cases og with
   | none=>
    have e:gv=.non:=hg;rw [e];exact iteF (k H1 ts sm hf (by rw [yc];exact hM) (by lia))
   | some g=>
    obtain ⟨ga,rfl,hga⟩:=hg1;rw [km (show ¬V.ref ga=.non from nofun)];have hgt:DGet H1 d (.int g.1) (valV kvs (Sum.inl g.1:Key)):=DGet.k (k:=Sum.inl g.1) (sm _ _ hd);have ev:(valV kvs (Sum.inl g.1:Key)).getD .non=labV rs g.1:=by
     rw [hL];unfold labV;cases zM rs g.1 <;> rfl
    refine iteT ⟨.inl ⟨rfl,_,SqL.of hf⟩,d,rfl,.inl ⟨kvs,.inl (sm _ _ hd)⟩,ga,_,_,_,rfl,rfl,SqT.of hga,zy (j:=0) rfl,_,hgt,ga,_,_,_,rfl,rfl,SqT.of hga,zy (j:=1) rfl,_,_,rfl,rfl,1,rfl,vW,fun p hp=>?_⟩;rw [ev];obtain ⟨k1,k2,k3⟩:=z3u (m:=(labV rs g.1,g.2+1,-1)) hn sm hf hM hp;exact ⟨fa,_,.ref p,rfl,rfl,by rw [zj (ze hf hp)];exact hf,qL (by rw [kq];lia),k _ _ k1 k2 k3 (by simp)⟩
  ·have c':¬inT r.op faulting=true:=c;rw [kF c'] at k;exact iteF (k H1 ts sm hf (by rw [yc];exact hM) (by lia))
 refine ⟨l,_,_,_,rfl,rfl,hS,zy hra,?_⟩;refine ⟨ra,_,_,_,rfl,rfl,SqT.of har,zy (j:=0) rfl,ra,_,_,_,rfl,rfl,SqT.of har,zy (j:=1) rfl,_,_,rfl,?_⟩;refine ⟨ra,r,dep,rfl,har,hro,fun H1 s1=>⟨_,rfl,?_⟩⟩;have empty:∀H2,Same H H2->ql rs place r dep og=[]->∀p,H2 p=none->Q (.ref p) (upd H2 p (.lst [])):=fun H2 s2 e p hp=>by
  refine q p [] _ (My.Same.upd s2 (s2.free hp) _) (s2.free hp) zc ?_;rw [e];exact .nil
 unfold ql at q empty;refine ite2 (fun c=>?_) (fun c=>?_)
 ·rw [kG c] at empty;exact iteT ⟨vW,empty H1 s1 rfl⟩
 ·rw [kF c] at q empty;refine ⟨ra,r,gv,og,rfl,s1 _ _ har,hg.same s1,_,rfl,?_⟩;refine ite2 (fun c2=>?_) (fun c2=>?_)
  ·rw [kG c2] at empty;exact ⟨vW,empty H1 s1 rfl⟩
  ·rw [kF c2] at q;refine ⟨r.op,rfl,?_⟩;rw [Q3];refine ⟨_,_,rfl,rfl,r.op,rfl,?_⟩;rw [Q3];refine ⟨_,_,rfl,rfl,vW,fun fa hfa=>?_⟩;have hn:=s1.free hfa;refine ⟨fa,[],[],rfl,hn,My.Same.upd s1 hn _,zc,.nil,by simp,fun H3 t3 s3 f3 M3 z3=>?_⟩;refine ⟨fa,t3,_,rfl,hn,s3,f3,M3,by simp at z3;lia,fun H4 t4 s4 f4 M4 z4=>?_⟩;refine ⟨fa,t4,_,rfl,hn,s4,f4,M4,by simp at z3;lia,fun H5 t5 s5 f5 M5 z5=>?_⟩;exact (q fa t5 H5 s5 hn f5 (by simpa using M5))
end
theorem Qh {X:Cx} {pos:Pos} {K:kE} {es:List Expr} {k:Nat} {t:TGs} {n:Nat} (hK:X.K=K) (hc:X.calm=true) (h:PGs X es t)
  (hn:autoParam ((assignEach es X.env).length=n) aR._auto_1) (hst:autoParam ((assignEach es X.env).findIdx? (·.1)=none) aR._auto_1):PG X (.Tuple es k pos) (gTup K n t):=by
 subst hK;exact jr hc h hn hst
theorem Zf {σ:L2.St} {H:Hp} {F G:Hp->Prop} (h:F H):tAll σ H (fun b H5=>if b=true then F H5 else G H5):=by
 show (if true=true then F H else G H);rw [kG rfl];exact h
theorem nd3:(["goal","deeper","more"]:List Str).Nodup:=vV
theorem nd2:(["word","is_lacking"]:List Str).Nodup:=vV
theorem zag {α β:Type} [BEq α] [LawfulBEq α] {x:α} {l:List (α × β)} (h:x∈l.map Prod.fst):∃c,l.lookup x=some c:=by
 induction l with
 | nil=>cases h
 | cons p t ih=>
  obtain ⟨a,b⟩:=p;by_cases e:x=a
  ·subst e;exact ⟨b,by simp [List.lookup]⟩
  ·obtain ⟨c,hc⟩:=ih (by simpa [e] using h);exact ⟨c,by simp [List.lookup,beq_eq_false_iff_ne.mpr e,hc]⟩
theorem qz.mk3 {X:Cx} {N:List Str} {nt:Nat} {ix:List Nat} {scope:Scope} {cl:List (Str × Addr)} {nm:List (Str × NameKind)} {ks:List Str} (clos:closureFor scope X.env=pure cl) (rel:(relabel scope X.env).names=nm)
  (h1:(∀y∈scope.names,y.2≠.cell)/\∀y∈scope.names,y.2=.local->scope.names.lookup y.1=some .local) (kind:scope.kind=.function) (hk:cl.map Prod.fst=ks) (sub:cl.map (fun p=>X.env.cells.lookup p.1)=cl.map fun p=>some p.2)
  (h2:∀y∈nm,(y.2=.cell\/y.2=.free)->y.1∈ks) (len:N.length=nt+ix.length) (f1:ix.map (fun i=>X.N[i]?)=(N.drop nt).map some)
  (f2:(N.drop nt).map (fun x=>(X.env.kindOf x,nm.lookup x))=(N.drop nt).map fun _=>(some .cell,some .cell)) (f3:(N.drop nt).map (fun x=>X.env.cells.lookup x)=(N.drop nt).map fun x=>cl.lookup x):qz X N nt ix scope cl where
 clos:=clos
 nocell:=h1.1
 kind:=kind
 names:=h1.2
 sub:=fun x c e=>by
  have:=List.map_inj_left.mp sub _ (vc e)
  exact this
 has:=fun x h=>by
  rw [rel] at h;refine zag (hk▸?_);rcases h with h | h
  ·exact h2 _ (vc h) (.inl rfl)
  ·exact h2 _ (vc h) (.inr rfl)
 len:=len
 free:=fun j x e=>by
  have hm:(N.drop nt)[j]?=some x:=by rw [List.getElem?_drop];exact e
  have hx:=kM hm;have g:=vF (·[j]?) f1;simp only [vh,hm,Option.map_some] at g;obtain ⟨i,hi,g⟩:=Option.map_eq_some_iff.mp g;have k:=List.map_inj_left.mp f2 _ hx;injection k with k1 k2
  refine ⟨i,hi,g,k1,by rw [rel];exact k2,fun c h=>?_⟩;rw [<-List.map_inj_left.mp f3 _ hx];exact h
noncomputable def cpX:Stmt->Option Expr
 | .Assign _ e _=>some e
 | .Return e _=>e
 | .If e _ _ _=>some e
 | _=>none
noncomputable def cpB:Stmt->List Stmt
 | .For _ _ b _ _=>b
 | .While _ b _ _=>b
 | .If _ b _ _=>b
 | _=>[]
noncomputable def cpE:Expr->Option Expr
 | .Call _ es _ _=>es.head?
 | .Compare e _ _ _=>some e
 | .BoolOp _ es _=>es.getLast?
 | .IfExp _ _ e _=>some e
 | _=>none
noncomputable def cpS:Expr->Option Scope
 | .ListComp _ _ s _=>some s
 | _=>none
theorem qz.plain {X:Cx} {N:List Str} {nt:Nat} {scope:Scope} (nofree:∀y∈scope.names,y.2≠.free) (nocell:∀y∈scope.names,y.2≠.cell) (kind:scope.kind=.function) (names:∀y∈scope.names,y.2=.local->scope.names.lookup y.1=some .local) (hl:N.length=nt):qz X N nt [] scope [] where
 clos:=closureFor_none nofree
 nocell:=nocell
 kind:=kind
 names:=names
 sub:=fun _ _ e=>nomatch e
 has:=fun x h=>by
  rw [z2d nofree] at h;rcases h with h | h
  ·exact vd h (z0u nocell x)
  ·exact vd h (z0u nofree x)
 len:=by rw [hl];rfl
 free:=fun j x e=>by
  rw [vo (by lia)] at e;cases e
theorem qV {K:kE} {a:Addr} {xs:List V} {g:TG} {tc:TT} {te:TE} {R:Hp->Prop} {H:Hp} {l:Addr} {σ0:L2.St} (Pv:Nat->List V->L2.St->Hp->Prop) (h0:Pv 0 [] σ0 (upd H l (.lst []))) (hl:∀i ys σ H,i<=xs.length->Pv i ys σ H->SqL K H a xs)
  (hs:∀i x ys σ H,xs[i]?=some x->Pv i ys σ H->g x σ H fun σ2 H4=>tc σ2 H4 fun b H5=>if b=true then te σ2 H5 fun v H6=>H6 l=some (.lst ys)/\ys.length < sizeLine/\∃m',m' < xs.length - i/\m'=xs.length - (i+1)/\i+1<=xs.length/\Pv (i+1) (ys++[v]) σ2 (upd H6 l (.lst (ys++[v])))
   else ∃m',m' < xs.length - i/\m'=xs.length - (i+1)/\i+1<=xs.length/\Pv (i+1) ys σ2 H5) (hd:∀ys σ H,Pv xs.length ys σ H->R H):
  ∃W:Nat->Nat->List V->L2.St->Hp->Prop,(∃m,W 0 m [] σ0 (upd H l (.lst [])))/\∀i m ys σ' H2,W i m ys σ' H2->
   ((Itl K a).stop i H2/\R H2)\/((Itl K a).go i H2/\∀x H3,(Itl K a).yld i H2 x H3->g x σ' H3 fun σ2 H4=>tc σ2 H4 fun b H5=>if b=true then te σ2 H5 fun v H6=>H6 l=some (.lst ys)/\ys.length < sizeLine/\∃m',m' < m/\W (i+1) m' (ys++[v]) σ2 (upd H6 l (.lst (ys++[v])))
    else ∃m',m' < m/\W (i+1) m' ys σ2 H5):=by
 refine ⟨fun i m ys σ H=>m=xs.length - i/\i<=xs.length/\Pv i ys σ H,⟨xs.length,by simp,vi _,h0⟩,?_⟩;rintro i m ys σ H ⟨rfl,hi,p⟩;have q:=hl i ys σ H hi p;by_cases hlt:i < xs.length
 ·refine .inr ⟨⟨xs,xs[i],q,by simp [hlt]⟩,fun x H' y=>?_⟩;obtain ⟨e,y⟩:=y;subst e;exact hs i x ys σ _ (y xs q) p
 ·have e:i=xs.length:=by lia
  subst e;exact .inl ⟨⟨xs,q,ki _⟩,hd ys σ H p⟩
theorem Js {a l:Addr} {kvs:List (Key × V)} {o:Obj} {g:TG} {tc:TT} {te:TE} {Q:VK} {H:Hp} {σ0:L2.St} (Pv:Nat->List V->L2.St->Hp->Prop) (h0:Pv 0 [] σ0 (upd H l (.lst []))) (hf:∀i ys σ H,Pv i ys σ H->H a=some (.frz o (.dK kvs)))
  (hs:∀i p k v ys σ H,kvs[i]?=some (k,v)->Pv i ys σ H->H p=none->g (.ref p) σ (upd H p (.tup [kV k,v])) fun σ2 H4=>tc σ2 H4 fun b H5=>if b=true then te σ2 H5 fun v H6=>H6 l=some (.lst ys)/\ys.length < sizeLine/\∃m',m' < kvs.length - i/\m'=kvs.length - (i+1)/\i+1<=kvs.length/\Pv (i+1) (ys++[v]) σ2 (upd H6 l (.lst (ys++[v])))
   else ∃m',m' < kvs.length - i/\m'=kvs.length - (i+1)/\i+1<=kvs.length/\Pv (i+1) ys σ2 H5) (hd:∀ys σ H,Pv kvs.length ys σ H->Q (.ref l) (upd H a (.dK kvs))):
  ∃W:Nat->Nat->List V->L2.St->Hp->Prop,(∃m,W 0 m [] σ0 (upd H l (.lst [])))/\∀i m ys σ' H2,W i m ys σ' H2->
   H2 a=some (.frz o (.dK kvs))/\(kvs.length<=i->Q (.ref l) (upd H2 a (.dK kvs)))/\(∀p k v,kvs[i]?=some (k,v)->H2 p=none->g (.ref p) σ' (upd H2 p (.tup [kV k,v])) fun σ2 H4=>tc σ2 H4 fun b H5=>if b=true then te σ2 H5 fun v H6=>H6 l=some (.lst ys)/\ys.length < sizeLine/\∃m',m' < m/\W (i+1) m' (ys++[v]) σ2 (upd H6 l (.lst (ys++[v])))
    else ∃m',m' < m/\W (i+1) m' ys σ2 H5):=by
 refine ⟨fun i m ys σ H=>m=kvs.length - i/\i<=kvs.length/\Pv i ys σ H,⟨kvs.length,by simp,vi _,h0⟩,?_⟩;rintro i m ys σ H ⟨rfl,hi,p⟩;refine ⟨hf i ys σ H p,fun hle=>?_,fun p' k v hkv hp=>hs i p' k v ys σ H hkv p hp⟩;have e:i=kvs.length:=by lia
 subst e;exact hd ys σ H p
noncomputable def Qp (rs:List Row) (place:Nat) (r:Row) (d:Int) (og:Option Gd):List (Str × Bool):=
 [("takes",decide (d < qd r)),("guard",ZN r og),("beneath",qF r d og),("end",inV (.int (rs.length:Nat)) ((ql rs place r d og).map (·.1)))]
noncomputable def Zc (rs:List Row) (place:Nat) (r:Row) (d:Int) (og:Option Gd):List Str:=((Qp rs place r d og).filter (·.2)).map (·.1)
theorem z0w (rs:List Row) (m:Int):QE (labV rs m)=true:=by
 unfold labV;cases zM rs m <;> rfl
theorem z2m (rs:List Row) (place:Nat) (r:Row) (d:Int) (og:Option Gd):((ql rs place r d og).map (·.1)).all QE=true:=by
 rw [List.all_map,List.all_eq_true];intro m hm;unfold ql at hm;split at hm
 ·cases hm
 ·split at hm
  ·cases hm
  ·rcases ya.mp hm with hm | hm
   ·rcases ya.mp hm with hm | hm
    ·unfold mv1 at hm;split at hm
     ·cases hm
     ·rw [kz.mp hm];rfl
    ·unfold mv2 at hm;split at hm
     ·rw [kz.mp hm];exact z0w _ _
     ·cases hm
   ·unfold mv3 at hm;split at hm
    ·cases og with
     | none=>cases hm
     | some g=>rw [kz.mp hm];exact z0w _ _
    ·cases hm
noncomputable def kvs4 (wb:List (Str × Bool)):List (Key × V):=wb.map fun p=>(Sum.inr p.1,V.bl p.2)
theorem z90 (a b c d:Bool):Qu [] (kvs4 [("takes",a),("guard",b),("beneath",c),("end",d)])=kvs4 [("takes",a),("guard",b),("beneath",c),("end",d)]:=by rfl
section
def z2U (K:kE):Sp:=fun vs H Q _=>∃l d place dep gv og rs r,vs=[.ref l,.ref d,.int (place:Nat),.int dep,gv]/\Z8 K H l d rs/\rs[place]?=some r/\Zv H gv og/\
 ∀f H',Same H H'->H f=none->H' f=some (.lst ((Zc rs place r dep og).map V.str))->Q (.ref f) H'
theorem sc49:zr ["code","labels","place","depth","guard","row","goals","found"] ["code","labels","place","depth","guard"] (zh (top 49)):=fsM
theorem z5f (D:zx K mg "words_lacking" (top 49)) (G:Glo mg) (FV:FN P w K mg base 2 "lacks_values" ["row","depth"] z15) (FG:FN P w K mg base 1 "lacks_guard" ["row","guard"] z16) (FB:FN P w K mg base 2 "takes_beneath" ["row","depth","guard"] z0m)
  (FM:FN P w K mg base 3 "moves" Vf (JA K)):FN P w K mg base 4 "words_lacking" Vf (z2U K):=by
 refine FN.o D sc49 fun f cdv A vY s H vs Q E hr h=>?_
 obtain ⟨l,d,place,dep,gv,og,rs,r,rfl,hC,hrp,hg,q⟩:=h;obtain ⟨⟨as,hS,hR⟩,hc,kvs,hd,hL⟩:=id hC;obtain ⟨ra,hra,har⟩:=hR.get' hrp;have hro:=hc.ok r (kM hrp);have hr2:=hr.mono (vV:2<=3);have hr1:=hr.mono (vV:1<=3);refine ⟨_,z8 (zK (i:=5) sc49.nd rfl (Or.inl rfl) (zZ zI (pv 0) (pv 2) (fun _ _=>rfl)))
  (z8 (QQ (N:=["goal","deeper","more"]) (nt:=3) (ix:=[]) (cl:=[]) (i:=6) rfl sc49.nd rfl (Or.inl rfl) (qz.plain vV vV rfl vV rfl)
   (jM (zw FM hr rfl (z6 (pv 0) (z6 (pv 1) (z6 (pv 2) (z6 (pv 3) (z6 (pv 4) z7)))))))
   (fun _ _ _ _=>Qh (K:=K) (n:=3) rfl rfl (zD (zC (i:=0) nd3 rfl (Or.inl rfl)) (zD (zC (i:=1) nd3 rfl (Or.inl rfl)) (zD (zC (i:=2) nd3 rfl (Or.inl rfl)) qC))))
   (fun _ _ _ _=>Zj) (fun _ _ _ _=>pv 0))
  (z8 (zK (i:=7) sc49.nd rfl (Or.inl rfl) (z3m (ZW zq (zw FV hr2 rfl (z6 (pv 5) (z6 (pv 3) z7))) (ZW zq (zw FG hr1 rfl (z6 (pv 5) (z6 (pv 4) z7)))
    (ZW zq (zw FB hr2 rfl (z6 (pv 5) (z6 (pv 3) (z6 (pv 4) z7)))) (ZW zq (qT jh (zH zW rfl G.len qA (z6 (pv 0) z7)) (pv 6) rfl) z3e)))) rfl rfl nofun (by decide)))
  (zi (zu (z1L (N:=["word","is_lacking"]) (nt:=2) (ix:=[]) (cl:=[]) rfl (qz.plain vV vV rfl vV rfl) (pv 7)
   (fun _ _ _ _=>Qh (K:=K) (n:=2) rfl rfl (zD (zC (i:=0) nd2 rfl (Or.inl rfl)) (zD (zC (i:=1) nd2 rfl (Or.inl rfl)) qC)))
   (fun _ _ _ _=>Qg (j8 (pv 1))) (fun _ _ _ _=>pv 0)))))),?_⟩
 symm
 refine ⟨l,_,_,_,rfl,rfl,hS,zy hra,?_⟩;refine ⟨l,d,place,dep,gv,og,rs,r,rfl,hC,hrp,hg,fun ml ts H1 s1 hn1 hm1 hM1=>?_⟩;generalize hms:ql rs place r dep og=ms at hM1;refine ⟨ml,rfl,⟨_,SqL.of hm1⟩,fun gl hgl=>qV (K:=K) (a:=ml) (xs:=ts.map V.ref) (fun i ys σ H2=>(∃a b c,σ=[a,b,c])/\ys=(ms.take i).map (·.1)/\Same H1 H2/\H2 gl=some (.lst ys))
  ⟨⟨none,none,none,rfl⟩,rfl,zo hgl _,zc⟩ (fun i ys σ H2 _ zz=>by obtain ⟨_,_,s2,_⟩:=zz;exact s2.seq (SqL.of hm1)) ?_ ?_⟩
 ·rintro i x ys σ H2 hi ⟨⟨a,b,c,rfl⟩,rfl,s2,hp2⟩;obtain ⟨t,m,rfl,hm,ht⟩:=(hM1.same fun a xs e=>s2 _ _ e).get hi;have hil:i < ts.length:=by have:=(kj.mp hi).1;simpa using this
  have hml:ts.length=ms.length:=Paired.length hM1;refine ⟨t,_,rfl,SqT.of ht,rfl,_,_,rfl,_,_,rfl,_,_,rfl,rfl,?_⟩;refine Zf ⟨hp2,?_,_,?_,rfl,?_,⟨_,_,_,rfl⟩,?_,?_,zc⟩
  ·rw [kq,vp];have h1:ms.length<=3:=by
    rw [<-hms];unfold ql mv1 mv2 mv3;repeat' split
    all_goals simp
   exact qL (by lia)
  ·rw [kq];lia
  ·rw [kq];lia
  ·rw [j3 hm,kP];rfl
  ·exact My.Same.upd s2 hgl _
 ·rintro ys σ H2 ⟨_,rfl,s2,hp2⟩;have hml:ts.length=ms.length:=Paired.length hM1;rw [kq,hml,vz] at hp2;have s02:=s1.trans s2;intro fd hfd;have hgl0:H gl=none:=s1.free hgl;have hfd0:H fd=none:=s02.free hfd;have s3:=zo hfd (.dK []);refine ⟨ra,r,dep,rfl,s3 _ _ (s02 _ _ har),hro,fun H4 s4=>?_⟩;have s24:=s3.trans s4;refine ⟨ra,r,gv,og,rfl,s24 _ _ (s02 _ _ har),(hg.same s02).same s24,?_⟩;refine ⟨ra,r,dep,gv,og,rfl,s24 _ _ (s02 _ _ har),hro,(hg.same s02).same s24,fun H5 s5=>?_⟩;have s25:=s24.trans s5;refine ⟨l,_,rfl,.inl (s25.seq (s02.seq hS)),gl,_,rfl,.inl (SqL.of (s25 _ _ hp2)),rfl,by rw [<-hms];exact z2m _ _ _ _ _,?_⟩;refine ⟨s5 _ _ (s4 _ _ zc),kvs4 (Qp rs place r dep og),?_,(by show 4<=15;decide),?_⟩
  ·unfold Qp kvs4;rw [hms,kq,hR.len];rfl
  ·rw [show Qu [] (kvs4 (Qp rs place r dep og))=kvs4 (Qp rs place r dep og) from z90 _ _ _ _];generalize hwb:Qp rs place r dep og=wb;have hwl:wb.length=4:=by rw [<-hwb];rfl
   have sH5:Same H H5:=s02.trans s25;refine ⟨fd,kvs4 wb,rfl,zc,fun o l2 hl2=>?_⟩;have nlf:l2≠fd:=fun z=>by rw [z,zc] at hl2;cases hl2
   have hl20:H l2=none:=sH5.free (by rw [zj nlf] at hl2;exact hl2);refine Js (fun i ys σ H2=>(∃a b,σ=[a,b])/\ys=((wb.take i).filter (·.2)).map (fun p=>V.str p.1)/\Same H H2/\H2 l2=some (.lst ys)/\H2 fd=some (.frz o (.dK (kvs4 wb)))) ⟨⟨none,none,rfl⟩,rfl,?_,zc,?_⟩ (fun i ys σ H2 h=>h.2.2.2.2) ?_ ?_
   ·intro b o e;rw [zj (ze e hl20),zj (ze e hfd0),zj (ze e hfd0)];exact sH5 _ _ e
   ·rw [zj nlf.symm];exact zc
   ·rintro i p k v ys σ H2 hi ⟨⟨a,b,rfl⟩,rfl,s2',hp2',hf2⟩ hp;have hil:i < 4:=by have:=(kj.mp hi).1;unfold kvs4 at this;rw [kq,hwl] at this;exact this
    have hkl:(kvs4 wb).length=4:=by unfold kvs4;rw [kq,hwl]
    obtain ⟨pw,hpw,ek⟩:∃pw:Str × Bool,wb[i]?=some pw/\(k,v)=(Sum.inr pw.1,V.bl pw.2):=by
     unfold kvs4 at hi;rw [vh] at hi;cases e:wb[i]? with
     | none=>rw [e] at hi;cases hi
     | some pw=>rw [e] at hi;exact ⟨pw,rfl,(kH hi).symm⟩
    cases ek;have npl:l2≠p:=ze hp2' hp;have npf:fd≠p:=ze hf2 hp;have sp:Same H (upd H2 p (.tup [kV (Sum.inr pw.1),V.bl pw.2])):=fun b o e=>by rw [zj (ze (s2' _ _ e) hp)];exact s2' _ _ e
    refine ⟨p,_,rfl,SqT.of zc,rfl,_,_,rfl,_,_,rfl,rfl,pw.2,rfl,?_⟩;have efil:(wb.take (i+1)).filter (·.2)=(wb.take i).filter (·.2)++(if pw.2=true then [pw] else []):=by
     rw [j3 hpw,List.filter_append];congr 1
     cases hh:pw.2 <;> simp [hh]
    refine ite2 (fun c=>?_) (fun c=>?_)
    ·rw [kG c] at efil;refine ⟨by rw [zj npl];exact hp2',?_,_,by lia,rfl,by lia,⟨_,_,rfl⟩,?_,?_,zc,?_⟩
     ·rw [kq];have h1:=vT (fun p:Str × Bool=>p.2) (wb.take i);rw [vp] at h1;exact qL (by lia)
     ·rw [efil,kP];rfl
     ·exact fun b o e=>by rw [zj (ze e hl20)];exact sp _ _ e
     ·rw [zj nlf.symm,zj npf];exact hf2
    ·rw [kF c,yc] at efil;exact ⟨_,by lia,rfl,by lia,⟨_,_,rfl⟩,by rw [efil],sp,by rw [zj npl];exact hp2',by rw [zj npf];exact hf2⟩
   ·rintro ys σ H2 ⟨_,rfl,s2',hp2',hf2⟩;refine q l2 _ (fun b o e=>?_) hl20 ?_
    ·rw [zj (ze e hfd0)];exact s2' _ _ e
    ·rw [zj nlf,hp2'];unfold Zc;rw [hwb,show (kvs4 wb).length=wb.length by unfold kvs4;rw [kq],vz,List.map_map];rfl
end
theorem sc51:zr ["code","labels","place","state","depth","guards"] ["code","labels","place","state"] (zh (top 51)):=fsM
noncomputable def z9E:Scope:=(((cpX ((zG (top 51)).getD 1 (.Pass ⟨0,0,0,0⟩))).bind cpS).getD (zh (top 51)))
noncomputable def cl52 (L:Addr):List (Str × Addr):=[("state",L+1+1+1),("place",L+1+1),("code",L+1)]
noncomputable def nm52:List (Str × NameKind):=[(".0",.local),("goal",.local),("deeper",.local),("more",.local),("guards_behind",.globalImplicit),("code",.cell),("place",.cell),("state",.cell)]
noncomputable def N52:List Str:=["goal","deeper","more","code","place","state"]
theorem cs52 {f:Addr} {cdv:Value} {A:Around} {vY:List Env} {s:Shared} {H:Hp} {E:XK}:
  qz (cxOf CX0 P w K mg base ["code","labels","place","state","depth","guards"] "next_states" (zh (top 51)) f cdv A vY s H E).nox N52 3 [0,2,3] z9E (cl52 s.heap.objs.size):=
 qz.mk3 (nm:=nm52) (ks:=(cl52 0).map Prod.fst) rfl rfl ⟨vV,vV⟩ rfl rfl rfl vV rfl rfl rfl rfl
abbrev GsIn (H:Hp):List Addr->List Gd->Prop:=Paired fun a p=>H a=some (.tup [.int p.1,.int p.2])
def GsAt (K:kE) (H:Hp) (g:Addr) (gs:List Gd):Prop:=∃as,SqT K H g (as.map V.ref)/\GsIn H as gs
abbrev Sta:=Int × List Gd
def StA (K:kE) (H:Hp) (a:Addr) (s:Sta):Prop:=∃g,SqT K H a [.int s.1,.ref g]/\GsAt K H g s.2
theorem GsIn.same {H H':Hp} {as:List Addr} {gs:List Gd} (h:GsIn H as gs) (s:Same H H'):GsIn H' as gs:=Paired.mapP h fun _ _ e=>s _ _ e
theorem GsAt.same {K:kE} {H H':Hp} {g:Addr} {gs:List Gd} (h:GsAt K H g gs) (s:Same H H'):GsAt K H' g gs:=let ⟨as,h1,h2⟩:=h;⟨as,qx s h1,h2.same s⟩
theorem StA.same {K:kE} {H H':Hp} {a:Addr} {st:Sta} (h:StA K H a st) (s:Same H H'):StA K H' a st:=let ⟨g,h1,h2⟩:=h;⟨g,qx s h1,h2.same s⟩
theorem GsIn.append {H:Hp} {as bs:List Addr} {gs hs:List Gd} (h:GsIn H as gs) (k:GsIn H bs hs):GsIn H (as++bs) (gs++hs):=z1I h k
theorem GsIn.dropLast {H:Hp} {as:List Addr} {gs:List Gd} (h:GsIn H as gs):GsIn H as.dropLast gs.dropLast:=by
 induction h with
 | nil=>exact .nil
 | cons h t ih=>
  cases t with
  | nil=>exact .nil
  | cons h2 t=>exact .cons h ih
theorem GsIn.last {H:Hp} {as:List Addr} {gs:List Gd} (h:GsIn H as gs):(as=[]/\gs=[])\/∃bs a g,as=bs++[a]/\gs.getLast?=some g/\H a=some (.tup [.int g.1,.int g.2]):=by
 induction h with
 | nil=>exact .inl ⟨rfl,rfl⟩
 | @cons a g as gs h t ih=>
  rcases ih with ⟨rfl,rfl⟩ | ⟨bs,a',g',e1,e2,e3⟩
  ·exact .inr ⟨[],a,g,rfl,rfl,h⟩
  ·refine .inr ⟨a :: bs,a',g',by rw [e1];rfl,?_,e3⟩;cases gs with
   | nil=>cases e2
   | cons x y=>rw [List.getLast?_cons_cons];exact e2
section
variable {X:Cx}
def zaa (K:kE):R2:=fun x y H Q=>∃a b xs ys,x=.ref a/\y=.ref b/\SqT K H a xs/\SqT K H b ys/\ys≠[]/\xs.length+ys.length<=sizeLine/\(xs=[]->Q (.ref b) H)/\(xs≠[]->∀p,H p=none->Q (.ref p) (upd H p (.tup (xs++ys))))
theorem z71:OpR X (binaryOp .Add) (zaa X.K):=by
 intro vX s σ H x y v u Q I rx ry h;obtain ⟨a,b,xs,ys,rfl,rfl,ha,hb,hy,hz,q1,q2⟩:=h;by_cases hx:xs=[]
 ·subst hx;cases rx;cases ry;obtain ⟨its,r1,ht,_⟩:=I.tuple ha;obtain ⟨its2,r2,ht2,_⟩:=I.tuple hb;cases r1;obtain ⟨⟨cls,dd,data,sl⟩,ho,hc,n,hd⟩:=id ht;obtain ⟨⟨cls2,dd2,data2,sl2⟩,ho2,hc2,n2,hd2⟩:=id ht2;simp only at hc hd hc2 hd2;subst hc hd hc2 hd2;exact concat_meets ⟨_,ho,rfl⟩ ⟨_,ho2,rfl⟩ noFill_tuple_add seq_tuple_add PySem.F.slot_tuple_add PySem.F.entry_tuple_add (PySem.F.args_tuple_add_2 _ _)
   (tuple_addW0 a b _ _ n n2 dd dd2 sl sl2 (by simp)) ⟨ho,ho2,.ref b,H,I,rfl,q1 rfl⟩
 ·exact z3p vX s σ H _ _ v u Q I rx ry ⟨a,b,xs,ys,rfl,rfl,ha,hb,hx,hz,fun z=>vd z hy,fun _=>q2 hx⟩
theorem z5U {A:Around} {s:Shared} {l b:Addr} {vs ws:List Value} (hl:s.heap.IsTuple l vs.toArray) (hb:s.heap.IsTuple b ws.toArray) (hn:vs.length=ws.length) (hu:A.units < cLine)
  (he:∀j (h1:j < vs.length) (h2:j < ws.length),SeqAt.EqAt A.in1 s vs[j] ws[j] true):SeqAt.EqAt A s (.ref l) (.ref b) true:=by
 by_cases z:l=b
 ·subst z;exact SeqAt.EqAt.same _
 ·refine SeqAt.EqAt.of_refs z ?_;have:=SeqAt.RcAt.tuples (e:=fun _=>true) hl hb hu (fun j h1 h2=>by
   have:=he j (by simpa using h1) (by simpa using h2)
   simpa using this)
  have e:((List.range (min vs.toArray.size ws.toArray.size)).all (fun _=>true)&&vs.toArray.size == ws.toArray.size)=true:=by simp [hn]
  rw [e] at this;exact this
theorem z6x:∀{xs:List V} {vs ws:List Value} {A:Around} {s:Shared},Vals xs vs->Vals xs ws->(∀x∈xs,QE x=true/\eqV x x=true)->∀j (h1:j < vs.length) (h2:j < ws.length),SeqAt.EqAt A s vs[j] ws[j] true
 :=by
 intro xs vs ws A s r;induction r generalizing ws with
 | nil=>intro _ _ j h1 _;exact vd h1 (Nat.not_lt_zero _)
 | @cons x v xs vs r t ih=>
  intro r2 h j h1 h2;cases r2 with
  | cons r' t'=>
   cases j with
   | zero=>
    have e:=z3U (A:=A) (s:=s) r r' (h x (kY ..)).1 (h x (kY ..)).1;rw [(h x (kY ..)).2] at e;exact e
   | succ j=>exact ih t' (fun y hy=>h y (kZ _ hy)) j (by simpa using h1) (by simpa using h2)
theorem z5a {vX:List (Addr × Obj)} {σ:L2.St} {H:Hp} {s:Shared} {A:Around} {a b:Addr} {g:Gd} (I:Inv X vX σ H s) (ha:H a=some (.tup [.int g.1,.int g.2])) (hb:H b=some (.tup [.int g.1,.int g.2])) (hu:A.units < cLine):SeqAt.EqAt A s (.ref a) (.ref b) true:=by
 obtain ⟨vs,r1,t1,_⟩:=I.tuple (SqT.of ha);obtain ⟨ws,r2,t2,_⟩:=I.tuple (SqT.of hb);exact z5U t1 t2 (by rw [<-r1.length,<-r2.length]) hu fun j h1 h2=>z6x r1 r2 (fun x hx=>by
  rcases kJ.mp hx with rfl | hx
  ·exact ⟨rfl,by show (g.1 == g.1)=true;simp⟩
  ·rw [kz.mp hx];exact ⟨rfl,by show (g.2 == g.2)=true;simp⟩) j h1 h2
theorem z3J {vX:List (Addr × Obj)} {σ:L2.St} {H:Hp} {s:Shared} {A:Around} (I:Inv X vX σ H s) (hu:A.units < cLine):∀{as bs:List Addr} {gs:List Gd} {vs ws:List Value},GsIn H as gs->GsIn H bs gs->Vals (as.map V.ref) vs->Vals (bs.map V.ref) ws->∀j (h1:j < vs.length) (h2:j < ws.length),SeqAt.EqAt A s vs[j] ws[j] true
 :=by
 intro as bs gs vs ws h;induction h generalizing bs vs ws with
 | nil=>intro _ r _ j h1 _;cases r;exact vd h1 (Nat.not_lt_zero _)
 | cons h t ih=>
  intro g2 r r2 j h1 h2;cases g2 with
  | cons h' t'=>cases r with
   | cons r rr=>cases r2 with
    | cons r' rr'=>
     cases j with
     | zero=>
      cases r;cases r';exact z5a I h h' hu
     | succ j=>exact ih t' rr rr' j (by simpa using h1) (by simpa using h2)
theorem zal {vX:List (Addr × Obj)} {σ:L2.St} {H:Hp} {s:Shared} {A:Around} {a b:Addr} {gs:List Gd} (I:Inv X vX σ H s) (ha:GsAt X.K H a gs) (hb:GsAt X.K H b gs) (hu:A.units+1 < cLine):SeqAt.EqAt A s (.ref a) (.ref b) true:=by
 obtain ⟨as,h1,h2⟩:=ha;obtain ⟨bs,h3,h4⟩:=hb;obtain ⟨vs,r1,t1,_⟩:=I.tuple h1;obtain ⟨ws,r2,t2,_⟩:=I.tuple h3;have e1:=Paired.length h2;have e2:=Paired.length h4;refine z5U t1 t2 ?_ (by lia) (z3J I (by show A.units+1 < cLine;exact hu) h2 h4 r1 r2);rw [<-r1.length,<-r2.length,kq,kq,e1,e2]
def za8 (K:kE):R2:=fun x y H Q=>∃a b st,x=.ref a/\y=.ref b/\StA K H a st/\StA K H b st/\Q (.bl false) H
theorem z6X (hu:X.A.units+3 < cLine):OpR X (compareOp .NotEq) (za8 X.K):=by
 intro vX s σ H x y v u Q I rx ry h;obtain ⟨a,b,st,rfl,rfl,⟨g,h1,h2⟩,⟨g',h3,h4⟩,q⟩:=h;cases rx;cases ry;obtain ⟨vs,r1,t1,_⟩:=I.tuple h1;obtain ⟨ws,r2,t2,_⟩:=I.tuple h3;have e:(!((List.range (min vs.toArray.size ws.toArray.size)).all (fun _=>true)&&vs.toArray.size == ws.toArray.size))=false:=by
  have z1:=r1.length;have z2:=r2.length;have z:vs.length=ws.length:=z1.symm.trans z2;simp only [kK];rw [z];simp
 refine SeqAt.RcNeAt.tuples (e:=fun _=>true) t1 t2 (by lia) (fun j j1 j2=>?_) X.prog X.w X.xe _ ⟨.bl _,H,I,rfl,by rw [e];exact q⟩;cases r1 with
 | cons ra rb=>
  cases r2 with
  | cons rc rd=>
   cases rb with
   | cons re rf=>
    cases rd with
    | cons rg rh=>
     cases rf;cases rh;match j,j1,j2 with
     | 0,_,_=>
      have e:=z3U (A:=X.A.in1) (s:=s) ra rc rfl rfl;rw [show eqV (V.int st.1) (V.int st.1)=true by show (st.1 == st.1)=true;simp] at e;exact e
     | 1,_,_=>
      cases re;cases rg;exact zal I h2 h4 (by show X.A.units+1+1 < cLine;lia)
     | j+2,j1,_=>exact vd j1 (by simp)
end
noncomputable def zQ (r:Row) (d:Int) (gs:List Gd) (more:Int):List Gd:=if more=1 then gs++[(argM r.arg,d)] else if more= -1 then gs.dropLast else gs
section
def spGb (K:kE):Sp:=fun vs H Q _=>∃ra st r d g gs more,vs=[.ref ra,.ref st,.int more]/\H ra=some (.tup (tupV r))/\SqT K H st [.int d,.ref g]/\GsAt K H g gs/\gs.length<=1000/\(more=1->∃m,r.arg=.int m)/\(more= -1->gs≠[])/\
 ∀g' H',Same H H'->GsAt K H' g' (zQ r d gs more)->Q (.ref g') H'
theorem sc50:zr ["row","state","more","depth","guards"] ["row","state","more"] (zh (top 50)):=fsM
theorem z5E {α:Type} (xs:List V) (h:xs≠[]):cutV xs none (some (-1))=xs.dropLast/\¬(HT.sIx xs.length 0 none=0/\HT.sIx xs.length xs.length (some (-1))=xs.length):=by
 have hp:0 < xs.length:=List.length_pos_iff.mpr h;have e:HT.sIx xs.length xs.length (some (-1))=xs.length - 1:=by
  show (if (-1:Int) < 0 then ((-1:Int)+(xs.length:Int)).toNat else min (-1:Int).toNat xs.length)=_;rw [kG (by decide)];lia
 refine ⟨?_,fun z=>by rw [e] at z;lia⟩;unfold cutV;rw [e];show (xs.drop 0).take (xs.length - 1 - 0)=_;rw [List.drop_zero,Nat.sub_zero,List.dropLast_eq_take]
theorem zav (D:zx K mg "guards_behind" (top 50)):FN P w K mg base 1 "guards_behind" ["row","state","more"] (spGb K):=by
 refine FN.o D sc50 fun f cdv A vY s H vs Q E hr h=>?_
 obtain ⟨ra,st,r,d,g,gs,more,rfl,har,hst,⟨as,hga,hgs⟩,hz,h1,h2,q⟩:=h;refine ⟨_,z8 (jq (pv 1) (jr rfl (zD (zC (i:=3) sc50.nd rfl (Or.inl rfl)) (zD (zC (i:=4) sc50.nd rfl (Or.inl rfl)) qC))))
  (z8 (zY (zt qM (pv 2) zl (zA _)) (zi (zu (qa z71 (pv 4) (qb (z6 (qb (z6 (zZ qN (pv 0) zl (fun _ _=>rfl)) (z6 (pv 3) z7))) z7))))) zE)
  (zi (zu (j6 (zt qM (pv 2) (ZL jy zl) (zA _)) (JH z68 (pv 4) z1e (z1d (ZL jy zl))) (pv 4))))),?_⟩
 symm
 refine ⟨st,_,rfl,hst,rfl,_,_,rfl,_,_,rfl,rfl,?_⟩;refine ⟨rfl,_,rfl,?_⟩;have hal:as.length=gs.length:=Paired.length hgs;unfold zQ at q;refine ite2 (fun c=>?_) (fun c=>?_)
 ·have e:more=1:=by have:=kI c;injection this
  obtain ⟨m,em⟩:=h1 e;rw [kG e,em] at q;refine ⟨ra,_,_,_,rfl,rfl,SqT.of har,zy (j:=1) rfl,vW,fun p hp=>⟨vW,fun p2 hp2=>?_⟩⟩;have s1:=zo hp (.tup [r.arg,.int d]);have s2:=zo hp2 (.tup [.ref p]);have hp':(upd (upd H p (.tup [r.arg,.int d])) p2 (.tup [.ref p])) p=some (.tup [.int (argM (.int m)),.int d]):=by
   rw [<-em];have:=s2 _ _ (zc (H:=H) (a:=p) (o:=.tup [r.arg,.int d]))
   rw [this,em];rfl
  have s12:=s1.trans s2;refine ⟨g,p2,as.map V.ref,[.ref p],rfl,rfl,qx s12 hga,SqT.of zc,nofun,by rw [kq];show as.length+1<=_;rw [sizeLine_eq];lia,fun z=>?_,fun z p3 hp3=>?_⟩
  ·have za:as=[]:=by simpa using z
   subst za;cases hgs;exact q p2 _ s12 ⟨[p],SqT.of zc,.cons hp' .nil⟩
  ·have s3:=zo hp3 (.tup (as.map V.ref++[.ref p]));exact q p3 _ (s12.trans s3) ⟨as++[p],SqT.of (by rw [kP];exact zc),((hgs.same s12).same s3).append (.cons (s3 _ _ hp') .nil)⟩
 ·have e:¬more=1:=fun z=>c (by rw [z];rfl)
  rw [kF e] at q;refine ⟨1,rfl,rfl,_,rfl,?_⟩;refine ite2 (fun c2=>?_) (fun c2=>?_)
  ·have e2:more= -1:=by have:=kI c2;injection this
   rw [kG e2] at q;have hne:as.map V.ref≠[]:=fun z=>h2 e2 (by
    have za:as=[]:=by simpa using z
    rw [za] at hal;exact List.length_eq_zero_iff.mp hal.symm)
   obtain ⟨k1,k2⟩:=z5E (α:=V) _ hne;refine ⟨1,rfl,-1,rfl,g,_,rfl,hga,k2,fun p hp=>?_⟩;rw [k1];have s1:=zo hp (.tup (as.map V.ref).dropLast);refine q p _ s1 ⟨as.dropLast,SqT.of (by rw [List.map_dropLast];exact zc),(hgs.dropLast).same s1⟩
  ·have e2:¬more= -1:=fun z=>c2 (by rw [z];rfl)
   rw [kF e2] at q;exact (q g H (Same.refl _) ⟨as,hga,hgs⟩)
end
noncomputable def isT:HO->Bool
 | .tup _=>true
 | .frz _ _=>true
 | _=>false
def qB (H H':Hp):Prop:=∀b o,H b=some o->isT o=true->H' b=some o
theorem qB.trans {H H1 H2:Hp} (a:qB H H1) (b:qB H1 H2):qB H H2:=fun c o h t=>b c o (a c o h t) t
theorem qB.of {H H':Hp} (s:Same H H'):qB H H':=fun b o h _=>s b o h
theorem qB.upd {H:Hp} {l:Addr} {o u:HO} (h:H l=some u) (hu:isT u=false):qB H (upd H l o):=fun b x e t=>by
 rw [zj (fun z=>by rw [z,h] at e;cases e;rw [hu] at t;cases t)];exact e
theorem jf {K:kE} {H H':Hp} {a:Addr} {xs:List V} (s:qB H H') (h:SqT K H a xs):SqT K H' a xs:=by
 rcases h with (h | ⟨o,h⟩) | h
 ·exact .inl (.inl (s _ _ h rfl))
 ·exact .inl (.inr ⟨o,s _ _ h rfl⟩)
 ·exact .inr h
theorem GsIn.keep {H H':Hp} {as:List Addr} {gs:List Gd} (h:GsIn H as gs) (s:qB H H'):GsIn H' as gs:=Paired.mapP h fun _ _ e=>s _ _ e rfl
theorem GsAt.keep {K:kE} {H H':Hp} {g:Addr} {gs:List Gd} (h:GsAt K H g gs) (s:qB H H'):GsAt K H' g gs:=let ⟨as,h1,h2⟩:=h;⟨as,jf s h1,h2.keep s⟩
theorem StA.keep {K:kE} {H H':Hp} {a:Addr} {st:Sta} (h:StA K H a st) (s:qB H H'):StA K H' a st:=let ⟨g,h1,h2⟩:=h;⟨g,jf s h1,h2.keep s⟩
abbrev NxIn (K:kE) (H:Hp):List Addr->List (V × Sta)->Prop:=Paired fun t n=>∃a,H t=some (.tup [n.1,.ref a])/\StA K H a n.2
theorem NxIn.keep {K:kE} {H H':Hp} {ts:List Addr} {ns:List (V × Sta)} (h:NxIn K H ts ns) (s:qB H H'):NxIn K H' ts ns:=Paired.mapP h fun _ _ z=>z.elim fun a q=>⟨a,s _ _ q.1 rfl,q.2.keep s⟩
theorem NxIn.append {K:kE} {H:Hp} {as bs:List Addr} {gs hs:List (V × Sta)} (h:NxIn K H as gs) (k:NxIn K H bs hs):NxIn K H (as++bs) (gs++hs):=z1I h k
theorem NxIn.get {K:kE} {H:Hp} {as:List Addr} {rs:List (V × Sta)} {i:Nat} {x:V} (h:NxIn K H as rs) (e:(as.map V.ref)[i]?=some x):∃t n a,x=.ref t/\rs[i]?=some n/\H t=some (.tup [n.1,.ref a])/\StA K H a n.2:=by
 obtain ⟨t,n,h1,h2,a,h3⟩:=z3c h e;exact ⟨t,n,a,h1,h2,h3⟩
noncomputable def Zm (rs:List Row) (place:Nat) (r:Row) (st:Sta):List (V × Sta):=(ql rs place r st.1 st.2.getLast?).map fun m=>(m.1,(m.2.1,zQ r st.1 st.2 m.2.2))
theorem z5b {x:Str} (h:tabI zS x=1):x="try":=by
 unfold tabI at h;cases e:zS.lookup x with
 | none=>rw [e] at h;cases h
 | some v=>
  have hm:=vc e;rw [e] at h;simp only [zS,kJ,Prod.mk.injEq,kC,or_false] at hm;rcases hm with ⟨z,_⟩ | ⟨_,z⟩
  ·exact z
  ·rw [z] at h;cases h
theorem z5c {x:Str} (h:tabI zS x= -1):x="endtry":=by
 unfold tabI at h;cases e:zS.lookup x with
 | none=>rw [e] at h;cases h
 | some v=>
  have hm:=vc e;rw [e] at h;simp only [zS,kJ,Prod.mk.injEq,kC,or_false] at hm;rcases hm with ⟨_,z⟩ | ⟨z,_⟩
  ·rw [z] at h;cases h
  ·exact z
theorem z2l {rs:List Row} {place:Nat} {r:Row} {d:Int} {gs:List Gd} (hok:Z3 r):∀m∈ql rs place r d gs.getLast?,(m.2.2=1->∃k,r.arg=.int k)/\(m.2.2= -1->gs≠[]):=by
 intro m hm;unfold ql at hm;split at hm
 ·cases hm
 ·split at hm
  ·cases hm
  ·rename_i _ hG
   rcases ya.mp hm with hm | hm
   ·rcases ya.mp hm with hm | hm
    ·unfold mv1 at hm;split at hm
     ·cases hm
     ·rw [kz.mp hm];refine ⟨fun h=>?_,fun h=>?_⟩
      ·have e:=z5b h;obtain ⟨s,hs,hfit,_⟩:=hok.parts;rw [e,show qg "try"=some ("mark":Str) by trivial] at hs;cases hs;obtain ⟨k,hk,_⟩:=Q1 hfit;exact ⟨k,hk⟩
      ·have e:=z5c h;intro z;subst z;exact hG (by unfold ZN;rw [e];decide)
    ·unfold mv2 at hm;split at hm
     ·rw [kz.mp hm];exact ⟨fun h=>vd (show (0:Int)=1 from h) (by decide),fun h=>vd (show (0:Int)= -1 from h) (by decide)⟩
     ·cases hm
   ·unfold mv3 at hm;split at hm
    ·cases e:gs.getLast? with
     | none=>rw [e] at hm;cases hm
     | some g=>
      rw [e] at hm;rw [kz.mp hm];refine ⟨fun h=>vd (show (-1:Int)=1 from h) (by decide),fun _ z=>?_⟩;subst z;cases e
    ·cases hm
theorem z56 {X:Cx} {K:kE} (hK:X.K=K):IxR X (rIxL K):=by subst hK;exact zI
theorem z0t (rs:List Row) (place:Nat) (r:Row) (d:Int) (og:Option Gd):(ql rs place r d og).length<=3:=by
 unfold ql mv1 mv2 mv3;repeat' split
 all_goals simp
theorem nd52:N52.Nodup:=vV
section
theorem GsAt.guardV {H:Hp} {g:Addr} {gs:List Gd} (h:GsAt K H g gs):∃as:List Addr,SqT K H g (as.map V.ref)/\((as=[]/\Zv H .non gs.getLast?)\/∃bs a,as=bs++[a]/\Zv H (.ref a) gs.getLast?):=by
 obtain ⟨as,h1,h2⟩:=h;refine ⟨as,h1,?_⟩;rcases h2.last with ⟨e1,e2⟩ | ⟨bs,a,g',e1,e2,e3⟩
 ·exact .inl ⟨e1,by rw [e2];rfl⟩
 ·exact .inr ⟨bs,a,e1,by rw [e2];exact ⟨a,rfl,e3⟩⟩
def z4z (K:kE):Sp:=fun vs H Q _=>∃(g:Addr) (gs:List Gd),vs=[.ref g]/\GsAt K H g gs/\∀gv,Zv H gv gs.getLast?->Q gv H
theorem up2 (F:FN P w K mg base 1 "uppermost" ["guards"] (spUp K)):FN P w K mg base 1 "uppermost" ["guards"] (z4z K):=F.imp fun vs H Q E ⟨g,gs,e,h,q⟩=>by
 obtain ⟨as,h1,h2⟩:=h.guardV;refine ⟨g,as,e,h1,?_⟩;rcases h2 with ⟨a,b⟩ | ⟨bs,a,e1,b⟩
 ·exact .inl ⟨a,q _ b⟩
 ·exact .inr ⟨bs,a,e1,q _ b⟩
def z1B (K:kE):Sp:=fun vs H Q _=>∃l d place sa st rs r,vs=[.ref l,.ref d,.int (place:Nat),.ref sa]/\Z8 K H l d rs/\rs[place]?=some r/\StA K H sa st/\st.2.length<=1000/\
 ∀f ts H',Same H H'->H f=none->H' f=some (.lst (ts.map V.ref))->NxIn K H' ts (Zm rs place r st)->Q (.ref f) H'
def NxW (K:kE) (l:Addr) (place:Nat) (sa:Addr) (r:Row) (st:Sta) (ms:List Mv) (H1:Hp) (nl:Addr) (i:Nat) (ys:List V) (σ:L2.St) (H2:Hp):Prop:=(∃a b c,σ=[a,b,c,some (.ref l),some (.int (place:Nat)),some (.ref sa)])/\∃us:List Addr,ys=us.map V.ref/\NxIn K H2 us ((ms.take i).map fun m=>(m.1,(m.2.1,zQ r st.1 st.2 m.2.2)))/\Same H1 H2/\H2 nl=some (.lst ys)
theorem z7x (D:zx K mg "next_states" (top 51)) (FU:FN P w K mg base 1 "uppermost" ["guards"] (z4z K)) (FM:FN P w K mg base 3 "moves" Vf (JA K)) (FB:FN P w K mg base 1 "guards_behind" ["row","state","more"] (spGb K)):
  FN P w K mg base 4 "next_states" Ve (z1B K):=by
 refine FN.o D sc51 fun f cdv A vY s H vs Q E hr h=>?_
 obtain ⟨l,d,place,sa,st,rs,r,rfl,hC,hrp,⟨g,hsa,hgs⟩,hz,q⟩:=h;have hr1:=hr.mono (vV:1<=3);refine ⟨_,z8 (jq (pv 3) (jr rfl (zD (zC (i:=4) sc51.nd rfl (Or.inl rfl)) (zD (zC (i:=5) sc51.nd rfl (Or.inl rfl)) qC))))
  (zi (zu (je (N:=N52) (nt:=3) (ix:=[0,2,3]) (cl:=cl52 s.heap.objs.size) rfl cs52 (jM (zw FM hr rfl (z6 (pv 0) (z6 (pv 1) (z6 (pv 2) (z6 (pv 4) (z6 (zw FU hr1 rfl (z6 (pv 5) z7)) z7)))))))
   (fun _ _ _ _=>Qh (K:=K) (n:=3) rfl rfl (zD (zC (i:=0) nd52 rfl (Or.inl rfl)) (zD (zC (i:=1) nd52 rfl (Or.inl rfl)) (zD (zC (i:=2) nd52 rfl (Or.inl rfl)) qC))))
   (fun _ _ _ _=>Zj)
   (fun _ _ _ _=>qb (z6 (pv 0) (z6 (qb (z6 (pv 1) (z6 (zw FB hr1 rfl (z6 (zZ (z56 (K:=K) rfl) (pv 3) (pv 4) (fun _ _=>rfl)) (z6 (pv 5) (z6 (pv 2) z7)))) z7))) z7)))))),?_⟩
 symm
 refine ⟨sa,_,rfl,hsa,rfl,_,_,rfl,_,_,rfl,rfl,?_⟩;refine ⟨g,st.2,rfl,hgs,fun gv hgv=>?_⟩;refine ⟨l,d,place,st.1,gv,_,rs,r,rfl,hC,hrp,hgv,fun ml ts H1 s1 hn1 hm1 hM1=>?_⟩;obtain ⟨⟨as,hS,hR⟩,hc,_⟩:=id hC;have hro:=hc.ok r (kM hrp);have hmm:=z2l (rs:=rs) (place:=place) (d:=st.1) (gs:=st.2) hro;have hlen:=z0t rs place r st.1 st.2.getLast?;unfold Zm at q;generalize hms:ql rs place r st.1 st.2.getLast?=ms at hM1 hmm hlen q;refine ⟨ml,rfl,⟨_,SqL.of hm1⟩,fun nl hnl=>qV (K:=K) (a:=ml) (xs:=ts.map V.ref) (NxW K l place sa r st ms H1 nl)
  ⟨⟨none,none,none,rfl⟩,[],rfl,.nil,zo hnl _,zc⟩ (fun i ys σ H2 _ zz=>by obtain ⟨_,_,_,_,s2,_⟩:=zz;exact s2.seq (SqL.of hm1)) ?_ ?_⟩
 ·rintro i x ys σ H2 hi ⟨⟨a,b,c,rfl⟩,us,rfl,hN,s2,hp2⟩;obtain ⟨t,m,rfl,hm,ht⟩:=(hM1.same fun a xs e=>s2 _ _ e).get hi;have hil:i < ts.length:=by have:=(kj.mp hi).1;simpa using this
  have hml:ts.length=ms.length:=Paired.length hM1;have hul:us.length=(ms.take i).length:=by have:=Paired.length hN;simpa using this
  have sH:=s1.trans s2;obtain ⟨ra,hra,har⟩:=hR.get' hrp;obtain ⟨mm1,mm2⟩:=hmm m (kM hm);refine ⟨t,_,rfl,SqT.of ht,rfl,_,_,rfl,_,_,rfl,_,_,rfl,rfl,?_⟩;refine Zf ⟨l,_,_,_,rfl,rfl,sH.seq hS,zy hra,ra,sa,r,st.1,g,st.2,m.2.2,rfl,sH _ _ har,qx sH hsa,hgs.same sH,hz,mm1,mm2,fun g' H3 s3 hg'=>?_⟩;refine ⟨vW,fun p1 hp1=>⟨vW,fun p2 hp2'=>?_⟩⟩;have t1:=zo hp1 (.tup [.int m.2.1,.ref g']);have t2:=zo hp2' (.tup [m.1,.ref p1]);have t12:=t1.trans t2;have sE:=s3.trans t12;have hnl5:=sE _ _ hp2;refine ⟨hnl5,?_,_,by rw [kq];lia,rfl,by rw [kq];lia,⟨_,_,_,rfl⟩,us++[p2],by rw [kP];rfl,?_,?_,zc⟩
  ·rw [kq,hul,vp];exact qL (by lia)
  ·rw [j3 hm,kP];have kT:=qB.upd (o:=.lst (us.map V.ref++[.ref p2])) hnl5 rfl;refine NxIn.append ((hN.keep (qB.of sE)).keep kT) (.cons ⟨p1,kT _ _ zc rfl,StA.keep ⟨g',SqT.of (t2 _ _ zc),hg'.same t12⟩ kT⟩ .nil)
  ·exact fun b o e=>by rw [zj (ze e hnl)];exact sE _ _ (s2 _ _ e)
 ·rintro ys σ H2 ⟨_,us,rfl,hN,s2,hp2⟩;have hml:ts.length=ms.length:=Paired.length hM1;rw [kq,hml,vz] at hN;exact q nl us H2 (s1.trans s2) (s1.free hnl) hp2 hN
def spSw (K:kE):Sp:=fun vs H Q _=>∃l d place sa st rs r,vs=[.ref l,.ref d,.int (place:Nat),.ref sa]/\Z8 K H l d rs/\rs[place]?=some r/\StA K H sa st/\
 ∀f H',Same H H'->H f=none->H' f=some (.lst ((Zc rs place r st.1 st.2.getLast?).map V.str))->Q (.ref f) H'
theorem sc52:zr ["code","labels","place","state"] ["code","labels","place","state"] (zh (top 52)):=fsM
theorem zap (D:zx K mg "state_words" (top 52)) (FU:FN P w K mg base 1 "uppermost" ["guards"] (z4z K)) (FW:FN P w K mg base 4 "words_lacking" Vf (z2U K)):FN P w K mg base 5 "state_words" Ve (spSw K):=by
 refine FN.o D sc52 fun f cdv A vY s H vs Q E hr h=>?_
 obtain ⟨l,d,place,sa,st,rs,r,rfl,hC,hrp,⟨g,hsa,hgs⟩,q⟩:=h;refine ⟨_,zi (zu (zw FW hr rfl (z6 (pv 0) (z6 (pv 1) (z6 (pv 2) (z6 (zZ qN (pv 3) zl (fun _ _=>rfl)) (z6 (zw FU (hr.mono (by decide)) rfl (z6 (zZ qN (pv 3) zl (fun _ _=>rfl)) z7)) z7))))))),?_⟩
 symm
 refine ⟨sa,_,_,_,rfl,rfl,hsa,zy (j:=0) rfl,sa,_,_,_,rfl,rfl,hsa,zy (j:=1) rfl,g,st.2,rfl,hgs,fun gv hgv=>?_⟩;exact ⟨l,d,place,st.1,gv,_,rs,r,rfl,hC,hrp,hgv,q⟩
end
abbrev Fnd:=List (Option Sta)
noncomputable def Qf:List (V × Sta)->Fnd->List Nat->Option (Fnd × List Nat)
 | [],f,w=>some (f,w)
 | (x,s) :: r,f,w=>match x with
  | .int j=>if 0<=j then (match f[j.toNat]? with
   | some none=>Qf r (f.set j.toNat (some s)) (w++[j.toNat])
   | some (some s')=>if s'=s then Qf r f w else none
   | none=>none) else none
  | _=>none
noncomputable def bfs (rs:List Row):Nat->Fnd->List Nat->Option Fnd
 | _,f,[]=>some f
 | 0,_,_ :: _=>none
 | n+1,f,p :: w=>match rs[p]?,f[p]? with
  | some r,some (some s)=>if (Zc rs p r s.1 s.2.getLast?).isEmpty=true/\s.2.length<=1000 then (match Qf (Zm rs p r s) f w with
   | some (f',w')=>bfs rs n f' w'
   | none=>none) else none
  | _,_=>none
noncomputable def Zg (rs:List Row):Option Fnd:=bfs rs 300 ((List.replicate rs.length none).set 0 (some (0,[]))) [0]
abbrev qR (K:kE) (H:Hp):List V->Fnd->Prop:=Paired fun x o=>match o with
 | none=>x=.non
 | some st=>∃a,x=.ref a/\StA K H a st
theorem qR.keep {K:kE} {H H':Hp} {xs:List V} {os:Fnd} (h:qR K H xs os) (s:qB H H'):qR K H' xs os:=Paired.mapP h fun _ o z=>by
 cases o with
 | none=>exact z
 | some st=>
  obtain ⟨a,h1,h2⟩:=z;exact ⟨a,h1,h2.keep s⟩
theorem qR.get {K:kE} {H:Hp} {xs:List V} {os:Fnd} {j:Nat} {o:Option Sta} (h:qR K H xs os):os[j]?=some o->∃x,xs[j]?=some x/\(match o with | none=>x=.non | some st=>∃a,x=.ref a/\StA K H a st):=z8G h
theorem qR.set {K:kE} {H:Hp} {a:Addr} {st:Sta} (hs:StA K H a st):∀{xs:List V} {os:Fnd} (j:Nat),qR K H xs os->qR K H (xs.set j (.ref a)) (os.set j (some st))
 | _,_,_,.nil=>.nil
 | _,_,0,.cons _ t=>.cons ⟨a,rfl,hs⟩ t
 | _,_,j+1,.cons h t=>.cons h (qR.set hs j t)
theorem Jq (K:kE) (H:Hp):∀n:Nat,qR K H (List.replicate n V.non) (List.replicate n none)
 | 0=>.nil
 | n+1=>.cons rfl (Jq K H n)
def z1w (H:Hp) (kvs:List (Key × V)) (f:Fnd) (B:Nat):Prop:=∀(p:Nat) st,f[p]?=some (some st)->∃t ns,valV kvs (Sum.inl (p:Int):Key)=some (.ref t)/\H t=some (.tup ns)/\ns≠[]/\ns.length<=B
theorem z1w.keep {H H':Hp} {kvs:List (Key × V)} {f:Fnd} {B:Nat} (h:z1w H kvs f B) (s:qB H H'):z1w H' kvs f B:=fun p st e=>let ⟨t,ns,h1,h2,h3⟩:=h p st e;⟨t,ns,h1,s _ _ h2 rfl,h3⟩
theorem z1w.mono {H:Hp} {kvs:List (Key × V)} {f:Fnd} {B B':Nat} (h:z1w H kvs f B) (hb:B<=B'):z1w H kvs f B':=fun p st e=>let ⟨t,ns,h1,h2,h3,h4⟩:=h p st e;⟨t,ns,h1,h2,h3,kD h4 hb⟩
structure Srch (K:kE) (H0 H:Hp) (d fl wd wl:Addr) (rs:List Row) (f:Fnd) (w:List Nat) (B C:Nat):Prop where
 same:Same H0 H
 labs:∃kvs,H d=some (.dK kvs)/\Qo kvs rs
 nf:H0 fl=none
 nw:H0 wd=none
 nl:H0 wl=none
 fnd:∃fvs,H fl=some (.lst fvs)/\qR K H fvs f
 wks:∃kvs,H wd=some (.dK kvs)/\z1w H kvs f B/\kvs.length<=C
 wts:H wl=some (.lst (w.map fun p=>V.int (p:Nat)))
 wlen:w.length<=C
 flen:f.length=rs.length
 nd:d≠wd
 nfw:fl≠wl
theorem Srch.same' {K:kE} {H0 H H':Hp} {d fl wd wl:Addr} {rs:List Row} {f:Fnd} {w:List Nat} {B C:Nat} (h:Srch K H0 H d fl wd wl rs f w B C) (s:Same H H'):Srch K H0 H' d fl wd wl rs f w B C:=by
 obtain ⟨a1,⟨kv,b1,b2⟩,a3,a4,a5,⟨fvs,a6,a7⟩,⟨kvs,a8,a9,a10⟩,a11,a12,a13,a14,a15⟩:=h;have kt:=qB.of s;exact ⟨a1.trans s,⟨kv,s _ _ b1,b2⟩,a3,a4,a5,⟨fvs,s _ _ a6,a7.keep kt⟩,⟨kvs,s _ _ a8,a9.keep kt,a10⟩,s _ _ a11,a12,a13,a14,a15⟩
theorem Srch.more {K:kE} {H0 H:Hp} {d fl wd wl:Addr} {rs:List Row} {f:Fnd} {w:List Nat} {B B' C C':Nat} (h:Srch K H0 H d fl wd wl rs f w B C) (hb:B<=B') (hc:C<=C'):Srch K H0 H d fl wd wl rs f w B' C':=by
 obtain ⟨a1,a2,a3,a4,a5,a6,⟨kvs,a8,a9,a10⟩,a11,a12,a13,a14,a15⟩:=h;exact ⟨a1,a2,a3,a4,a5,a6,⟨kvs,a8,a9.mono hb,by lia⟩,a11,by lia,a13,a14,a15⟩
theorem Srch.code {K:kE} {H0 H:Hp} {l d fl wd wl:Addr} {as:List Addr} {rs:List Row} {f:Fnd} {w:List Nat} {B C:Nat} (h:Srch K H0 H d fl wd wl rs f w B C) (hS:SqL K H0 l (as.map V.ref)) (hR:q0 H0 as rs) (hc:Code rs):Z8 K H l d rs:=
 ⟨⟨as,h.same.seq hS,hR.same h.same⟩,hc,h.labs⟩
theorem Srch.pop {K:kE} {H0 H:Hp} {d fl wd wl:Addr} {rs:List Row} {f:Fnd} {p:Nat} {w:List Nat} {B C:Nat} (h:Srch K H0 H d fl wd wl rs f (p :: w) B C):Srch K H0 (upd H wl (.lst (w.map fun p=>V.int (p:Nat)))) d fl wd wl rs f w B C:=by
 obtain ⟨a1,⟨kv,b1,b2⟩,a3,a4,a5,⟨fvs,a6,a7⟩,⟨kvs,a8,a9,a10⟩,a11,a12,a13,a14,a15⟩:=h;have kt:=qB.upd (o:=.lst (w.map fun p=>V.int (p:Nat))) a11 rfl;exact ⟨fun b o e=>by rw [zj (ze e a5)];exact a1 _ _ e,⟨kv,by rw [zj (zL b1 a11 nofun)];exact b1,b2⟩,a3,a4,a5,⟨fvs,by rw [zj a15];exact a6,a7.keep kt⟩,
  ⟨kvs,by rw [zj (zL a8 a11 nofun)];exact a8,a9.keep kt,a10⟩,zc,by simp at a12;lia,a13,a14,a15⟩
theorem Srch.put {K:kE} {H0 H:Hp} {d fl wd wl:Addr} {rs:List Row} {f:Fnd} {w:List Nat} {B C:Nat} (h:Srch K H0 H d fl wd wl rs f w B C) {j:Nat} {a t:Addr} {st:Sta} {ns fvs:List V} {kvs:List (Key × V)} (hf:H fl=some (.lst fvs)) (hw:H wd=some (.dK kvs))
  (hs:StA K H a st) (ht:H t=some (.tup ns)) (hn:ns≠[]) (hl:ns.length<=B) (hj:f[j]?=some none):
  Srch K H0 (upd (upd (upd H fl (.lst (fvs.set j (.ref a)))) wd (.dK (putK kvs (Sum.inl (j:Int)) (.ref t)))) wl (.lst ((w.map fun p=>V.int (p:Nat))++[V.int (j:Nat)]))) d fl wd wl rs (f.set j (some st)) (w++[j]) B (C+1):=by
 obtain ⟨a1,⟨kv,b1,b2⟩,a3,a4,a5,⟨fvs',a6,a7⟩,⟨kvs',a8,a9,a10⟩,a11,a12,a13,a14,a15⟩:=h;rw [hf] at a6;cases a6;rw [hw] at a8;cases a8;have nwf:wd≠fl:=zL hw hf nofun;have nwl:wd≠wl:=zL hw a11 nofun;have k1:=qB.upd (o:=.lst (fvs.set j (.ref a))) hf rfl;have e2:(upd H fl (.lst (fvs.set j (.ref a)))) wd=some (.dK kvs):=by rw [zj nwf];exact hw
 have k2:=k1.trans (qB.upd (o:=.dK (putK kvs (Sum.inl (j:Int)) (.ref t))) e2 rfl);have e3:(upd (upd H fl (.lst (fvs.set j (.ref a)))) wd (.dK (putK kvs (Sum.inl (j:Int)) (.ref t)))) wl=some (.lst (w.map fun p=>V.int (p:Nat))):=by rw [zj nwl.symm,zj a15.symm];exact a11
 have k3:=k2.trans (qB.upd (o:=.lst ((w.map fun p=>V.int (p:Nat))++[V.int (j:Nat)])) e3 rfl);refine ⟨fun b o e=>by rw [zj (ze e a5),zj (ze e a4),zj (ze e a3)];exact a1 _ _ e,⟨kv,by rw [zj (zL b1 a11 nofun),zj a14,zj (zL b1 hf nofun)];exact b1,b2⟩,a3,a4,a5,
  ⟨_,by rw [zj a15,zj nwf.symm];exact zc,(a7.set hs j).keep k3⟩,⟨_,by rw [zj nwl];exact zc,fun p st' e=>?_,?_⟩,?_,by simp;lia,by simp [a13],a14,a15⟩
 ·rw [QG];by_cases z:p=j
  ·subst z;rw [kG rfl];exact ⟨t,ns,rfl,k3 _ _ ht rfl,hn,hl⟩
  ·rw [kF (fun y=>z (by injection y with y;lia))];rw [vx,kF (fun y=>z y.symm)] at e;obtain ⟨t',ns',h1,h2,h3⟩:=a9 p st' e;exact ⟨t',ns',h1,k3 _ _ h2 rfl,h3⟩
 ·have:=j9 kvs (Sum.inl (j:Int):Key) (V.ref t)
  lia
 ·rw [zc,kP];rfl
section
def Jj (K:kE):Sp:=fun vs H Q _=>∃l as rs fin,vs=[.ref l]/\SqL K H l (as.map V.ref)/\q0 H as rs/\Code rs/\Zg rs=some fin/\
 ∀t fl fvs H',Same H H'->H t=none->H fl=none->H' t=some (.tup [.ref fl,.non])->H' fl=some (.lst fvs)->qR K H' fvs fin->Q (.ref t) H'
theorem sc53:zr ["code","labels","found","walks","waiting","place","words","goal","state","walk"] ["code"] (zh (top 53)):=fsM
theorem pop0 {xs:List V} {y:V} {ys:List V} (h:xs=y :: ys):seqIndex? 0 xs.length=some 0/\xs[0]?=some y/\xs.eraseIdx 0=ys:=by
 subst h;refine ⟨?_,rfl,rfl⟩;unfold seqIndex?;simp
noncomputable def st54:Stmt:=match (zG (top 53)).getD 5 (.Pass ⟨0,0,0,0⟩) with
 | .While _ b _ _=>b.getD 3 (.Pass ⟨0,0,0,0⟩)
 | s=>s
noncomputable abbrev N54:List Str:=["code","labels","found","walks","waiting","place","words","goal","state","walk"]
def z8A (K:kE) (H:Hp) (l:Addr) (rs:List Row):TS:=fun D σ H3=>∃(d fl wd wl:Addr) (p:Nat) (r:Row) (st:Sta) (n:Nat) (v6 v7 v8 v9:Option V) (fo:Fnd) (wa:List Nat) (foE:Fnd) (waE:List Nat),
 σ=[some (.ref l),some (.ref d),some (.ref fl),some (.ref wd),some (.ref wl),some (.int (p:Nat)),v6,v7,v8,v9]/\n<=299/\rs[p]?=some r/\fo[p]?=some (some st)/\st.2.length<=1000/\Qf (Zm rs p r st) fo wa=some (foE,waE)/\
 Srch K H H3 d fl wd wl rs fo wa (300 - n) (3 * (300 - n))/\∀σ' H',(∃v5 v6 v7 v8 v9,σ'=[some (.ref l),some (.ref d),some (.ref fl),some (.ref wd),some (.ref wl),v5,v6,v7,v8,v9])->Srch K H H' d fl wd wl rs foE waE (301 - n) (3 * (301 - n))->D.nx σ' H'
theorem z3Y {α:Type} {l:List α} {i:Nat} {x:α} (h:l[i]?=some x):l.drop i=x :: l.drop (i+1):=by
 obtain ⟨hi,e⟩:=kj.mp h;rw [<-e];exact List.drop_eq_getElem_cons hi
def F54 (K:kE) (H:Hp) (l d fl wd wl:Addr) (p:Nat) (v6:Option V) (rs:List Row) (ns:List (V × Sta)) (foE:Fnd) (waE:List Nat) (st:Sta) (n:Nat) (tp:Addr) (np:List V) (nl:Addr) (ts:List Addr) (i:Nat) (σ:L2.St) (H':Hp):Prop:=∃v7 v8 v9 fo' wa',σ=[some (.ref l),some (.ref d),some (.ref fl),some (.ref wd),some (.ref wl),some (.int (p:Nat)),v6,v7,v8,v9]/\i<=3/\Qf (ns.drop i) fo' wa'=some (foE,waE)/\fo'[p]?=some (some st)/\Srch K H H' d fl wd wl rs fo' wa' (301 - n) (3 * (300 - n)+i)/\(∃kvs,H' wd=some (.dK kvs)/\valV kvs (Sum.inl (p:Int):Key)=some (.ref tp))/\H' tp=some (.tup np)/\H' nl=some (.lst (ts.map V.ref))/\NxIn K H' ts ns
theorem zam {f:Addr} {cdv:Value} {A:Around} {vY:List Env} {s:Shared} {H:Hp} {E:XK} {l:Addr} {as:List Addr} {rs:List Row} (hr:Room 7 (A.deeper (envOfC "searched" (zh (top 53)) s.heap.objs.size f cdv)))
  (hS:SqL K H l (as.map V.ref)) (hR:q0 H as rs) (hc:Code rs) (FN':FN P w K mg base 4 "next_states" Ve (z1B K)):
  PS (cxOf CX0 P w K mg base N54 "searched" (zh (top 53)) f cdv A vY s H E).nox st54 (z8A K H l rs):=by
 have hu:=Ql hr;have hu3:(A.deeper (envOfC "searched" (zh (top 53)) s.heap.objs.size f cdv)).units+3 < cLine:=by have:=hr.un;lia
 have hr4:=hr.mono (vV:4<=7);refine PS.imp (jI vn rfl (jM (zw FN' hr4 rfl (z6 (pv 0) (z6 (pv 1) (z6 (pv 5) (z6 (zZ zI (pv 2) (pv 5) (fun _ _=>rfl)) z7))))))
    (jr rfl (zD (zC (i:=7) sc53.nd rfl (Or.inl rfl)) (zD (zC (i:=8) sc53.nd rfl (Or.inl rfl)) qC)))
    (z8 (zK (i:=9) sc53.nd rfl (Or.inl rfl) (qa z3p (Qi hu (pv 3) (pv 5) (fun _ _=>rfl)) (qb (z6 (pv 7) z7))))
    (zi (zY (zt Z7 (zZ zI (pv 2) (pv 7) (fun _ _=>rfl)) qk (zA _))
     (z8 (jq (pv 8) (Qt (pv 2) (pv 7) jH)) (z8 (z1c hu (pv 3) (pv 7) (pv 9) rfl) (zi (zp (jC (pv 4) (z6 (pv 7) z7))))))
     (zi (zY (zt (z6X hu3) (zZ zI (pv 2) (pv 7) (fun _ _=>rfl)) (pv 8) (zA _)) j4 zE)))))) ?_
 rintro D σ H3 ⟨d,fl,wd,wl,p,r,st,n,v6,v7,v8,v9,fo,wa,foE,waE,rfl,hn,hrp,hfp,hz,hrel,S,k⟩;obtain ⟨fvs,hfl2,hF⟩:=S.fnd;obtain ⟨x,hx,hx2⟩:=hF.get hfp;obtain ⟨sa,rfl,hsa⟩:=hx2;refine ⟨fl,_,_,_,rfl,rfl,SqL.of hfl2,zy hx,l,d,p,sa,st,rs,r,rfl,S.code hS hR hc,hrp,hsa,hz,fun nl ts H4 s4 hn4 hnl4 hN4=>?_⟩;have hnlen:(Zm rs p r st).length<=3:=by unfold Zm;rw [kq];exact z0t ..
 generalize Zm rs p r st=ns at hrel hN4 hnlen;have hts:ts.length=ns.length:=Paired.length hN4;have S4:=S.same' s4;obtain ⟨kvs,hwd,hW,hkl⟩:=S4.wks;obtain ⟨tp,np,ht1,ht2,ht3,ht4⟩:=hW p st hfp;refine ⟨nl,rfl,⟨_,SqL.of hnl4⟩,z1U (K:=K) (a:=nl) (xs:=ts.map V.ref) (F54 K H l d fl wd wl p v6 rs ns foE waE st n tp np nl ts)
  ⟨v7,v8,v9,fo,wa,rfl,by decide,hrel,hfp,S4.more (by lia) (by lia),⟨kvs,hwd,ht1⟩,ht2,hnl4,hN4⟩ (fun i σ H' _ zz=>by obtain ⟨_,_,_,_,_,_,_,_,_,_,_,_,h,_⟩:=zz;exact SqL.of h) ?_ ?_⟩
 ·rintro i x σ H' hi ⟨v7,v8,v9,fo',wa',rfl,hi3,hrel',hfp',S',⟨kvs',hwd',hv'⟩,htp',hnl',hN'⟩;obtain ⟨t,nx,a,rfl,hnx,ht,hst⟩:=hN'.get hi;have hil:i < ts.length:=by have:=(kj.mp hi).1;simpa using this
  rw [z3Y hnx] at hrel';obtain ⟨goal,st'⟩:=nx;refine ⟨t,_,rfl,SqT.of ht,rfl,_,_,rfl,_,_,rfl,rfl,?_⟩;have hgd:DGet H' wd (.int (p:Nat)) (some (.ref tp)):=by rw [<-hv'];exact DGet.k (k:=Sum.inl (p:Int)) hwd'
  refine ⟨wd,_,rfl,hgd,vW,fun p2 hp2=>?_⟩;have t2:=zo hp2 (.tup [goal]);refine ⟨tp,p2,np,[goal],rfl,rfl,SqT.of (t2 _ _ htp'),SqT.of zc,ht3,by rw [sizeLine_eq];show np.length+1<=_;lia,nofun,fun _ p3 hp3=>?_⟩;have t3:=zo hp3 (.tup (np++[goal]));have t23:=t2.trans t3;have S2:=S'.same' t23;have hwd2:=t23 _ _ hwd';have hnl2:=t23 _ _ hnl';have hN2:=hN'.keep (qB.of t23);have hst2:=hst.same t23;have htp2:=t23 _ _ htp';have hp33:(upd (upd H' p2 (.tup [goal])) p3 (.tup (np++[goal]))) p3=some (.tup (np++[goal])):=zc;generalize upd (upd H' p2 (.tup [goal])) p3 (.tup (np++[goal]))=H5 at *;obtain ⟨fv,hfl5,hF5⟩:=S2.fnd;unfold Qf at hrel';cases goal with
  | int j=>
   dsimp only at hrel';by_cases hj0:0<=j
   case neg=>rw [kF hj0] at hrel';cases hrel'
   rw [kG hj0] at hrel';obtain ⟨jn,rfl⟩:=yf hj0;rw [yg] at hrel';cases hfj:fo'[jn]? with
   | none=>rw [hfj] at hrel';cases hrel'
   | some o=>
    obtain ⟨y,hy,hy2⟩:=hF5.get hfj;rw [hfj] at hrel';refine ⟨fl,_,_,_,rfl,rfl,SqL.of hfl5,zy hy,rfl,_,rfl,?_⟩;cases o with
    | none=>
     dsimp only at hrel' hy2;subst hy2;have npj:p≠jn:=fun z=>by rw [z,hfj] at hfp';cases hfp'
     have jlt:jn < fv.length:=(kj.mp hy).1;have Sp:=S2.put (t:=p3) hfl5 hwd2 hst2 hp33 (by simp) (by rw [ku];show np.length+1<=_;lia) hfj;have nwf:wd≠fl:=zL hwd2 hfl5 nofun;have nlf:nl≠fl:=fun z=>by rw [z] at hn4;rw [S.fnd.choose_spec.1] at hn4;cases hn4
     have nlw:nl≠wl:=fun z=>by rw [z] at hn4;rw [S.wts] at hn4;cases hn4
     refine iteT ⟨fl,fv,_,jn,rfl,rfl,hfl5,?_,?_⟩
     ·unfold ixN;rw [kG hj0,kG (by lia),yg]
     refine ⟨wd,_,rfl,DPut.k (k:=Sum.inl (jn:Int)) (by rw [zj nwf];exact hwd2) ?_,?_⟩
     ·obtain ⟨kk,e1,_,e3⟩:=S2.wks;rw [hwd2] at e1;cases e1;rw [sizeLine_eq];lia
     have hwl5:(upd (upd H5 fl (.lst (fv.set jn (.ref a)))) wd (.dK (putK kvs' (Sum.inl (jn:Int)) (.ref p3)))) wl=some (.lst (wa'.map fun p=>V.int (p:Nat))):=by
      rw [zj (zL S2.wts hwd2 nofun),zj S2.nfw.symm];exact S2.wts
     refine ⟨.inl ⟨rfl,_,SqL.of hwl5⟩,wl,_,_,rfl,rfl,hwl5,?_,?_⟩
     ·rw [kq];have:=S2.wlen
      rw [sizeLine_eq];lia
     have kt:qB H5 (upd (upd (upd H5 fl (.lst (fv.set jn (.ref a)))) wd (.dK (putK kvs' (Sum.inl (jn:Int)) (.ref p3)))) wl (.lst ((wa'.map fun p=>V.int (p:Nat))++[V.int (jn:Nat)]))):=
      ((qB.upd hfl5 rfl).trans (qB.upd (u:=.dK kvs') (by rw [zj nwf];exact hwd2) rfl)).trans (qB.upd hwl5 rfl)
     refine ⟨_,_,_,_,_,rfl,by lia,hrel',by rw [vx,kF npj.symm];exact hfp',Sp.more (ki _) (by lia),⟨_,by rw [zj (zL hwd2 S2.wts nofun)];exact zc,?_⟩,kt _ _ htp2 rfl,?_,hN2.keep kt⟩
     ·rw [QG,kF (fun z=>npj (by injection z with z;lia))];exact hv'
     ·rw [zj nlw,zj (zL hnl2 hwd2 nofun),zj nlf];exact hnl2
    | some s'=>
     dsimp only at hrel' hy2;obtain ⟨a',rfl,hst'⟩:=hy2;by_cases hs:s'=st'
     case neg=>rw [kF hs] at hrel';cases hrel'
     rw [kG hs] at hrel';subst hs;refine iteF ⟨fl,_,_,_,rfl,rfl,SqL.of hfl5,zy hy,a',a,s',rfl,rfl,hst',hst2,false,rfl,iteF ?_⟩;exact ⟨_,_,_,_,_,rfl,by lia,hrel',hfp',S2.more (ki _) (by lia),⟨kvs',hwd2,hv'⟩,htp2,hnl2,hN2⟩
  | _=>cases hrel'
 ·rintro σ H' ⟨v7,v8,v9,fo',wa',rfl,hi3,hrel',hfp',S',_⟩;have hdr:ns.drop (ts.map V.ref).length=[]:=by rw [kq,hts];simp
  rw [hdr] at hrel';unfold Qf at hrel';cases hrel';exact k _ H' ⟨_,_,_,_,_,rfl⟩ (S'.more (ki _) (by rw [kq] at *;lia))
end
section
noncomputable def z9W:Stmt:=(zG (top 53)).getD 5 (.Pass ⟨0,0,0,0⟩)
def za5 (K:kE) (H:Hp) (l:Addr) (rs:List Row) (fin:Fnd):TS:=fun D σ H3=>∃(d fl wd wl:Addr) (f0:Fnd),σ=[some (.ref l),some (.ref d),some (.ref fl),some (.ref wd),some (.ref wl),none,none,none,none,none]/\bfs rs 300 f0 [0]=some fin/\
 Srch K H H3 d fl wd wl rs f0 [0] (301 - 300) (3 * (301 - 300))/\∀v1 v3 v4 v5 v6 v7 v8 v9 fvs H',Same H H'->H fl=none->H' fl=some (.lst fvs)->qR K H' fvs fin->D.nx [some (.ref l),v1,some (.ref fl),v3,v4,v5,v6,v7,v8,v9] H'
def WhW (K:kE) (H:Hp) (l d fl wd wl:Addr) (rs:List Row) (foE:Fnd) (waE:List Nat) (n:Nat) (σ':L2.St) (H':Hp):Prop:=∃v5 v6 v7 v8 v9,σ'=[some (.ref l),some (.ref d),some (.ref fl),some (.ref wd),some (.ref wl),v5,v6,v7,v8,v9]/\Srch K H H' d fl wd wl rs foE waE (301 - n) (3 * (301 - n))
theorem z6v {f:Addr} {cdv:Value} {A:Around} {vY:List Env} {s:Shared} {H:Hp} {E:XK} {l:Addr} {as:List Addr} {rs:List Row} {fin:Fnd} (hr:Room 7 (A.deeper (envOfC "searched" (zh (top 53)) s.heap.objs.size f cdv)))
  (hS:SqL K H l (as.map V.ref)) (hR:q0 H as rs) (hc:Code rs) (FS:FN P w K mg base 5 "state_words" Ve (spSw K)) (FN':FN P w K mg base 4 "next_states" Ve (z1B K)):
  PS (cxOf CX0 P w K mg base N54 "searched" (zh (top 53)) f cdv A vY s H E).nox z9W (za5 K H l rs fin):=by
 have hr5:=hr.mono (vV:5<=7);refine PS.imp (JD vn (ZV (pv 4) (fun _=>rfl))
   (z8 (zK (i:=5) sc53.nd rfl (Or.inl rfl) (z8L PySem.F.plainAttrs_list PySem.F.slot_list_pop PySem.F.type_list_pop z4X (pv 4) (z6 zl z7)))
   (z8 (zK (i:=6) sc53.nd rfl (Or.inl rfl) (zw FS hr5 rfl (z6 (pv 0) (z6 (pv 1) (z6 (pv 5) (z6 (zZ zI (pv 2) (pv 5) (fun _ _=>rfl)) z7))))))
   (z8 (zY (ZV (pv 6) (fun _=>rfl)) j4 zE)
   (zi (zam hr hS hR hc FN')))))) ?_
 rintro D σ H3 ⟨d,fl,wd,wl,f0,rfl,hfin,jX,q⟩;refine ⟨fun m σ H2=>∃fo wa v5 v6 v7 v8 v9,σ=[some (.ref l),some (.ref d),some (.ref fl),some (.ref wd),some (.ref wl),v5,v6,v7,v8,v9]/\m<=300/\bfs rs m fo wa=some fin/\Srch K H H2 d fl wd wl rs fo wa (301 - m) (3 * (301 - m)),⟨300,f0,[0],none,none,none,none,none,rfl,ki _,hfin,jX⟩,?_⟩;clear jX;rintro m σ H2 ⟨fo,wa,v5,v6,v7,v8,v9,rfl,hm,hb,S⟩;refine ⟨!wa.isEmpty,.inl ⟨_,SqL.of S.wts,by rw [List.isEmpty_map]⟩,?_⟩;cases wa with
 | nil=>
  have hb:some fo=some fin:=by unfold bfs at hb;exact hb
  cases hb;obtain ⟨fvs,hfl2,hF⟩:=S.fnd;exact iteF (q _ _ _ _ _ _ _ _ fvs H2 S.same S.nf hfl2 hF)
 | cons p wa=>
  cases m with
  | zero=>unfold bfs at hb;cases hb
  | succ n=>
   unfold bfs at hb;cases hrp:rs[p]? with
   | none=>rw [hrp] at hb;cases hb
   | some r=>
    cases hfp:fo[p]? with
    | none=>rw [hrp,hfp] at hb;cases hb
    | some o=>
     cases o with
     | none=>rw [hrp,hfp] at hb;cases hb
     | some st=>
      rw [hrp,hfp] at hb;dsimp only at hb;by_cases hw:(Zc rs p r st.1 st.2.getLast?).isEmpty=true/\st.2.length<=1000
      case neg=>rw [kF hw] at hb;cases hb
      rw [kG hw] at hb;obtain ⟨hw,hz⟩:=hw;cases hrel:Qf (Zm rs p r st) fo wa with
      | none=>rw [hrel] at hb;cases hb
      | some fw=>
       obtain ⟨foE,waE⟩:=fw;rw [hrel] at hb;dsimp only at hb;refine iteT ⟨WhW K H l d fl wd wl rs foE waE n,fun σ' H' zz=>by obtain ⟨v5,v6,v7,v8,v9,e,S'⟩:=zz;exact ⟨n,yh _,foE,waE,v5,v6,v7,v8,v9,e,by lia,hb,S'⟩,?_⟩;obtain ⟨k1,k2,k3⟩:=pop0 (xs:=(p :: wa).map fun p=>V.int (p:Nat)) rfl;refine ⟨.inl ⟨rfl,_,SqL.of S.wts⟩,wl,_,0,0,_,rfl,rfl,S.wts,by decide,by decide,k1,k2,?_⟩;rw [k3];have S1:=S.pop;generalize upd H2 wl (.lst (wa.map fun p=>V.int (p:Nat)))=H3 at S1;obtain ⟨fvs,hfl2,hF⟩:=S1.fnd;obtain ⟨x,hx,hx2⟩:=hF.get hfp;obtain ⟨sa,rfl,hsa⟩:=hx2;refine ⟨fl,_,_,_,rfl,rfl,SqL.of hfl2,zy hx,l,d,p,sa,st,rs,r,rfl,S1.code hS hR hc,hrp,hsa,fun wf H4 s4 hn4 hwf=>?_⟩;refine ⟨false,.inl ⟨_,SqL.of hwf,by rw [List.isEmpty_map,hw];rfl⟩,iteF ?_⟩;exact ⟨d,fl,wd,wl,p,r,st,n,_,_,_,_,fo,wa,foE,waE,rfl,by lia,hrp,hfp,hz,hrel,(S1.same' s4).more (by lia) (by lia),fun σ' H' ⟨v5,v6,v7,v8,v9,e⟩ S'=>⟨v5,v6,v7,v8,v9,e,S'⟩⟩
theorem z1p (D:zx K mg "searched" (top 53)) (G:Glo mg) (T:z5Q w K mg) (FL:FN P w K mg base 7 "label_places" ["rows"] (z0j K)) (FS:FN P w K mg base 5 "state_words" Ve (spSw K)) (FN':FN P w K mg base 4 "next_states" Ve (z1B K)):
  FN P w K mg base 8 "searched" ["code"] (Jj K):=by
 refine FN.o D sc53 fun f cdv A vY s H vs Q E hr h=>?_
 obtain ⟨l,as,rs,fin,rfl,hS,hR,hc,hfin,q⟩:=h;have hu:=Ql hr;have hu3:(A.deeper (envOfC "searched" (zh (top 53)) s.heap.objs.size f cdv)).units+3 < cLine:=by have:=hr.un;lia
 obtain ⟨fa,fg,mfa,tfa,tfg⟩:=T.first;have hr5:=hr.mono (vV:5<=7);have hr4:=hr.mono (vV:4<=7);refine ⟨_,z8 (zK (i:=1) sc53.nd rfl (Or.inl rfl) (zw FL hr rfl (z6 (pv 0) z7)))
  (z8 (zK (i:=2) sc53.nd rfl (Or.inl rfl) (qa z6g (qe (z6 qk z7)) (zH zW rfl G.len qA (z6 (pv 0) z7))))
  (z8 (jq (qo rfl mfa (v:=.ref fa) rfl) (Qt (pv 2) zl jH))
  (z8 (zK (i:=3) sc53.nd rfl (Or.inl rfl) (z3m (ZW zl (qb (z6 zl z7)) z3e) rfl rfl nofun (by decide)))
  (z8 (zK (i:=4) sc53.nd rfl (Or.inl rfl) (qe (z6 zl z7)))
  (z8 (z6v (fin:=fin) hr hS hR hc FS FN')
  (zi (zu (qb (z6 (pv 2) (z6 qk z7)))))))))),?_⟩
 symm
 have hlen:=hc.hi;have hlo:=hc.lo;refine ⟨l,as,rs,rfl,hS,hR,hc.ok,by lia,fun d kvs0 H1 hd0 s1 hd1 hL=>?_⟩;have hll:as.length=rs.length:=hR.len;refine ⟨vW,fun p0 hp0=>?_⟩;have t0:=zo hp0 (.lst [V.non]);refine ⟨l,_,rfl,.inl (t0.seq (s1.seq hS)),p0,_,[V.non],rfl,rfl,zc,?_,?_,?_,fun fl hfl=>?_⟩
 ·rw [kq];lia
 ·rw [kq];lia
 ·rw [kq];show 1 * ((as.length:Nat):Int).toNat<=sizeLine;rw [sizeLine_eq,yg];lia
 have efl:(List.replicate (((as.map V.ref).length:Nat):Int).toNat [V.non]).flatten=List.replicate rs.length V.non:=by
  rw [yg,kq,hll];generalize rs.length=n;induction n with
  | zero=>rfl
  | succ n ih=>rw [vD,vU,ih];rfl
 rw [efl];have sA:Same H (upd H1 p0 (.lst [V.non])):=s1.trans t0;have hfl0:H fl=none:=sA.free hfl;have nfd:d≠fl:=ze (t0 _ _ hd1) hfl;refine ⟨fl,_,0,0,rfl,rfl,zc,?_,?_⟩
 ·unfold ixN;rw [kG (by decide),kG (by rw [vj];lia)];rfl
 rw [z6y];have f0:qR K (upd (upd H1 p0 (.lst [V.non])) fl (.lst ((List.replicate rs.length V.non).set 0 (.ref fa)))) ((List.replicate rs.length V.non).set 0 (.ref fa)) ((List.replicate rs.length none).set 0 (some (0,[]))):=
  qR.set (st:=(0,[])) ⟨fg,tfa.sq _,[],tfg.sq _,.nil⟩ 0 (Jq _ _ _)
 generalize hfv:(List.replicate rs.length V.non).set 0 (V.ref fa)=fvs0 at f0;intro wd hwd;have sB:Same H (upd (upd H1 p0 (.lst [V.non])) fl (.lst fvs0)):=fun b o e=>by rw [zj (ze e hfl0)];exact sA _ _ e
 generalize hHB:upd (upd H1 p0 (.lst [V.non])) fl (.lst fvs0)=HB at *;have hflB:HB fl=some (.lst fvs0):=by rw [<-hHB];exact zc
 have hdB:HB d=some (.dK kvs0):=by rw [<-hHB,zj nfd];exact t0 _ _ hd1
 have hwd0:H wd=none:=sB.free hwd;have s3:=zo hwd (.dK []);refine ⟨vW,fun p1 hp1=>?_⟩;have s4:=zo hp1 (.tup [V.int 0]);refine ⟨s4 _ _ zc,[(Sum.inl 0,.ref p1)],rfl,(by show 1<=15;decide),?_⟩;have em:Qu [] [((Sum.inl 0:Key),V.ref p1)]=[(Sum.inl 0,V.ref p1)]:=rfl;rw [em];refine ⟨vW,fun wl hwl=>?_⟩;have npw:p1≠wd:=(ze (H:=upd HB wd (.dK [])) zc hp1).symm;have hwl':wl≠wd:=fun z=>by rw [z,zc] at hwl;cases hwl
 have hwl2:(upd (upd HB wd (.dK [])) p1 (.tup [V.int 0])) wl=none:=by rw [zj hwl'] at hwl;exact hwl
 have sC:Same HB (upd (upd HB wd (.dK [])) p1 (.tup [V.int 0])):=s3.trans s4;have hwlB:HB wl=none:=sC.free hwl2;have sD:Same HB (upd (upd (upd (upd HB wd (.dK [])) p1 (.tup [V.int 0])) wd (.dK [(Sum.inl 0,V.ref p1)])) wl (.lst [V.int 0])):=fun b o e=>by
  rw [zj (ze e hwlB),zj (ze e hwd)];exact sC _ _ e
 generalize hHD:upd (upd (upd (upd HB wd (.dK [])) p1 (.tup [V.int 0])) wd (.dK [(Sum.inl 0,V.ref p1)])) wl (.lst [V.int 0])=HD at *;have hp1D:HD p1=some (.tup [V.int 0]):=by
  rw [<-hHD,zj (fun z=>by rw [<-z,zc] at hwl2;cases hwl2),zj npw];exact zc
 have hwdD:HD wd=some (.dK [(Sum.inl 0,V.ref p1)]):=by rw [<-hHD,zj hwl'.symm];exact zc
 have hwlD:HD wl=some (.lst [V.int 0]):=by rw [<-hHD];exact zc
 have jX:Srch K H HD d fl wd wl rs ((List.replicate rs.length none).set 0 (some (0,[]))) [0] (301 - 300) (3 * (301 - 300)):=by
  refine ⟨sB.trans sD,⟨kvs0,sD _ _ hdB,hL⟩,hfl0,hwd0,sB.free hwlB,⟨fvs0,sD _ _ hflB,f0.keep (qB.of sD)⟩,⟨_,hwdD,fun p st e=>?_,(by show 1<=3;decide)⟩,hwlD,(by show 1<=3;decide),by simp,ze hdB hwd,ze hflB hwlB⟩;have hp:p=0:=by
   rw [vx] at e;by_cases z:0=p
   ·exact z.symm
   ·rw [kF z,vq] at e;split at e <;> cases e
  subst hp;exact ⟨p1,_,rfl,hp1D,nofun,(by show 1<=1;decide)⟩
 refine ⟨d,fl,wd,wl,_,rfl,hfin,jX,fun v1 v3 v4 v5 v6 v7 v8 v9 fvs H' s' _ h1 h2=>?_⟩;refine ⟨vW,fun t ht=>?_⟩;have st:=zo ht (.tup [V.ref fl,.non]);exact q t fl fvs _ (s'.trans st) (s'.free ht) hfl0 zc (st _ _ h1) (h2.keep (qB.of st))
end
section
def Jy (K:kE):Sp:=fun vs H Q _=>∃l as rs fin,vs=[.ref l]/\H l=some (.lst (as.map V.ref))/\q0 H as rs/\Code rs/\Zg rs=some fin/\
 ∀fl fvs H',Same H H'->H fl=none->H' fl=some (.lst fvs)->qR K H' fvs fin->Q (.ref fl) H'
theorem sc54:zr ["code","found","reason"] ["code"] (zh (top 54)):=fsM
theorem z3N (D:zx K mg "states" (top 54)) (FC:FN P w K mg base 9 "check_code" Vb z34) (FS:FN P w K mg base 8 "searched" ["code"] (Jj K)):FN P w K mg base 10 "states" ["code"] (Jy K):=by
 refine FN.o D sc54 fun f cdv A vY s H vs Q E hr h=>?_
 obtain ⟨l,as,rs,fin,rfl,hl,hR,hc,hfin,q⟩:=h;refine ⟨_,z8 (zp (zw FC hr rfl (z6 (pv 0) z7)))
  (z8 (jq (zw FS (hr.mono (by decide)) rfl (z6 (pv 0) z7)) (jr rfl (zD (zC (i:=1) sc54.nd rfl (Or.inl rfl)) (zD (zC (i:=2) sc54.nd rfl (Or.inl rfl)) qC))))
  (z8 (zY (zt QV (pv 2) qk (zA _)) j4 zE) (zi (zu (pv 1))))),?_⟩
 symm
 refine ⟨l,as,rs,rfl,hl,hR,hc,fun H1 s1=>?_⟩;refine ⟨l,as,rs,fin,rfl,SqL.of (s1 _ _ hl),hR.same s1,hc,hfin,fun t fl fvs H2 s2 ht hfl h1 h2 h3=>?_⟩;refine ⟨t,_,rfl,SqT.of h1,rfl,_,_,rfl,_,_,rfl,rfl,?_⟩;exact ⟨rfl,_,rfl,iteF (q fl fvs H2 (s1.trans s2) (s1.free hfl) h2 h3)⟩
noncomputable def Qq:V->Bool
 | .non=>false
 | .bl b=>b
 | .int i=>i != 0
 | .str z=>(z.length:Int) != 0
 | _=>true
def z1A:Sp:=fun vs H Q _=>∃x,vs=[x]/\Scal x/\Q (.bl (Qq x)) H
theorem sc64:zr ["value"] ["value"] (zh (top 64)):=fsM
theorem z7h (D:zx K mg "is_true" (top 64)) (G:Glo mg):FN P w K mg base 1 "is_true" ["value"] z1A:=by
 refine FN.o D sc64 fun f cdv A vY s H vs Q E hr h=>?_
 obtain ⟨x,rfl,hx,q⟩:=h;refine ⟨_,zi (zu (jg z07 rfl G.bool Zr (z6 (pv 0) z7))),?_⟩
 symm
 refine ⟨x,rfl,?_⟩;cases hx with
 | non=>exact .inl ⟨rfl,q⟩
 | bl b=>exact .inr (.inl ⟨b,rfl,q⟩)
 | int i=>exact .inr (.inr (.inl ⟨i,rfl,q⟩))
 | str z hz=>exact .inr (.inr (.inr ⟨z,rfl,hz,q⟩))
theorem Ja:bootBuiltins "dict"=some (.type "dict"):=vV
theorem z08:bootBuiltins "all"=some (.builtin "all"):=vV
def z0a (kvs:List (Key × V)):Prop:=kvs.length<=8/\∀p∈kvs,∃nm:Str,p.1=Sum.inr nm/\nm.length<=sizeLine/\QZ (.str nm)=true/\Scal p.2/\Ji p.2 1000000000000000000=true
def z2X:Sp:=fun vs H Q _=>∃d kvs,vs=[.ref d]/\H d=some (.dK kvs)/\z0a kvs/\∀H',Same H H'->Q (.bl true) H'
theorem sc81:zr ["thing"] ["thing"] (zh (top 81)):=fsM
theorem ndnv:(["name","value"]:List Str).Nodup:=vV
theorem z5m (D:zx K mg "is_names" (top 81)) (G:Glo mg) (F1:FN P w K mg base 2 "is_name" Vb (sp1 QZ)) (F2:FN P w K mg base 3 "is_value_within" ["thing","most"] z13):FN P w K mg base 4 "is_names" Vb z2X:=by
 refine FN.o D sc81 fun f cdv A vY s H vs Q E hr h=>?_
 obtain ⟨d,kvs,rfl,hd,⟨hn,hall⟩,q⟩:=h;obtain ⟨u1,m1,r1⟩:=G.made;refine ⟨_,z8 (zY (PW.pt (QA (jS (j8 (zH qE rfl G.isinstance zX (z6 (pv 0) (z6 (QS "dict" rfl G.dict Ja) z7)))))
   (Z5 (zt Jf (zH z4j rfl G.len qA (z6 (pv 0) z7)) (jJ rfl G.names) (zA _))))) j4 zE)
  (zi (zu (zH (Z2 rfl) rfl G.all z08 (z6 (z1L (N:=["name","value"]) (nt:=2) (ix:=[]) (cl:=[]) rfl (qz.plain vV vV rfl vV rfl) (pv 0)
   (fun _ _ _ _=>Qh (K:=K) (n:=2) rfl rfl (zD (zC (i:=0) ndnv rfl (Or.inl rfl)) (zD (zC (i:=1) ndnv rfl (Or.inl rfl)) qC)))
   (fun _ _ _ _=>Zj)
   (fun _ _ _ _=>jU (zw F1 (hr.mono (by decide)) rfl (z6 (pv 0) z7)) (Z6 (zw F2 hr rfl (z6 (pv 1) (z6 (qo rfl m1 r1) z7)))))) z7)))),?_⟩
 symm
 refine ⟨_,"dict",_,true,rfl,.dK hd,rfl,_,rfl,iteF ?_⟩;refine ⟨d,kvs,rfl,hd,_,_,rfl,rfl,_,rfl,?_⟩;rw [km (show ¬((8:Int) < (kvs.length:Int)) by lia)];refine iteF ⟨d,kvs,rfl,hd,fun o l hl=>?_⟩;refine Js (Q:=fun x H1=>∃(p:Addr) (bs:List Bool),[x]=[V.ref p]/\SqL K H1 p (bs.map V.bl)/\Q (V.bl (bs.all id)) H1) (fun i ys σ H2=>(∃a b,σ=[a,b])/\ys=List.replicate i (V.bl true)/\H2 l=some (.lst ys)/\H2 d=some (.frz o (.dK kvs))/\∀b o,H b=some o->b≠d->H2 b=some o) ⟨⟨none,none,rfl⟩,rfl,zc,?_,?_⟩ (fun i ys σ H2 h=>h.2.2.2.1) ?_ ?_
 ·rw [zj (ze hd hl)];exact zc
 ·intro b o e hb;rw [zj (ze e hl),zj hb];exact e
 ·rintro i p k v ys σ H2 hi ⟨⟨a,b,rfl⟩,rfl,hl2,hd2,kp⟩ hp;obtain ⟨nm,ek,hz,h1,h2,h3⟩:=hall (k,v) (kM hi);have ek:k=Sum.inr nm:=ek;subst ek;have hil:=(kj.mp hi).1;have npl:l≠p:=ze hl2 hp;have npd:d≠p:=ze hd2 hp;refine ⟨p,_,rfl,SqT.of zc,rfl,_,_,rfl,_,_,rfl,rfl,?_⟩;refine Zf ⟨_,rfl,.str nm hz,_,rfl,?_⟩;rw [show QZ (kV (Sum.inr nm))=true from h1];refine iteT ⟨_,_,rfl,h2,?_⟩;rw [h3];refine ⟨by rw [zj npl];exact hl2,by rw [vj];exact qL (by lia),_,by lia,rfl,by lia,⟨_,_,rfl⟩,by rw [List.replicate_succ'],zc,?_,fun b o e hb=>?_⟩
  ·rw [zj (ze hd hl),zj npd];exact hd2
  ·rw [zj (ze e hl),zj (ze (kp _ _ e hb) hp)];exact kp _ _ e hb
 ·rintro ys σ H2 ⟨_,rfl,hl2,hd2,kp⟩;have nld:l≠d:=(ze hd hl).symm;refine ⟨l,List.replicate kvs.length true,rfl,SqL.of ?_,?_⟩
  ·rw [zj nld,hl2,List.map_replicate]
  ·have e:(List.replicate kvs.length true).all id=true:=by
    rw [List.all_eq_true];intro b hb;rw [List.eq_of_mem_replicate hb];rfl
   rw [e];refine q _ fun b o e=>?_
   by_cases z:b=d
   ·subst z;rw [hd] at e;cases e;exact zc
   ·rw [zj z];exact kp _ _ e z
def z66:Sp:=fun vs H Q _=>∃d kvs,vs=[.ref d]/\H d=some (.dK kvs)/\z0a kvs/\∀H',Same H H'->Q .non H'
theorem sc82:zr ["thing"] ["thing"] (zh (top 82)):=fsM
theorem z7L (D:zx K mg "check_names" (top 82)) (F1:FN P w K mg base 4 "is_names" Vb z2X):FN P w K mg base 5 "check_names" Vb z66:=by
 refine FN.o D sc82 fun f cdv A vY s H vs Q E hr h=>?_
 obtain ⟨d,kvs,rfl,hd,hn,q⟩:=h;refine ⟨_,zi (zY (jS (j8 (zw F1 hr rfl (z6 (pv 0) z7)))) j4 zE),?_⟩
 symm
 exact ⟨d,kvs,rfl,hd,hn,fun H' s'=>⟨_,rfl,iteF (q H' s')⟩⟩
end
structure jP (K:kE) (C:Addr):Prop where
 cl:Cls K C
 held:jt K C "held"
 known:jt K C "known"
 said:jt K C "said"
structure Mst where
 st:List V
 kn:List (Key × V)
 sd:List V
 deriving DecidableEq
structure j7 (H:Hp) (C ho hl kd sl dx:Addr) (m:Mst):Prop where
 ins:H ho=some (.ins C dx [("held",.ref hl),("known",.ref kd),("said",.ref sl)])
 held:H hl=some (.lst m.st)
 known:H kd=some (.dK m.kn)
 said:H sl=some (.lst m.sd)
 ne:hl≠sl
inductive Res where
 | next | go | fault (k:Str) | value (v:V)
 deriving DecidableEq
noncomputable def resV:Res->List V
 | .next=>[.str "next",.non]
 | .go=>[.str "go",.non]
 | .fault k=>[.str "fault",.str k]
 | .value v=>[.str "value",v]
structure Cons (K:kE) (mg:Str->Option Value):Prop where
 next:∃a,mg "NEXT"=some (.ref a)/\KTup K a [.str "next",.non]
 go:∃a,mg "GO"=some (.ref a)/\KTup K a [.str "go",.non]
 unset:∃a,mg "UNSET"=some (.ref a)/\KTup K a [.str "fault",.str "Unset"]
 on:∃a,mg "ON"=some (.ref a)/\KTup K a [.str "on"]
abbrev Deed:=Str->V->Mst->Option (Res × Mst)
def qw (H H':Hp) (a b c:Addr):Prop:=∀x o,H x=some o->x≠a->x≠b->x≠c->H' x=some o
def qj (K:kE) (C:Addr) (g:Deed):Sp:=fun vs H Q _=>∃ho hl kd sl dx op arg m res m',vs=[.ref ho,.str op,arg]/\j7 H C ho hl kd sl dx m/\g op arg m=some (res,m')/\
 ∀t H',SqT K H' t (resV res)->j7 H' C ho hl kd sl dx m'->qw H H' hl kd sl->Q (.ref t) H'
theorem z85 {K:kE} {C:Addr} {g:Deed} (vs:List V) (H:Hp) (Q:VK) (E:XK) (h:qj K C g vs H Q E):vs.length=3:=by
 obtain ⟨_,_,_,_,_,_,_,_,_,_,rfl,_⟩:=h;rfl
theorem j7.setHeld {H:Hp} {C ho hl kd sl dx:Addr} {m:Mst} (h:j7 H C ho hl kd sl dx m) (xs:List V):j7 (upd H hl (.lst xs)) C ho hl kd sl dx { m with st:=xs }:=
 ⟨by rw [zj (zL h.ins h.held nofun)];exact h.ins,zc,by rw [zj (zL h.known h.held nofun)];exact h.known,by rw [zj h.ne.symm];exact h.said,h.ne⟩
theorem j7.setSaid {H:Hp} {C ho hl kd sl dx:Addr} {m:Mst} (h:j7 H C ho hl kd sl dx m) (xs:List V):j7 (upd H sl (.lst xs)) C ho hl kd sl dx { m with sd:=xs }:=
 ⟨by rw [zj (zL h.ins h.said nofun)];exact h.ins,by rw [zj h.ne];exact h.held,by rw [zj (zL h.known h.said nofun)];exact h.known,zc,h.ne⟩
theorem j7.setKnown {H:Hp} {C ho hl kd sl dx:Addr} {m:Mst} (h:j7 H C ho hl kd sl dx m) (kn:List (Key × V)):j7 (upd H kd (.dK kn)) C ho hl kd sl dx { m with kn:=kn }:=
 ⟨by rw [zj (zL h.ins h.known nofun)];exact h.ins,by rw [zj (zL h.held h.known nofun)];exact h.held,zc,by rw [zj (zL h.said h.known nofun)];exact h.said,h.ne⟩
theorem j7.same {H H':Hp} {C ho hl kd sl dx:Addr} {m:Mst} (h:j7 H C ho hl kd sl dx m) (s:Same H H'):j7 H' C ho hl kd sl dx m:=⟨s _ _ h.ins,s _ _ h.held,s _ _ h.known,s _ _ h.said,h.ne⟩
theorem qw.refl {H:Hp} {a b c:Addr}:qw H H a b c:=fun _ _ e _ _ _=>e
theorem qw.trans {H H1 H2:Hp} {a b c:Addr} (x:qw H H1 a b c) (y:qw H1 H2 a b c):qw H H2 a b c:=fun z o e h1 h2 h3=>y z o (x z o e h1 h2 h3) h1 h2 h3
theorem qw.of {H H':Hp} {a b c:Addr} (s:Same H H'):qw H H' a b c:=fun z o e _ _ _=>s z o e
theorem qw.a {H:Hp} {a b c:Addr} {o:HO}:qw H (upd H a o) a b c:=fun z o e h1 _ _=>by rw [zj h1];exact e
theorem qw.b {H:Hp} {a b c:Addr} {o:HO}:qw H (upd H b o) a b c:=fun z o e _ h1 _=>by rw [zj h1];exact e
theorem qw.c {H:Hp} {a b c:Addr} {o:HO}:qw H (upd H c o) a b c:=fun z o e _ _ h1=>by rw [zj h1];exact e
theorem z78 {xs:List V} {v:V} (h:xs.getLast?=some v):xs=xs.dropLast++[v]:=by
 have hne:xs≠[]:=fun z=>by rw [z] at h;cases h
 rw [List.getLast?_eq_getLast hne] at h;cases h;exact (List.dropLast_concat_getLast hne).symm
theorem jo {xs:List V} {v:V} (h:xs.getLast?=some v):xs[xs.length - 1]?=some v:=by
 rw [<-List.getLast?_eq_getElem?];exact h
noncomputable def Z9:V->Bool
 | .str z=>decide (z.length<=1000)
 | .non=>true
 | .bl _=>true
 | .int _=>true
 | _=>false
theorem ZJ {x:V} (h:Z9 x=true):Scal x:=by
 cases x with
 | str z=>exact .str z (z1C (kI h))
 | non=>exact .non
 | bl b=>exact .bl b
 | int i=>exact .int i
 | _=>cases h
noncomputable def qW (n:Nat):Bool:=decide (n<=1000)
noncomputable def z0B:Deed:=fun _ arg m=>if qW m.st.length=true then some (.next,{ m with st:=m.st++[arg] }) else none
noncomputable def QD:Deed:=fun _ arg m=>match arg with
 | .str nm=>(match valV m.kn (Sum.inr nm:Key) with
  | none=>some (.fault "Unset",m)
  | some v=>if qW m.st.length=true then some (.next,{ m with st:=m.st++[v] }) else none)
 | _=>none
noncomputable def Q7:Deed:=fun _ arg m=>match arg with
 | .str nm=>if qW m.st.length=true then some (.next,{ m with st:=m.st++[(valV m.kn (Sum.inr nm:Key)).getD .non] }) else none
 | _=>none
noncomputable def Q5:Deed:=fun _ arg m=>match arg with
 | .str nm=>(match m.st.getLast? with
  | some v=>if qW m.kn.length=true then some (.next,{ m with st:=m.st.dropLast,kn:=putK m.kn (Sum.inr nm) v }) else none
  | none=>none)
 | _=>none
noncomputable def ZG:Deed:=fun _ arg m=>match arg with
 | .str nm=>(match valV m.kn (Sum.inr nm:Key) with
  | none=>some (.fault "Unset",m)
  | some _=>some (.next,{ m with kn:=z02 m.kn (Sum.inr nm) }))
 | _=>none
noncomputable def JY:Deed:=fun _ _ m=>match m.st.getLast? with
 | some v=>if qW m.sd.length=true then some (.next,{ m with st:=m.st.dropLast,sd:=m.sd++[v] }) else none
 | none=>none
noncomputable def gIf:Deed:=fun op _ m=>match m.st.getLast? with
 | some v=>if Z9 v=true then some (if Qq v=decide (op="iftrue") then .go else .next,{ m with st:=m.st.dropLast }) else none
 | none=>none
noncomputable def gOr:Deed:=fun op _ m=>match m.st.getLast? with
 | some v=>if Z9 v=true then some (if Qq v=decide (op="ortrue") then (.go,m) else (.next,{ m with st:=m.st.dropLast })) else none
 | none=>none
noncomputable def Z0:Deed:=fun _ _ m=>match m.st.getLast? with
 | some v=>some (.value v,{ m with st:=m.st.dropLast })
 | none=>none
section
variable {C:Addr}
theorem jx {n:Nat} (h:qW n=true):n < sizeLine:=qL (kI h)
theorem sc84:zr ["hold","op","arg"] ["hold","op","arg"] (zh (top 84)):=fsM
theorem z7s (D:zx K mg "do_push" (top 84)) (c:jP K C) (cs:Cons K mg):FN P w K mg base 1 "do_push" vZ (qj K C z0B):=by
 refine FN.o D sc84 fun f cdv A vY s H vs Q E hr h=>?_
 obtain ⟨ho,hl,kd,sl,dx,op,arg,m,res,m',rfl,hA,hg,q⟩:=h;obtain ⟨na,mn,tn⟩:=cs.next;refine ⟨_,z8 (zp (jC (zV (pv 0) rfl) (z6 (pv 2) z7))) (zi (zu (qo rfl mn (v:=.ref na) rfl))),?_⟩
 symm
 unfold z0B at hg;by_cases hz:qW m.st.length=true
 case neg=>rw [kF hz] at hg;cases hg
 rw [kG hz] at hg;cases hg;refine ⟨ho,C,dx,_,.ref hl,rfl,hA.ins,c.cl,c.held,rfl,.inl ⟨rfl,_,SqL.of hA.held⟩,hl,_,_,rfl,rfl,hA.held,jx hz,?_⟩;exact q na _ (tn.sq _) (hA.setHeld _) qw.a
theorem sc85:zr ["hold","op","arg"] ["hold","op","arg"] (zh (top 85)):=fsM
theorem z7A (D:zx K mg "do_load" (top 85)) (c:jP K C) (cs:Cons K mg):FN P w K mg base 1 "do_load" vZ (qj K C QD):=by
 refine FN.o D sc85 fun f cdv A vY s H vs Q E hr h=>?_
 obtain ⟨ho,hl,kd,sl,dx,op,arg,m,res,m',rfl,hA,hg,q⟩:=h;have hu:=Ql hr;obtain ⟨na,mn,tn⟩:=cs.next;obtain ⟨ua,mu,tu⟩:=cs.unset;refine ⟨_,z8 (zY (z1H (QU hu (pv 2) (zV (pv 0) rfl))) (zi (zu (qo rfl mu (v:=.ref ua) rfl))) zE)
  (z8 (zp (jC (zV (pv 0) rfl) (z6 (Qi hu (zV (pv 0) rfl) (pv 2) (fun _ _=>rfl)) z7))) (zi (zu (qo rfl mn (v:=.ref na) rfl)))),?_⟩
 symm
 cases arg with
 | str nm=>
  unfold QD at hg;dsimp only at hg;have hgt:DGet H kd (.str nm) (valV m.kn (Sum.inr nm:Key)):=DGet.k (k:=Sum.inr nm) hA.known;refine ⟨ho,C,dx,_,.ref kd,rfl,hA.ins,c.cl,c.known,rfl,kd,_,rfl,hgt,_,rfl,?_⟩;cases hv:valV m.kn (Sum.inr nm:Key) with
  | none=>
   rw [hv] at hg;cases hg;exact iteT (q ua H (tu.sq _) hA qw.refl)
  | some v=>
   rw [hv] at hg hgt;dsimp only at hg;by_cases hz:qW m.st.length=true
   case neg=>rw [kF hz] at hg;cases hg
   rw [kG hz] at hg;cases hg;refine iteF ⟨ho,C,dx,_,.ref hl,rfl,hA.ins,c.cl,c.held,rfl,.inl ⟨rfl,_,SqL.of hA.held⟩,ho,C,dx,_,.ref kd,rfl,hA.ins,c.cl,c.known,rfl,kd,v,rfl,hgt,hl,_,_,rfl,rfl,hA.held,jx hz,?_⟩;exact q na _ (tn.sq _) (hA.setHeld _) qw.a
 | _=>cases hg
theorem sc86:zr ["hold","op","arg"] ["hold","op","arg"] (zh (top 86)):=fsM
theorem z5l (D:zx K mg "do_quick" (top 86)) (c:jP K C) (cs:Cons K mg):FN P w K mg base 1 "do_quick" vZ (qj K C Q7):=by
 refine FN.o D sc86 fun f cdv A vY s H vs Q E hr h=>?_
 obtain ⟨ho,hl,kd,sl,dx,op,arg,m,res,m',rfl,hA,hg,q⟩:=h;have hu:=Ql hr;obtain ⟨na,mn,tn⟩:=cs.next;refine ⟨_,z8 (zp (jC (zV (pv 0) rfl) (z6 (z1K hu (zV (pv 0) rfl) (pv 2) ⟨rfl,rfl,rfl,rfl⟩) z7))) (zi (zu (qo rfl mn (v:=.ref na) rfl))),?_⟩
 symm
 cases arg with
 | str nm=>
  unfold Q7 at hg;dsimp only at hg;have hgt:DGet H kd (.str nm) (valV m.kn (Sum.inr nm:Key)):=DGet.k (k:=Sum.inr nm) hA.known;by_cases hz:qW m.st.length=true
  case neg=>rw [kF hz] at hg;cases hg
  rw [kG hz] at hg;cases hg;refine ⟨ho,C,dx,_,.ref hl,rfl,hA.ins,c.cl,c.held,rfl,.inl ⟨rfl,_,SqL.of hA.held⟩,ho,C,dx,_,.ref kd,rfl,hA.ins,c.cl,c.known,rfl,kd,rfl,.inl ⟨_,.inl hA.known⟩,_,hgt,hl,_,_,rfl,rfl,hA.held,jx hz,?_⟩;exact q na _ (tn.sq _) (hA.setHeld _) qw.a
 | _=>cases hg
theorem sc87:zr ["hold","op","arg"] ["hold","op","arg"] (zh (top 87)):=fsM
theorem z5i (D:zx K mg "do_store" (top 87)) (c:jP K C) (cs:Cons K mg):FN P w K mg base 1 "do_store" vZ (qj K C Q5):=by
 refine FN.o D sc87 fun f cdv A vY s H vs Q E hr h=>?_
 obtain ⟨ho,hl,kd,sl,dx,op,arg,m,res,m',rfl,hA,hg,q⟩:=h;have hu:=Ql hr;obtain ⟨na,mn,tn⟩:=cs.next;refine ⟨_,z8 (z1c hu (zV (pv 0) rfl) (pv 2) (jT (zV (pv 0) rfl)) rfl) (zi (zu (qo rfl mn (v:=.ref na) rfl))),?_⟩
 symm
 cases arg with
 | str nm=>
  unfold Q5 at hg;dsimp only at hg;cases hv:m.st.getLast? with
  | none=>rw [hv] at hg;cases hg
  | some v=>
   rw [hv] at hg;dsimp only at hg;by_cases hz:qW m.kn.length=true
   case neg=>rw [kF hz] at hg;cases hg
   rw [kG hz] at hg;cases hg;have h1:=hA.setHeld m.st.dropLast;refine ⟨ho,C,dx,_,.ref hl,rfl,hA.ins,c.cl,c.held,rfl,.inl ⟨rfl,_,SqL.of hA.held⟩,hl,_,_,rfl,rfl,hA.held,jo hv,?_⟩;refine ⟨ho,C,dx,_,.ref kd,rfl,h1.ins,c.cl,c.known,rfl,kd,_,rfl,DPut.k (k:=Sum.inr nm) h1.known (jx hz),?_⟩;exact q na _ (tn.sq _) (h1.setKnown _) (qw.a.trans qw.b)
 | _=>cases hg
theorem sc88:zr ["hold","op","arg"] ["hold","op","arg"] (zh (top 88)):=fsM
theorem z5x (D:zx K mg "do_clear" (top 88)) (c:jP K C) (cs:Cons K mg):FN P w K mg base 1 "do_clear" vZ (qj K C ZG):=by
 refine FN.o D sc88 fun f cdv A vY s H vs Q E hr h=>?_
 obtain ⟨ho,hl,kd,sl,dx,op,arg,m,res,m',rfl,hA,hg,q⟩:=h;have hu:=Ql hr;obtain ⟨na,mn,tn⟩:=cs.next;obtain ⟨ua,mu,tu⟩:=cs.unset;refine ⟨_,z8 (zY (z1H (QU hu (pv 2) (zV (pv 0) rfl))) (zi (zu (qo rfl mu (v:=.ref ua) rfl))) zE)
  (z8 (zp (z4N (zV (pv 0) rfl) (pv 2) ⟨rfl,rfl,rfl,rfl⟩)) (zi (zu (qo rfl mn (v:=.ref na) rfl)))),?_⟩
 symm
 cases arg with
 | str nm=>
  unfold ZG at hg;dsimp only at hg;have hgt:DGet H kd (.str nm) (valV m.kn (Sum.inr nm:Key)):=DGet.k (k:=Sum.inr nm) hA.known;refine ⟨ho,C,dx,_,.ref kd,rfl,hA.ins,c.cl,c.known,rfl,kd,_,rfl,hgt,_,rfl,?_⟩;cases hv:valV m.kn (Sum.inr nm:Key) with
  | none=>
   rw [hv] at hg;cases hg;exact iteT (q ua H (tu.sq _) hA qw.refl)
  | some v=>
   rw [hv] at hg;cases hg;refine iteF ⟨ho,C,dx,_,.ref kd,rfl,hA.ins,c.cl,c.known,rfl,kd,rfl,.inl ⟨_,.inl hA.known⟩,_,Sum.inr nm,v,hA.known,rfl,hv,?_⟩;exact q na _ (tn.sq _) (hA.setKnown _) qw.b
 | _=>cases hg
theorem sc95:zr ["hold","op","arg"] ["hold","op","arg"] (zh (top 95)):=fsM
theorem z7j (D:zx K mg "do_tell" (top 95)) (c:jP K C) (cs:Cons K mg):FN P w K mg base 1 "do_tell" vZ (qj K C JY):=by
 refine FN.o D sc95 fun f cdv A vY s H vs Q E hr h=>?_
 obtain ⟨ho,hl,kd,sl,dx,op,arg,m,res,m',rfl,hA,hg,q⟩:=h;obtain ⟨na,mn,tn⟩:=cs.next;refine ⟨_,z8 (zp (jC (zV (pv 0) rfl) (z6 (jT (zV (pv 0) rfl)) z7))) (zi (zu (qo rfl mn (v:=.ref na) rfl))),?_⟩
 symm
 unfold JY at hg;cases hv:m.st.getLast? with
 | none=>rw [hv] at hg;cases hg
 | some v=>
  rw [hv] at hg;dsimp only at hg;by_cases hz:qW m.sd.length=true
  case neg=>rw [kF hz] at hg;cases hg
  rw [kG hz] at hg;cases hg;have h1:=hA.setHeld m.st.dropLast;refine ⟨ho,C,dx,_,.ref sl,rfl,hA.ins,c.cl,c.said,rfl,.inl ⟨rfl,_,SqL.of hA.said⟩,ho,C,dx,_,.ref hl,rfl,hA.ins,c.cl,c.held,rfl,.inl ⟨rfl,_,SqL.of hA.held⟩,hl,_,_,rfl,rfl,hA.held,jo hv,sl,_,_,rfl,rfl,h1.said,jx hz,?_⟩;exact q na _ (tn.sq _) (h1.setSaid _) (qw.a.trans qw.c)
theorem sc97:zr ["hold","op","arg"] ["hold","op","arg"] (zh (top 97)):=fsM
theorem jO {a b:Str}:decide (V.str a=V.str b)=decide (a=b):=by
 by_cases h:a=b
 ·rw [h];simp
 ·rw [km h,km (fun z=>h (by injection z))]
theorem zau (D:zx K mg "do_if" (top 97)) (c:jP K C) (cs:Cons K mg) (FT:FN P w K mg base 1 "is_true" ["value"] z1A):FN P w K mg base 2 "do_if" vZ (qj K C gIf):=by
 refine FN.o D sc97 fun f cdv A vY s H vs Q E hr h=>?_
 obtain ⟨ho,hl,kd,sl,dx,op,arg,m,res,m',rfl,hA,hg,q⟩:=h;obtain ⟨na,mn,tn⟩:=cs.next;obtain ⟨ga,mgo,tg⟩:=cs.go;refine ⟨_,zi (zu (j6 (zt qM (zw FT hr rfl (z6 (jT (zV (pv 0) rfl)) z7)) (qT qM (pv 1) zq (zA _)) (zA _)) (qo rfl mgo (v:=.ref ga) rfl) (qo rfl mn (v:=.ref na) rfl))),?_⟩
 symm
 unfold gIf at hg;cases hv:m.st.getLast? with
 | none=>rw [hv] at hg;cases hg
 | some v=>
  rw [hv] at hg;dsimp only at hg;by_cases hz:Z9 v=true
  case neg=>rw [kF hz] at hg;cases hg
  rw [kG hz] at hg;cases hg;have h1:=hA.setHeld m.st.dropLast;refine ⟨ho,C,dx,_,.ref hl,rfl,hA.ins,c.cl,c.held,rfl,.inl ⟨rfl,_,SqL.of hA.held⟩,hl,_,_,rfl,rfl,hA.held,jo hv,v,rfl,ZJ hz,rfl,rfl,_,rfl,?_⟩;rw [jO,z0K];refine ite2 (fun e=>?_) (fun e=>?_)
  ·rw [kG (eq_of_beq e)] at q;exact q ga _ (tg.sq _) h1 qw.a
  ·rw [kF (fun z=>e (beq_iff_eq.mpr z))] at q;exact q na _ (tn.sq _) h1 qw.a
theorem sc98:zr ["hold","op","arg"] ["hold","op","arg"] (zh (top 98)):=fsM
theorem zaq (D:zx K mg "do_or" (top 98)) (c:jP K C) (cs:Cons K mg) (FT:FN P w K mg base 1 "is_true" ["value"] z1A):FN P w K mg base 2 "do_or" vZ (qj K C gOr):=by
 refine FN.o D sc98 fun f cdv A vY s H vs Q E hr h=>?_
 obtain ⟨ho,hl,kd,sl,dx,op,arg,m,res,m',rfl,hA,hg,q⟩:=h;obtain ⟨na,mn,tn⟩:=cs.next;obtain ⟨ga,mgo,tg⟩:=cs.go;refine ⟨_,z8 (zY (zt qM (zw FT hr rfl (z6 (zZ zI (zV (pv 0) rfl) (ZL jy zl) (fun _ _=>rfl)) z7)) (qT qM (pv 1) zq (zA _)) (zA _)) (zi (zu (qo rfl mgo (v:=.ref ga) rfl))) zE)
  (z8 (zp (jT (zV (pv 0) rfl))) (zi (zu (qo rfl mn (v:=.ref na) rfl)))),?_⟩
 symm
 unfold gOr at hg;cases hv:m.st.getLast? with
 | none=>rw [hv] at hg;cases hg
 | some v=>
  rw [hv] at hg;dsimp only at hg;by_cases hz:Z9 v=true
  case neg=>rw [kF hz] at hg;cases hg
  rw [kG hz] at hg;have hat:atI m.st (-1)=some v:=by rw [z78 hv];exact z09 _ _
  refine ⟨ho,C,dx,_,.ref hl,rfl,hA.ins,c.cl,c.held,rfl,1,rfl,hl,_,_,v,rfl,rfl,SqL.of hA.held,hat,v,rfl,ZJ hz,rfl,rfl,_,rfl,?_⟩;rw [jO,z0K];refine ite2 (fun e=>?_) (fun e=>?_)
  ·rw [kG (eq_of_beq e)] at hg;cases hg;exact q ga _ (tg.sq _) hA qw.refl
  ·rw [kF (fun z=>e (beq_iff_eq.mpr z))] at hg;cases hg;refine ⟨ho,C,dx,_,.ref hl,rfl,hA.ins,c.cl,c.held,rfl,.inl ⟨rfl,_,SqL.of hA.held⟩,hl,_,_,rfl,rfl,hA.held,jo hv,?_⟩;exact q na _ (tn.sq _) (hA.setHeld _) qw.a
theorem sc99:zr ["hold","op","arg"] ["hold","op","arg"] (zh (top 99)):=fsM
theorem z3O (D:zx K mg "do_return" (top 99)) (c:jP K C):FN P w K mg base 1 "do_return" vZ (qj K C Z0):=by
 refine FN.o D sc99 fun f cdv A vY s H vs Q E hr h=>?_
 obtain ⟨ho,hl,kd,sl,dx,op,arg,m,res,m',rfl,hA,hg,q⟩:=h;refine ⟨_,zi (zu (qb (z6 zq (z6 (jT (zV (pv 0) rfl)) z7)))),?_⟩
 symm
 unfold Z0 at hg;cases hv:m.st.getLast? with
 | none=>rw [hv] at hg;cases hg
 | some v=>
  rw [hv] at hg;cases hg;have h1:=hA.setHeld m.st.dropLast;refine ⟨ho,C,dx,_,.ref hl,rfl,hA.ins,c.cl,c.held,rfl,.inl ⟨rfl,_,SqL.of hA.held⟩,hl,_,_,rfl,rfl,hA.held,jo hv,vW,fun p hp=>?_⟩;have sp:=zo hp (.tup [.str "value",v]);exact q p _ (SqT.of zc) (h1.same sp) (qw.a.trans (qw.of sp))
noncomputable def z1o:Deed:=fun _ _ m=>some (.go,m)
theorem sc96:zr ["hold","op","arg"] ["hold","op","arg"] (zh (top 96)):=fsM
theorem z7D (D:zx K mg "do_jump" (top 96)) (cs:Cons K mg):FN P w K mg base 1 "do_jump" vZ (qj K C z1o):=by
 refine FN.o D sc96 fun f cdv A vY s H vs Q E hr h=>?_
 obtain ⟨ho,hl,kd,sl,dx,op,arg,m,res,m',rfl,hA,hg,q⟩:=h;obtain ⟨ga,mgo,tg⟩:=cs.go;cases hg;exact ⟨_,zi (zu (qo rfl mgo (v:=.ref ga) rfl)),q ga _ (tg.sq _) hA qw.refl⟩
end
end My
namespace L2
section
variable {X:Cx}
theorem PSs.imp {st:List Stmt} {t t':TS} (h:PSs X st t) (hi:∀D σ H,t' D σ H->t D σ H):PSs X st t':=fun vX s σ H D I q=>h vX s σ H D I (hi D σ H q)
end
end L2
namespace My
open L2
variable {P:Program} {w:World} {K:kE} {mg:Str->Option Value} {base:Heap}
theorem z5N:bootBuiltins "abs"=some (.builtin "abs"):=vV
theorem z4U {X:Cx}:OpR X (binaryOp .FloorDiv) (rI (fun _ j=>j≠0/\j.natAbs.log2 < 9000) fun i j=>.int (i.fdiv j)):=opI fun _ _ _ _ _ _ _ hc q=>floordiv_int hc.1 q (.inl (PyProof.noPylong_of_log2 hc.2))
noncomputable def big (i:Int):Bool:=decide (1000000000000000000 < i.natAbs)
theorem z3x {j:Int} (h:big j=false):j.natAbs.log2 < 9000:=by
 have h1:¬1000000000000000000 < j.natAbs:=of_decide_eq_false h;by_cases z:j.natAbs=0
 ·rw [z];decide
 ·have h2:=(Nat.log2_lt z (k:=64)).mpr (by lia);lia
noncomputable def reck (op:Str) (i j:Int):Option Int:=
 if op="add" then some (i+j) else if op="sub" then some (i - j) else if op="mul" then some (i * j) else if op="div" then (if j=0 then none else some (i.fdiv j)) else if op="rest" then (if j=0 then none else some (i.fmod j)) else none
noncomputable def z4D (x y:V):Bool:=isB x == isB y&&decide (x=y)
noncomputable def ZF (op:Str) (x y:V):Option (V × V):=
 if op="same" then some (.non,.bl (z4D x y)) else match x,y with
 | .int i,.int j=>if big i=true then none else if big j=true then none else if (op="div"\/op="rest")/\j=0 then some (.str "Zero",.non) else if op="less" then some (.non,.bl (decide (i < j)))
  else (match reck op i j with
   | some k=>if big k=true then some (.str "Big",.non) else some (.non,.int k)
   | none=>none)
 | _,_=>some (.str "Type",.non)
theorem Jm {op:Str} {x y:V} (h0:op≠"same") (h:QC x=false\/QC y=false):ZF op x y=some (.str "Type",.non):=by
 unfold ZF;rw [kF h0];cases x with
 | int i=>
  cases y with
  | int j=>rcases h with h | h <;> cases h
  | _=>rfl
 | _=>rfl
noncomputable def JO (op:Str) (x:V):Option (V × V):=
 if op="not" then some (.non,.bl (!Qq x)) else match x with
 | .int i=>some (.non,.int (-i))
 | _=>some (.str "Type",.non)
structure TabR (w:World) (K:kE) (mg:Str->Option Value):Prop where
 tab:∃d f1 f2 f3 f4 f5,mg "RECKONINGS"=some (.ref d)/\KTab w.params K d [("add",.ref f1),("sub",.ref f2),("mul",.ref f3),("div",.ref f4),("rest",.ref f5)]/\
  mg "sum_of"=some (.ref f1)/\mg "difference_of"=some (.ref f2)/\mg "product_of"=some (.ref f3)/\mg "quotient_of"=some (.ref f4)/\mg "rest_of"=some (.ref f5)
def spI2 (c:Int->Int->Prop) (g:Int->Int->Int):Sp:=fun vs H Q _=>∃i j,vs=[.int i,.int j]/\c i j/\Q (.int (g i j)) H
theorem ZU {c:Int->Int->Prop} {g:Int->Int->Int} (vs:List V) (H:Hp) (Q:VK) (E:XK) (h:spI2 c g vs H Q E):vs.length=2:=by
 obtain ⟨i,j,rfl,_⟩:=h;rfl
abbrev Sm (i j:Int):Prop:=big i=false/\big j=false
section
theorem sc66:zr ["first","second"] ["first","second"] (zh (top 66)):=fsM
theorem z9f (D:zx K mg "sum_of" (top 66)):FN P w K mg base 1 "sum_of" Va (spI2 Sm (· +·)):=by
 refine FN.of D sc66 (fun _ _ _ _ _ _=>zU2 fun _ _=>rfl) ZU (fun f cdv A vY s H vs Q E hr h=>?_);obtain ⟨i,j,rfl,hc,q⟩:=h;exact ⟨_,zi (zu (qa js (pv 0) (pv 1))),i,j,rfl,rfl,q⟩
theorem sc67:zr ["first","second"] ["first","second"] (zh (top 67)):=fsM
theorem z7I (D:zx K mg "difference_of" (top 67)):FN P w K mg base 1 "difference_of" Va (spI2 Sm (· - ·)):=by
 refine FN.of D sc67 (fun _ _ _ _ _ _=>zU2 fun _ _=>rfl) ZU (fun f cdv A vY s H vs Q E hr h=>?_);obtain ⟨i,j,rfl,hc,q⟩:=h;exact ⟨_,zi (zu (qa jD (pv 0) (pv 1))),i,j,rfl,rfl,q⟩
theorem sc68:zr ["first","second"] ["first","second"] (zh (top 68)):=fsM
theorem z36 {i j:Int} (h:big i=false):CMul i j:=by
 have h1:¬1000000000000000000 < i.natAbs:=of_decide_eq_false h;exact .inl ⟨by lia,by lia⟩
theorem z7t (D:zx K mg "product_of" (top 68)):FN P w K mg base 1 "product_of" Va (spI2 Sm (· * ·)):=by
 refine FN.of D sc68 (fun _ _ _ _ _ _=>zU2 fun _ _=>rfl) ZU (fun f cdv A vY s H vs Q E hr h=>?_);obtain ⟨i,j,rfl,hc,q⟩:=h;exact ⟨_,zi (zu (qa z0r (pv 0) (pv 1))),i,j,rfl,rfl,z36 hc.1,q⟩
theorem sc69:zr ["first","second"] ["first","second"] (zh (top 69)):=fsM
theorem z7r (D:zx K mg "quotient_of" (top 69)):FN P w K mg base 1 "quotient_of" Va (spI2 (fun i j=>Sm i j/\j≠0) Int.fdiv):=by
 refine FN.of D sc69 (fun _ _ _ _ _ _=>zU2 fun _ _=>rfl) ZU (fun f cdv A vY s H vs Q E hr h=>?_);obtain ⟨i,j,rfl,hc,q⟩:=h;exact ⟨_,zi (zu (qa z4U (pv 0) (pv 1))),i,j,rfl,rfl,⟨hc.2,z3x hc.1.2⟩,q⟩
theorem sc70:zr ["first","second"] ["first","second"] (zh (top 70)):=fsM
theorem z7q (D:zx K mg "rest_of" (top 70)):FN P w K mg base 1 "rest_of" Va (spI2 (fun i j=>Sm i j/\j≠0) Int.fmod):=by
 refine FN.of D sc70 (fun _ _ _ _ _ _=>zU2 fun _ _=>rfl) ZU (fun f cdv A vY s H vs Q E hr h=>?_);obtain ⟨i,j,rfl,hc,q⟩:=h;exact ⟨_,zi (zu (qa z6Z (pv 0) (pv 1))),i,j,rfl,rfl,hc.2,q⟩
def z61:Sp:=fun vs H Q _=>∃x y,vs=[x,y]/\Scal x/\Scal y/\Q (.bl (z4D x y)) H
theorem sc65:zr ["first","second"] ["first","second"] (zh (top 65)):=fsM
theorem z38 {x y:V} (hx:Scal x) (hy:Scal y) (h:isB x=isB y):scal x y=true:=by
 cases hx <;> cases hy <;> first | rfl | (cases h)
theorem z7p (D:zx K mg "are_same" (top 65)) (G:Glo mg):FN P w K mg base 1 "are_same" Va z61:=by
 refine FN.o D sc65 fun f cdv A vY s H vs Q E hr h=>?_
 obtain ⟨x,y,rfl,hx,hy,q⟩:=h;refine ⟨_,zi (zu (jU (qT qM (zH qE rfl G.isinstance zX (z6 (pv 0) (z6 (QS "bool" rfl G.bool Zr) z7))) (zH qE rfl G.isinstance zX (z6 (pv 1) (z6 (QS "bool" rfl G.bool Zr) z7))) (zA _))
  (Z6 (qT qM (pv 0) (pv 1) (zA _))))),?_⟩
 symm
 obtain ⟨t1,ty1,k1⟩:=Q4 (K:=K) (H:=H) hx;obtain ⟨t2,ty2,k2⟩:=Q4 (K:=K) (H:=H) hy;refine ⟨_,"bool",t1,_,rfl,ty1,k1,_,"bool",t2,_,rfl,ty2,k2,rfl,isB x == isB y,vF V.bl z0K,?_⟩;unfold z4D at q;cases e:isB x == isB y with
 | true=>
  rw [e,Bool.true_and] at q;exact iteT ⟨z38 hx hy (eq_of_beq e),q⟩
 | false=>
  rw [e,vy] at q;exact iteF q
def z2Y:Sp:=fun vs H Q _=>∃op x y r1 r2,vs=[.str op,x,y]/\Scal x/\Scal y/\ZF op x y=some (r1,r2)/\∀t H',Same H H'->H' t=some (.tup [r1,r2])->Q (.ref t) H'
theorem sc72:zr ["op","first","second","reckon","value"] ["op","first","second"] (zh (top 72)):=fsM
theorem z7Z {k:Int}:decide ((1000000000000000000:Int) < (if k < 0 then -k else k))=big k:=by
 unfold big;by_cases h:k < 0
 ·rw [kG h];by_cases z:(1000000000000000000:Int) < -k
  ·rw [ko z,ko (by lia)]
  ·rw [km z,km (by lia)]
 ·rw [kF h];by_cases z:(1000000000000000000:Int) < k
  ·rw [ko z,ko (by lia)]
  ·rw [km z,km (by lia)]
noncomputable def st66 (k:Nat):Stmt:=(zG (top 72)).getD k (.Pass ⟨0,0,0,0⟩)
noncomputable abbrev N66:List Str:=["op","first","second","reckon","value"]
noncomputable def z6l (op:Str) (i j:Int):Option (V × V):=if op="less" then some (.non,.bl (decide (i < j))) else (match reck op i j with
 | some k=>if big k=true then some (.str "Big",.non) else some (.non,.int k)
 | none=>none)
def T66:TS:=fun D σ H=>∃(op:Str) (i j:Int) (r1 r2:V),σ=[some (.str op),some (.int i),some (.int j),none,none]/\Sm i j/\z6l op i j=some (r1,r2)/\∀t H',Same H H'->H' t=some (.tup [r1,r2])->D.rt (.ref t) H'
theorem z6P {K:kE} {mg:Str->Option Value} {f1 f2 f3 f4 f5:Addr} {op:Str} {i j k:Int} (hs:Sm i j) (h:reck op i j=some k) (m1:mg "sum_of"=some (.ref f1)) (m2:mg "difference_of"=some (.ref f2)) (m3:mg "product_of"=some (.ref f3)) (m4:mg "quotient_of"=some (.ref f4)) (m5:mg "rest_of"=some (.ref f5))
  (F1:FN P w K mg base 1 "sum_of" Va (spI2 Sm (· +·))) (F2:FN P w K mg base 1 "difference_of" Va (spI2 Sm (· - ·))) (F3:FN P w K mg base 1 "product_of" Va (spI2 Sm (· * ·)))
  (F4:FN P w K mg base 1 "quotient_of" Va (spI2 (fun i j=>Sm i j/\j≠0) Int.fdiv)) (F5:FN P w K mg base 1 "rest_of" Va (spI2 (fun i j=>Sm i j/\j≠0) Int.fmod)):
  ∃(c:Int->Int->Prop) (g:Int->Int->Int) (name:Str) (fa:Addr),FN P w K mg base 1 name ["first","second"] (spI2 c g)/\mg name=some (.ref fa)/\([("add",.ref f1),("sub",.ref f2),("mul",.ref f3),("div",.ref f4),("rest",.ref f5)]:List (Str × V)).lookup op=some (.ref fa)/\c i j/\g i j=k:=by
 unfold reck at h;by_cases h1:op="add"
 ·rw [kG h1] at h;exact ⟨_,_,_,_,F1,m1,by rw [h1];rfl,hs,kH h⟩
 rw [kF h1] at h;by_cases h1:op="sub"
 ·rw [kG h1] at h;exact ⟨_,_,_,_,F2,m2,by rw [h1];rfl,hs,kH h⟩
 rw [kF h1] at h;by_cases h1:op="mul"
 ·rw [kG h1] at h;exact ⟨_,_,_,_,F3,m3,by rw [h1];rfl,hs,kH h⟩
 rw [kF h1] at h;by_cases h1:op="div"
 ·rw [kG h1] at h;by_cases hj:j=0
  ·rw [kG hj] at h;cases h
  ·rw [kF hj] at h;exact ⟨_,_,_,_,F4,m4,by rw [h1];rfl,⟨hs,hj⟩,kH h⟩
 rw [kF h1] at h;by_cases h1:op="rest"
 ·rw [kG h1] at h;by_cases hj:j=0
  ·rw [kG hj] at h;cases h
  ·rw [kF hj] at h;exact ⟨_,_,_,_,F5,m5,by rw [h1];rfl,⟨hs,hj⟩,kH h⟩
 rw [kF h1] at h;cases h
theorem z8C {f:Addr} {cdv:Value} {A:Around} {vY:List Env} {s:Shared} {H0:Hp} {E:XK} (hr:Room 1 (A.deeper (envOfC "made_of_two" (zh (top 72)) s.heap.objs.size f cdv))) (G:Glo mg) (T:TabR w K mg)
  (F1:FN P w K mg base 1 "sum_of" Va (spI2 Sm (· +·))) (F2:FN P w K mg base 1 "difference_of" Va (spI2 Sm (· - ·))) (F3:FN P w K mg base 1 "product_of" Va (spI2 Sm (· * ·)))
  (F4:FN P w K mg base 1 "quotient_of" Va (spI2 (fun i j=>Sm i j/\j≠0) Int.fdiv)) (F5:FN P w K mg base 1 "rest_of" Va (spI2 (fun i j=>Sm i j/\j≠0) Int.fmod)):
  PSs (cxOf CX0 P w K mg base N66 "made_of_two" (zh (top 72)) f cdv A vY s H0 E).nox [st66 3,st66 4,st66 5,st66 6,st66 7] T66:=by
 obtain ⟨d,f1,f2,f3,f4,f5,md,td,m1,m2,m3,m4,m5⟩:=T.tab;refine PSs.imp (z8 (zY (zt qM (pv 0) zq (zA _)) (zi (zu (qb (z6 qk (z6 (qT Je (pv 1) (pv 2) (zA _)) z7))))) zE)
  (z8 (zK (i:=3) sc72.nd rfl (Or.inl rfl) (JI td rfl md (pv 0) (fun _ _=>rfl)))
  (z8 (zK (i:=4) sc72.nd rfl (Or.inl rfl) (JK (pv 3) (z6 (pv 1) (z6 (pv 2) z7))))
  (z8 (zY (zt Jf (zH z5J rfl G.abs z5N (z6 (pv 4) z7)) (jJ rfl G.made) (zA _)) (zi (zu (qb (z6 zq (z6 qk z7))))) zE)
  (zi (zu (qb (z6 qk (z6 (pv 4) z7))))))))) ?_
 rintro D σ H ⟨op,i,j,r1,r2,rfl,hs,hm,q⟩;unfold z6l at hm;refine ⟨rfl,decide (op="less"),vF V.bl jO,?_⟩;by_cases h0:op="less"
 ·rw [kG h0] at hm;cases hm;rw [ko h0];exact iteT ⟨_,_,rfl,rfl,vW,fun t ht=>q t _ (zo ht _) zc⟩
 rw [kF h0] at hm;rw [km h0];refine iteF ?_;cases hk:reck op i j with
 | none=>rw [hk] at hm;cases hm
 | some k=>
  rw [hk] at hm;dsimp only at hm;obtain ⟨c,g,name,fa,⟨f',fd,a',b',c',d'⟩,e1,e2,e3,e4⟩:=z6P (P:=P) (w:=w) (base:=base) hs hk m1 m2 m3 m4 m5 F1 F2 F3 F4 F5;rw [a'] at e1;cases e1;subst e4;refine ⟨op,_,rfl,e2,fa,fd,_,_,1,rfl,b',d',hr,c',i,j,rfl,e3,?_⟩;refine ⟨_,rfl,_,_,rfl,rfl,big (g i j),vF V.bl z7Z,?_⟩;cases b:big (g i j) with
  | true=>
   rw [b,kG rfl] at hm;cases hm;exact iteT ⟨vW,fun t ht=>q t _ (zo ht _) zc⟩
  | false=>
   rw [b,kF ke] at hm;cases hm;exact iteF ⟨vW,fun t ht=>q t _ (zo ht _) zc⟩
theorem z5o (D:zx K mg "made_of_two" (top 72)) (FN1:FN P w K mg base 1 "is_number" Vb (sp1 QC)) (FSm:FN P w K mg base 1 "are_same" Va z61) (G:Glo mg) (T:TabR w K mg)
  (F1:FN P w K mg base 1 "sum_of" Va (spI2 Sm (· +·))) (F2:FN P w K mg base 1 "difference_of" Va (spI2 Sm (· - ·))) (F3:FN P w K mg base 1 "product_of" Va (spI2 Sm (· * ·)))
  (F4:FN P w K mg base 1 "quotient_of" Va (spI2 (fun i j=>Sm i j/\j≠0) Int.fdiv)) (F5:FN P w K mg base 1 "rest_of" Va (spI2 (fun i j=>Sm i j/\j≠0) Int.fmod)):FN P w K mg base 2 "made_of_two" ["op","first","second"] z2Y:=by
 refine FN.o D sc72 fun f cdv A vY s H vs Q E hr h=>?_
 obtain ⟨op,x,y,r1,r2,rfl,hx,hy,hm,q⟩:=h;refine ⟨_,z8 (zY (zt qM (pv 0) zq (zA _)) (zi (zu (qb (z6 qk (z6 (zw FSm hr rfl (z6 (pv 1) (z6 (pv 2) z7))) z7))))) zE)
  (z8 (zY (PW.pt (QA (jS (j8 (zw FN1 hr rfl (z6 (pv 1) z7)))) (Z5 (jS (j8 (zw FN1 hr rfl (z6 (pv 2) z7))))))) (zi (zu (qb (z6 zq (z6 qk z7))))) zE)
  (z8 (zY (PW.pt (QP (zt jh (pv 0) (qb (z6 zq (z6 zq z7))) rfl) (ZK (zt qM (pv 2) zl (zA _))))) (zi (zu (qb (z6 zq (z6 qk z7))))) zE)
  (z8C hr G T F1 F2 F3 F4 F5))),?_⟩
 symm
 refine ⟨rfl,decide (op="same"),vF V.bl jO,?_⟩;by_cases h0:op="same"
 ·unfold ZF at hm;rw [kG h0] at hm;cases hm;rw [ko h0];exact iteT ⟨x,y,rfl,hx,hy,vW,fun t ht=>q t _ (zo ht _) zc⟩
 rw [km h0];refine iteF ⟨x,rfl,hx,QC x,rfl,?_⟩;have typ:ZF op x y=some (.str "Type",.non)->∀σ,tTup (jl (tC (.str "Type")) (jl (tC .non) tNil)) σ H Q:=fun e σ=>by
  rw [hm] at e;cases e;exact ⟨vW,fun t ht=>q t _ (zo ht _) zc⟩
 cases hnx:QC x with
 | false=>exact iteT (iteT (typ (Jm h0 (.inl hnx)) _))
 | true=>
  refine iteF ⟨y,rfl,hy,QC y,rfl,?_⟩;cases hny:QC y with
  | false=>exact iteT (typ (Jm h0 (.inr hny)) _)
  | true=>
   refine iteF ?_;clear typ;cases hx with
   | int i=>
    cases hy with
    | int j=>
     unfold ZF at hm;rw [kF h0] at hm;dsimp only at hm;cases b1:big i with
     | true=>rw [b1,kG rfl] at hm;cases hm
     | false=>
      rw [b1,kF ke] at hm;cases b2:big j with
      | true=>rw [b2,kG rfl] at hm;cases hm
      | false=>
       rw [b2,kF ke] at hm;refine ⟨vW,fun p hp=>⟨p,_,rfl,.inr (SqT.of zc),rfl,rfl,inT op ["div","rest"],rfl,?_⟩⟩;have s1:=zo hp (.tup [.str "div",.str "rest"]);generalize upd H p (.tup [.str "div",.str "rest"])=H1 at *;have go:¬((op="div"\/op="rest")/\j=0)->T66 { nx:=fun _ H'=>Q .non H',rt:=Q } [some (.str op),some (.int i),some (.int j),none,none] H1:=fun z=>by
        rw [kF z] at hm;exact ⟨op,i,j,r1,r2,rfl,⟨b1,b2⟩,hm,fun t H' s' ht=>q t H' (s1.trans s') ht⟩
       cases hin:inT op ["div","rest"] with
       | false=>
        refine iteF (iteF (go fun z=>?_));have:inT op ["div","rest"]=true:=Zo.mpr (by rcases z.1 with z | z <;> rw [z] <;> decide+kernel)
        rw [hin] at this;cases this
       | true=>
        have hop:op="div"\/op="rest":=by
         have:=Zo.mp hin
         rcases kJ.mp this with z | z
         ·exact .inl z
         ·exact .inr (kz.mp z)
        obtain ⟨z,hz⟩:∃z,decide (V.int j=V.int 0)=z:=⟨_,rfl⟩
        refine iteT ⟨rfl,z,vF V.bl hz,?_⟩;cases z with
        | true=>
         have hj:j=0:=by have:=kI hz;injection this
         rw [kG ⟨hop,hj⟩] at hm;cases hm;exact iteT ⟨vW,fun t ht=>q t _ (s1.trans (zo ht _)) zc⟩
        | false=>
         have hj:¬j=0:=fun z=>by rw [z] at hz;cases hz
         exact iteF (go fun z=>hj z.2)
    | _=>cases hny
   | _=>cases hnx
def z2Z:Sp:=fun vs H Q _=>∃op x r1 r2,vs=[.str op,x]/\Scal x/\JO op x=some (r1,r2)/\∀t H',Same H H'->H' t=some (.tup [r1,r2])->Q (.ref t) H'
theorem sc73:zr ["op","value"] ["op","value"] (zh (top 73)):=fsM
theorem z5p (D:zx K mg "made_of_one" (top 73)) (FN1:FN P w K mg base 1 "is_number" Vb (sp1 QC)) (FT:FN P w K mg base 1 "is_true" ["value"] z1A):FN P w K mg base 2 "made_of_one" ["op","value"] z2Z:=by
 refine FN.o D sc73 fun f cdv A vY s H vs Q E hr h=>?_
 obtain ⟨op,x,r1,r2,rfl,hx,hm,q⟩:=h;refine ⟨_,z8 (zY (zt qM (pv 0) zq (zA _)) (zi (zu (qb (z6 qk (z6 (z6d (zw FT hr rfl (z6 (pv 1) z7))) z7))))) zE)
  (z8 (zY (jS (j8 (zw FN1 hr rfl (z6 (pv 1) z7)))) (zi (zu (qb (z6 zq (z6 qk z7))))) zE)
  (zi (zu (qb (z6 qk (z6 (ZL jy (pv 1)) z7)))))),?_⟩
 symm
 unfold JO at hm;refine ⟨rfl,decide (op="not"),vF V.bl jO,?_⟩;by_cases h0:op="not"
 ·rw [kG h0] at hm;cases hm;rw [ko h0];exact iteT ⟨x,rfl,hx,_,rfl,vW,fun t ht=>q t _ (zo ht _) zc⟩
 rw [kF h0] at hm;rw [km h0];refine iteF ⟨x,rfl,hx,QC x,rfl,?_⟩;cases hx with
 | int i=>cases hm;exact iteF ⟨i,rfl,vW,fun t ht=>q t _ (zo ht _) zc⟩
 | non=>cases hm;exact iteT ⟨vW,fun t ht=>q t _ (zo ht _) zc⟩
 | bl b=>cases hm;exact iteT ⟨vW,fun t ht=>q t _ (zo ht _) zc⟩
 | str z hz=>cases hm;exact iteT ⟨vW,fun t ht=>q t _ (zo ht _) zc⟩
end
noncomputable def z00:Deed:=fun _ _ m=>match m.st.getLast? with
 | some _=>some (.next,{ m with st:=m.st.dropLast })
 | none=>none
noncomputable def z0J (st:List V) (arg:V):Option (Nat × V):=match arg with
 | .int n=>if 1<=n/\n.toNat<=st.length then (st[st.length - n.toNat]?).map fun v=>(st.length - n.toNat,v) else none
 | _=>none
noncomputable def z01:Deed:=fun _ arg m=>match z0J m.st arg with
 | some (_,v)=>if qW m.st.length=true then some (.next,{ m with st:=m.st++[v] }) else none
 | none=>none
noncomputable def JZ:Deed:=fun _ arg m=>match z0J m.st arg,m.st.getLast? with
 | some (j,v),some t=>some (.next,{ m with st:=(m.st.set (m.st.length - 1) v).set j t })
 | _,_=>none
noncomputable def z2s (v:V):Option Str:=match v with
 | .str z=>some (if JS (.str z)=true then z else "Type")
 | _=>some "Type"
noncomputable def Q6:Deed:=fun _ _ m=>match m.st.getLast? with
 | some v=>if Z9 v=true then (z2s v).map fun k=>(.fault k,{ m with st:=m.st.dropLast }) else none
 | none=>none
theorem z42 {st:List V} {n:Int} {j:Nat} {v:V} (h:z0J st (.int n)=some (j,v)):ixN st.length (-n)=some j/\st[j]?=some v:=by
 unfold z0J at h;dsimp only at h;by_cases hz:1<=n/\n.toNat<=st.length
 case neg=>rw [kF hz] at h;cases h
 rw [kG hz] at h;cases e:st[st.length - n.toNat]? with
 | none=>rw [e] at h;cases h
 | some w=>
  rw [e] at h;cases h;refine ⟨?_,e⟩;unfold ixN;rw [kF (by lia),kG (by lia)];congr 1
  lia
section
variable {C:Addr}
theorem sc89:zr ["hold","op","arg"] ["hold","op","arg"] (zh (top 89)):=fsM
theorem z7G (D:zx K mg "do_drop" (top 89)) (c:jP K C) (cs:Cons K mg):FN P w K mg base 1 "do_drop" vZ (qj K C z00):=by
 refine FN.o D sc89 fun f cdv A vY s H vs Q E hr h=>?_
 obtain ⟨ho,hl,kd,sl,dx,op,arg,m,res,m',rfl,hA,hg,q⟩:=h;obtain ⟨na,mn,tn⟩:=cs.next;refine ⟨_,z8 (zp (jT (zV (pv 0) rfl))) (zi (zu (qo rfl mn (v:=.ref na) rfl))),?_⟩
 symm
 unfold z00 at hg;cases hv:m.st.getLast? with
 | none=>rw [hv] at hg;cases hg
 | some v=>
  rw [hv] at hg;cases hg;refine ⟨ho,C,dx,_,.ref hl,rfl,hA.ins,c.cl,c.held,rfl,.inl ⟨rfl,_,SqL.of hA.held⟩,hl,_,_,rfl,rfl,hA.held,jo hv,?_⟩;exact q na _ (tn.sq _) (hA.setHeld _) qw.a
theorem sc90:zr ["hold","op","arg"] ["hold","op","arg"] (zh (top 90)):=fsM
theorem z7K (D:zx K mg "do_copy" (top 90)) (c:jP K C) (cs:Cons K mg):FN P w K mg base 1 "do_copy" vZ (qj K C z01):=by
 refine FN.o D sc90 fun f cdv A vY s H vs Q E hr h=>?_
 obtain ⟨ho,hl,kd,sl,dx,op,arg,m,res,m',rfl,hA,hg,q⟩:=h;obtain ⟨na,mn,tn⟩:=cs.next;refine ⟨_,z8 (zp (jC (zV (pv 0) rfl) (z6 (zZ zI (zV (pv 0) rfl) (ZL jy (pv 2)) (fun _ _=>rfl)) z7))) (zi (zu (qo rfl mn (v:=.ref na) rfl))),?_⟩
 symm
 unfold z01 at hg;cases hd:z0J m.st arg with
 | none=>rw [hd] at hg;cases hg
 | some jv=>
  obtain ⟨j,v⟩:=jv;rw [hd] at hg;dsimp only at hg;by_cases hz:qW m.st.length=true
  case neg=>rw [kF hz] at hg;cases hg
  rw [kG hz] at hg;cases hg;obtain ⟨n,rfl⟩:∃n,arg=.int n:=by
   cases arg with
   | int n=>exact ⟨n,rfl⟩
   | _=>cases hd
  obtain ⟨h1,h2⟩:=z42 hd;have hat:atI m.st (-n)=some v:=by
   unfold atI;rw [h1];exact h2
  refine ⟨ho,C,dx,_,.ref hl,rfl,hA.ins,c.cl,c.held,rfl,.inl ⟨rfl,_,SqL.of hA.held⟩,ho,C,dx,_,.ref hl,rfl,hA.ins,c.cl,c.held,rfl,n,rfl,hl,_,_,v,rfl,rfl,SqL.of hA.held,hat,hl,_,_,rfl,rfl,hA.held,jx hz,?_⟩;exact q na _ (tn.sq _) (hA.setHeld _) qw.a
theorem sc91:zr ["hold","op","arg","held"] ["hold","op","arg"] (zh (top 91)):=fsM
theorem z7k (D:zx K mg "do_swap" (top 91)) (c:jP K C) (cs:Cons K mg):FN P w K mg base 1 "do_swap" vZ (qj K C JZ):=by
 refine FN.o D sc91 fun f cdv A vY s H vs Q E hr h=>?_
 obtain ⟨ho,hl,kd,sl,dx,op,arg,m,res,m',rfl,hA,hg,q⟩:=h;obtain ⟨na,mn,tn⟩:=cs.next;refine ⟨_,z8 (zK (i:=3) sc91.nd rfl (Or.inl rfl) (zV (pv 0) rfl))
  (z8 (jq (qb (z6 (zZ zI (pv 3) (ZL jy (pv 2)) (fun _ _=>rfl)) (z6 (zZ zI (pv 3) (ZL jy zl) (fun _ _=>rfl)) z7))) (jr (n:=2) rfl (zD (Qt (pv 3) (ZL jy zl) jH) (zD (Qt (pv 3) (ZL jy (pv 2)) jH) qC))))
  (zi (zu (qo rfl mn (v:=.ref na) rfl)))),?_⟩
 symm
 unfold JZ at hg;cases hd:z0J m.st arg with
 | none=>rw [hd] at hg;cases hg
 | some jv=>
  obtain ⟨j,v⟩:=jv;cases hv:m.st.getLast? with
  | none=>rw [hd,hv] at hg;cases hg
  | some t=>
   rw [hd,hv] at hg;cases hg;obtain ⟨n,rfl⟩:∃n,arg=.int n:=by
    cases arg with
    | int n=>exact ⟨n,rfl⟩
    | _=>cases hd
   obtain ⟨h1,h2⟩:=z42 hd;have hat:atI m.st (-n)=some v:=by
    unfold atI;rw [h1];exact h2
   have hne:0 < m.st.length:=by
    have:=(kj.mp (jo hv)).1
    lia
   have hlx:ixN m.st.length (-1)=some (m.st.length - 1):=by
    unfold ixN;rw [kF (by decide),kG (by lia)];congr 1
    lia
   have hlt:atI m.st (-1)=some t:=by
    unfold atI;rw [hlx];exact jo hv
   refine ⟨ho,C,dx,_,.ref hl,rfl,hA.ins,c.cl,c.held,rfl,?_⟩;refine ⟨n,rfl,hl,_,_,v,rfl,rfl,SqL.of hA.held,hat,1,rfl,hl,_,_,t,rfl,rfl,SqL.of hA.held,hlt,vW,fun tp htp=>?_⟩;have st:=zo htp (.tup [v,t]);have hA1:=hA.same st;refine ⟨tp,_,rfl,SqT.of zc,rfl,_,_,rfl,1,rfl,hl,_,_,m.st.length - 1,rfl,rfl,hA1.held,hlx,?_⟩;have hA2:=hA1.setHeld (m.st.set (m.st.length - 1) v);refine ⟨_,_,rfl,n,rfl,hl,_,_,j,rfl,rfl,hA2.held,by rw [vE];exact h1,?_⟩;exact ⟨rfl,q na _ (tn.sq _) (hA2.setHeld _) ((qw.of st).trans (qw.a.trans qw.a))⟩
def z30:Sp:=fun vs H Q _=>∃x k,vs=[x]/\Scal x/\z2s x=some k/\Q (.str k) H
theorem sc74:zr ["value"] ["value"] (zh (top 74)):=fsM
theorem z5s (D:zx K mg "kind_raised" (top 74)) (FK:FN P w K mg base 2 "is_kind" Vb (sp1 JS)):FN P w K mg base 3 "kind_raised" ["value"] z30:=by
 refine FN.o D sc74 fun f cdv A vY s H vs Q E hr h=>?_
 obtain ⟨x,k,rfl,hx,hk,q⟩:=h;refine ⟨_,zi (zu (j6 (j8 (zw FK hr rfl (z6 (pv 0) z7))) (pv 0) zq)),?_⟩
 symm
 refine ⟨x,rfl,hx,JS x,rfl,?_⟩;cases hx with
 | non=>cases hk;exact iteF q
 | bl b=>cases hk;exact iteF q
 | int i=>cases hk;exact iteF q
 | str z hz=>
  cases hk;cases e:JS (.str z) with
  | true=>rw [e,kG rfl] at q;exact iteT (q)
  | false=>rw [e,kF ke] at q;exact iteF q
theorem za4:zr ["hold","op","arg"] ["hold","op","arg"] (zh (top 100)):=fsM
theorem z5k (D:zx K mg "do_raise" (top 100)) (c:jP K C) (FK:FN P w K mg base 3 "kind_raised" ["value"] z30):FN P w K mg base 4 "do_raise" vZ (qj K C Q6):=by
 refine FN.o D za4 fun f cdv A vY s H vs Q E hr h=>?_
 obtain ⟨ho,hl,kd,sl,dx,op,arg,m,res,m',rfl,hA,hg,q⟩:=h;refine ⟨_,zi (zu (qb (z6 zq (z6 (zw FK hr rfl (z6 (jT (zV (pv 0) rfl)) z7)) z7)))),?_⟩
 symm
 unfold Q6 at hg;cases hv:m.st.getLast? with
 | none=>rw [hv] at hg;cases hg
 | some v=>
  rw [hv] at hg;dsimp only at hg;by_cases hz:Z9 v=true
  case neg=>rw [kF hz] at hg;cases hg
  rw [kG hz] at hg;cases hk:z2s v with
  | none=>rw [hk] at hg;cases hg
  | some k=>
   rw [hk] at hg;cases hg;have h1:=hA.setHeld m.st.dropLast;refine ⟨ho,C,dx,_,.ref hl,rfl,hA.ins,c.cl,c.held,rfl,.inl ⟨rfl,_,SqL.of hA.held⟩,hl,_,_,rfl,rfl,hA.held,jo hv,v,k,rfl,ZJ hz,hk,vW,fun p hp=>?_⟩;have sp:=zo hp (.tup [.str "fault",.str k]);exact q p _ (SqT.of zc) (h1.same sp) (qw.a.trans (qw.of sp))
end
def jc (H H':Hp) (t:Addr):Prop:=∀b o,H b=some o->b≠t->H' b=some o
noncomputable def pofM (r1 r2:V) (m:Mst):Option (Res × Mst):=match r1 with
 | .non=>if qW m.st.length=true then some (.next,{ m with st:=m.st++[r2] }) else none
 | .str k=>some (.fault k,m)
 | _=>none
noncomputable def gTwo:Deed:=fun op _ m=>match m.st.getLast? with
 | some y=>(match m.st.dropLast.getLast? with
  | some x=>if Z9 x=true/\Z9 y=true then (match ZF op x y with
   | some (r1,r2)=>pofM r1 r2 { m with st:=m.st.dropLast.dropLast }
   | none=>none) else none
  | none=>none)
 | none=>none
noncomputable def gOne:Deed:=fun op _ m=>match m.st.getLast? with
 | some x=>if Z9 x=true then (match JO op x with
   | some (r1,r2)=>pofM r1 r2 { m with st:=m.st.dropLast }
   | none=>none) else none
 | none=>none
section
variable {C:Addr}
def z6F (K:kE) (C:Addr):Sp:=fun vs H Q _=>∃ho hl kd sl dx m ma r1 r2 res m',vs=[.ref ho,.ref ma]/\j7 H C ho hl kd sl dx m/\H ma=some (.tup [r1,r2])/\pofM r1 r2 m=some (res,m')/\
 ∀t H',SqT K H' t (resV res)->j7 H' C ho hl kd sl dx m'->qw H H' hl kd sl->Q (.ref t) H'
theorem sc92:zr ["hold","made","kind","value"] ["hold","made"] (zh (top 92)):=fsM
theorem z9i (D:zx K mg "pushed_or_fault" (top 92)) (c:jP K C) (cs:Cons K mg):FN P w K mg base 1 "pushed_or_fault" ["hold","made"] (z6F K C):=by
 refine FN.o D sc92 fun f cdv A vY s H vs Q E hr h=>?_
 obtain ⟨ho,hl,kd,sl,dx,m,ma,r1,r2,res,m',rfl,hA,hma,hp,q⟩:=h;obtain ⟨na,mn,tn⟩:=cs.next;refine ⟨_,z8 (jq (pv 1) (jr rfl (zD (zC (i:=2) sc92.nd rfl (Or.inl rfl)) (zD (zC (i:=3) sc92.nd rfl (Or.inl rfl)) qC))))
  (z8 (zY (zt QV (pv 2) qk (zA _)) (zi (zu (qb (z6 zq (z6 (pv 2) z7))))) zE)
  (z8 (zp (jC (zV (pv 0) rfl) (z6 (pv 3) z7))) (zi (zu (qo rfl mn (v:=.ref na) rfl))))),?_⟩
 symm
 refine ⟨ma,_,rfl,SqT.of hma,rfl,_,_,rfl,_,_,rfl,rfl,?_⟩;unfold pofM at hp;cases r1 with
 | non=>
  dsimp only at hp;by_cases hz:qW m.st.length=true
  case neg=>rw [kF hz] at hp;cases hp
  rw [kG hz] at hp;cases hp;refine ⟨rfl,false,rfl,iteF ?_⟩;refine ⟨ho,C,dx,_,.ref hl,rfl,hA.ins,c.cl,c.held,rfl,.inl ⟨rfl,_,SqL.of hA.held⟩,hl,_,_,rfl,rfl,hA.held,jx hz,?_⟩;exact q na _ (tn.sq _) (hA.setHeld _) qw.a
 | str k=>
  cases hp;refine ⟨rfl,true,rfl,iteT ⟨vW,fun p hp=>?_⟩⟩;have sp:=zo hp (.tup [.str "fault",.str k]);exact q p _ (SqT.of zc) (hA.same sp) (qw.of sp)
 | _=>cases hp
theorem sc93:zr ["hold","op","arg","second","first"] ["hold","op","arg"] (zh (top 93)):=fsM
theorem z9e (D:zx K mg "do_two" (top 93)) (c:jP K C) (FM:FN P w K mg base 2 "made_of_two" ["op","first","second"] z2Y) (FP:FN P w K mg base 1 "pushed_or_fault" ["hold","made"] (z6F K C)):FN P w K mg base 3 "do_two" vZ (qj K C gTwo):=by
 refine FN.o D sc93 fun f cdv A vY s H vs Q E hr h=>?_
 obtain ⟨ho,hl,kd,sl,dx,op,arg,m,res,m',rfl,hA,hg,q⟩:=h;refine ⟨_,z8 (zK (i:=3) sc93.nd rfl (Or.inl rfl) (jT (zV (pv 0) rfl)))
  (z8 (zK (i:=4) sc93.nd rfl (Or.inl rfl) (jT (zV (pv 0) rfl)))
  (zi (zu (zw FP (hr.mono (by decide)) rfl (z6 (pv 0) (z6 (zw FM hr rfl (z6 (pv 1) (z6 (pv 4) (z6 (pv 3) z7)))) z7)))))),?_⟩
 symm
 unfold gTwo at hg;cases hv:m.st.getLast? with
 | none=>rw [hv] at hg;cases hg
 | some y=>
  rw [hv] at hg;dsimp only at hg;cases hv2:m.st.dropLast.getLast? with
  | none=>rw [hv2] at hg;cases hg
  | some x=>
   rw [hv2] at hg;dsimp only at hg;by_cases hz:Z9 x=true/\Z9 y=true
   case neg=>rw [kF hz] at hg;cases hg
   rw [kG hz] at hg;cases hm:ZF op x y with
   | none=>rw [hm] at hg;cases hg
   | some r=>
    obtain ⟨r1,r2⟩:=r;rw [hm] at hg;dsimp only at hg;have h1:=hA.setHeld m.st.dropLast;have h2:=h1.setHeld m.st.dropLast.dropLast;refine ⟨ho,C,dx,_,.ref hl,rfl,hA.ins,c.cl,c.held,rfl,.inl ⟨rfl,_,SqL.of hA.held⟩,hl,_,_,rfl,rfl,hA.held,jo hv,?_⟩;refine ⟨ho,C,dx,_,.ref hl,rfl,h1.ins,c.cl,c.held,rfl,.inl ⟨rfl,_,SqL.of h1.held⟩,hl,_,_,rfl,rfl,h1.held,jo hv2,?_⟩;refine ⟨op,x,y,r1,r2,rfl,ZJ hz.1,ZJ hz.2,hm,fun t H' s' ht=>?_⟩;exact ⟨ho,hl,kd,sl,dx,_,t,r1,r2,res,m',rfl,h2.same s',ht,hg,fun t2 H2 a b r=>q t2 H2 a b ((qw.a.trans qw.a).trans ((qw.of s').trans r))⟩
theorem sc94:zr ["hold","op","arg"] ["hold","op","arg"] (zh (top 94)):=fsM
theorem z9j (D:zx K mg "do_one" (top 94)) (c:jP K C) (FM:FN P w K mg base 2 "made_of_one" ["op","value"] z2Z) (FP:FN P w K mg base 1 "pushed_or_fault" ["hold","made"] (z6F K C)):FN P w K mg base 3 "do_one" vZ (qj K C gOne):=by
 refine FN.o D sc94 fun f cdv A vY s H vs Q E hr h=>?_
 obtain ⟨ho,hl,kd,sl,dx,op,arg,m,res,m',rfl,hA,hg,q⟩:=h;refine ⟨_,zi (zu (zw FP (hr.mono (by decide)) rfl (z6 (pv 0) (z6 (zw FM hr rfl (z6 (pv 1) (z6 (jT (zV (pv 0) rfl)) z7))) z7)))),?_⟩
 symm
 unfold gOne at hg;cases hv:m.st.getLast? with
 | none=>rw [hv] at hg;cases hg
 | some x=>
  rw [hv] at hg;dsimp only at hg;by_cases hz:Z9 x=true
  case neg=>rw [kF hz] at hg;cases hg
  rw [kG hz] at hg;cases hm:JO op x with
  | none=>rw [hm] at hg;cases hg
  | some r=>
   obtain ⟨r1,r2⟩:=r;rw [hm] at hg;dsimp only at hg;have h1:=hA.setHeld m.st.dropLast;refine ⟨ho,C,dx,_,.ref hl,rfl,hA.ins,c.cl,c.held,rfl,.inl ⟨rfl,_,SqL.of hA.held⟩,hl,_,_,rfl,rfl,hA.held,jo hv,op,x,r1,r2,rfl,ZJ hz,hm,fun t H' s' ht=>?_⟩;exact ⟨ho,hl,kd,sl,dx,_,t,r1,r2,res,m',rfl,h1.same s',ht,hg,fun t2 H2 a b r=>q t2 H2 a b (qw.a.trans ((qw.of s').trans r))⟩
end
structure DAd where
 (push load quick store clear drop copy swap two one tell jump if_ or_ ret rais:Addr)
noncomputable def Qa (a:DAd):List (Str × V):=[("push",.ref a.push),("load",.ref a.load),("quick",.ref a.quick),("store",.ref a.store),("clear",.ref a.clear),("drop",.ref a.drop),("copy",.ref a.copy),("swap",.ref a.swap),("add",.ref a.two),("sub",.ref a.two),("mul",.ref a.two),("div",.ref a.two),("rest",.ref a.two),("less",.ref a.two),("same",.ref a.two),("neg",.ref a.one),("not",.ref a.one),("tell",.ref a.tell),("jump",.ref a.jump),("iftrue",.ref a.if_),("iffalse",.ref a.if_),("ortrue",.ref a.or_),("orfalse",.ref a.or_),("return",.ref a.ret),("raise",.ref a.rais)]
structure z9J (w:World) (K:kE) (mg:Str->Option Value) (a:DAd):Prop where
 deeds:∃d,mg "DEEDS"=some (.ref d)/\KTab w.params K d (Qa a)
 push:mg "do_push"=some (.ref a.push)
 load:mg "do_load"=some (.ref a.load)
 quick:mg "do_quick"=some (.ref a.quick)
 store:mg "do_store"=some (.ref a.store)
 clear:mg "do_clear"=some (.ref a.clear)
 tell:mg "do_tell"=some (.ref a.tell)
 if_:mg "do_if"=some (.ref a.if_)
 or_:mg "do_or"=some (.ref a.or_)
 ret:mg "do_return"=some (.ref a.ret)
 two:mg "do_two"=some (.ref a.two)
 one:mg "do_one"=some (.ref a.one)
 jump:mg "do_jump"=some (.ref a.jump)
 drop:mg "do_drop"=some (.ref a.drop)
 copy:mg "do_copy"=some (.ref a.copy)
 swap:mg "do_swap"=some (.ref a.swap)
 rais:mg "do_raise"=some (.ref a.rais)
noncomputable def Ze:List Str:=["add","sub","mul","div","rest","less","same"]
noncomputable def ZY:List Str:=["neg","not"]
noncomputable def rowM:Deed:=fun op arg m=>
 if op∈Ze then gTwo op arg m else if op∈ZY then gOne op arg m else if op="push" then z0B op arg m else if op="load" then QD op arg m else if op="quick" then Q7 op arg m else if op="store" then Q5 op arg m else if op="clear" then ZG op arg m
 else if op="tell" then JY op arg m else if op="iftrue" then gIf op arg m else if op="iffalse" then gIf op arg m else if op="ortrue" then gOr op arg m else if op="orfalse" then gOr op arg m else if op="return" then Z0 op arg m else if op="jump" then z1o op arg m else if op="drop" then z00 op arg m else if op="copy" then z01 op arg m else if op="swap" then JZ op arg m else if op="raise" then Q6 op arg m else none
section
variable {C:Addr}
theorem z8y:zr ["hold","op","arg","deed"] ["hold","op","arg"] (zh (top 102)):=fsM
theorem z5u {ad:DAd} (D:zx K mg "do_row" (top 102)) (T:z9J w K mg ad) (F1:FN P w K mg base 1 "do_push" vZ (qj K C z0B)) (F2:FN P w K mg base 1 "do_load" vZ (qj K C QD)) (F3:FN P w K mg base 1 "do_quick" vZ (qj K C Q7))
  (F4:FN P w K mg base 1 "do_store" vZ (qj K C Q5)) (F5:FN P w K mg base 1 "do_clear" vZ (qj K C ZG)) (F6:FN P w K mg base 1 "do_tell" vZ (qj K C JY)) (F7:FN P w K mg base 2 "do_if" vZ (qj K C gIf))
  (F8:FN P w K mg base 2 "do_or" vZ (qj K C gOr)) (F9:FN P w K mg base 1 "do_return" vZ (qj K C Z0))
  (F10:FN P w K mg base 3 "do_two" vZ (qj K C gTwo)) (F11:FN P w K mg base 3 "do_one" vZ (qj K C gOne)) (F12:FN P w K mg base 1 "do_jump" vZ (qj K C z1o))
  (F13:FN P w K mg base 1 "do_drop" vZ (qj K C z00)) (F14:FN P w K mg base 1 "do_copy" vZ (qj K C z01)) (F15:FN P w K mg base 1 "do_swap" vZ (qj K C JZ)) (F16:FN P w K mg base 4 "do_raise" vZ (qj K C Q6)):FN P w K mg base 5 "do_row" vZ (qj K C rowM):=by
 refine FN.o D z8y fun f cdv A vY s H vs Q E hr h=>?_
 obtain ⟨ho,hl,kd,sl,dx,op,arg,m,res,m',rfl,hA,hg,q⟩:=h;obtain ⟨d,md,td⟩:=T.deeds;refine ⟨_,z8 (zK (i:=3) z8y.nd rfl (Or.inl rfl) (JI td rfl md (pv 1) (fun _ _=>rfl))) (zi (zu (JK (pv 3) (z6 (pv 0) (z6 (pv 1) (z6 (pv 2) z7)))))),?_⟩
 symm
 suffices h:∃(g:Deed) (name:Str) (fa:Addr),FN P w K mg base 4 name ["hold","op","arg"] (qj K C g)/\mg name=some (.ref fa)/\(Qa ad).lookup op=some (.ref fa)/\g op arg m=some (res,m') by
  obtain ⟨g,name,fa,⟨f',fd,a,b,c,d'⟩,e1,e2,e3⟩:=h;rw [a] at e1;cases e1;exact ⟨op,_,rfl,e2,fa,fd,_,_,4,rfl,b,d',hr,c,ho,hl,kd,sl,dx,op,arg,m,res,m',rfl,hA,e3,q⟩
 unfold rowM at hg;by_cases h1:op∈Ze
 ·rw [kG h1] at hg;refine ⟨gTwo,_,_,F10.mono (by decide),T.two,?_,hg⟩;have all:∀o∈Ze,(Qa ad).lookup o=some (.ref ad.two):=by
   intro o ho;unfold Ze at ho;simp only [kJ,kC,or_false] at ho;rcases ho with h | h | h | h | h | h | h <;> (rw [h];rfl)
  exact all op h1
 rw [kF h1] at hg;by_cases h1:op∈ZY
 ·rw [kG h1] at hg;refine ⟨gOne,_,_,F11.mono (by decide),T.one,?_,hg⟩;have all:∀o∈ZY,(Qa ad).lookup o=some (.ref ad.one):=by
   intro o ho;unfold ZY at ho;simp only [kJ,kC,or_false] at ho;rcases ho with h | h <;> (rw [h];rfl)
  exact all op h1
 rw [kF h1] at hg;by_cases h1:op="push"
 ·rw [kG h1] at hg;exact ⟨z0B,_,_,F1.mono (by decide),T.push,by rw [h1];rfl,hg⟩
 rw [kF h1] at hg;by_cases h1:op="load"
 ·rw [kG h1] at hg;exact ⟨QD,_,_,F2.mono (by decide),T.load,by rw [h1];rfl,hg⟩
 rw [kF h1] at hg;by_cases h1:op="quick"
 ·rw [kG h1] at hg;exact ⟨Q7,_,_,F3.mono (by decide),T.quick,by rw [h1];rfl,hg⟩
 rw [kF h1] at hg;by_cases h1:op="store"
 ·rw [kG h1] at hg;exact ⟨Q5,_,_,F4.mono (by decide),T.store,by rw [h1];rfl,hg⟩
 rw [kF h1] at hg;by_cases h1:op="clear"
 ·rw [kG h1] at hg;exact ⟨ZG,_,_,F5.mono (by decide),T.clear,by rw [h1];rfl,hg⟩
 rw [kF h1] at hg;by_cases h1:op="tell"
 ·rw [kG h1] at hg;exact ⟨JY,_,_,F6.mono (by decide),T.tell,by rw [h1];rfl,hg⟩
 rw [kF h1] at hg;by_cases h1:op="iftrue"
 ·rw [kG h1] at hg;exact ⟨gIf,_,_,F7.mono (by decide),T.if_,by rw [h1];rfl,hg⟩
 rw [kF h1] at hg;by_cases h1:op="iffalse"
 ·rw [kG h1] at hg;exact ⟨gIf,_,_,F7.mono (by decide),T.if_,by rw [h1];rfl,hg⟩
 rw [kF h1] at hg;by_cases h1:op="ortrue"
 ·rw [kG h1] at hg;exact ⟨gOr,_,_,F8.mono (by decide),T.or_,by rw [h1];rfl,hg⟩
 rw [kF h1] at hg;by_cases h1:op="orfalse"
 ·rw [kG h1] at hg;exact ⟨gOr,_,_,F8.mono (by decide),T.or_,by rw [h1];rfl,hg⟩
 rw [kF h1] at hg;by_cases h1:op="return"
 ·rw [kG h1] at hg;exact ⟨Z0,_,_,F9.mono (by decide),T.ret,by rw [h1];rfl,hg⟩
 rw [kF h1] at hg;by_cases h1:op="jump"
 ·rw [kG h1] at hg;exact ⟨z1o,_,_,F12.mono (by decide),T.jump,by rw [h1];rfl,hg⟩
 rw [kF h1] at hg;by_cases h1:op="drop"
 ·rw [kG h1] at hg;exact ⟨z00,_,_,F13.mono (by decide),T.drop,by rw [h1];rfl,hg⟩
 rw [kF h1] at hg;by_cases h1:op="copy"
 ·rw [kG h1] at hg;exact ⟨z01,_,_,F14.mono (by decide),T.copy,by rw [h1];rfl,hg⟩
 rw [kF h1] at hg;by_cases h1:op="swap"
 ·rw [kG h1] at hg;exact ⟨JZ,_,_,F15.mono (by decide),T.swap,by rw [h1];rfl,hg⟩
 rw [kF h1] at hg;by_cases h1:op="raise"
 ·rw [kG h1] at hg;exact ⟨Q6,_,_,F16,T.rais,by rw [h1];rfl,hg⟩
 rw [kF h1] at hg;cases hg
end
noncomputable def z49 (s:Stmt):List Stmt:=match s with
 | .ClassDef _ _ _ b _ _ _ _ _ _ _=>b
 | _=>[]
noncomputable def mW (i:Nat):Stmt:=(z49 (top 103)).getD i (.Pass ⟨0,0,0,0⟩)
noncomputable def mH (i:Nat):Stmt:=(z49 (top 83)).getD i (.Pass ⟨0,0,0,0⟩)
def MN (P:Program) (w:World) (K:kE) (mg:Str->Option Value) (base:Heap) (k:Nat) (C:Addr) (m:Str) (ps:List Str) (sp:Sp):Prop:=∃f fd,Meth K C m f/\Zy K fd ps []/\FnOk P w K mg base CX0 k f fd ps sp
def HasM (K:kE) (C:Addr) (m qual:Str) (st:Stmt):Prop:=∃f fd,Fun K m qual st f fd/\Meth K C m f
def IN (P:Program) (w:World) (K:kE) (mg:Str->Option Value) (base:Heap) (k:Nat) (C:Addr) (ps:List Str) (sp:Sp):Prop:=∃f fd,Mk K C f/\Zy K fd ps []/\FnOk P w K mg base CX0 k f fd ps sp
def HasI (K:kE) (C:Addr) (qual:Str) (st:Stmt):Prop:=∃f fd,Fun K "__init__" qual st f fd/\Mk K C f
section
variable {C:Addr}
theorem MN.of {m qual:Str} {st:Stmt} {N ps:List Str} {sp:Sp} {k:Nat} (D:HasM K C m qual st) (S:zr N ps (zh st))
  (hb:∀(kV doc pm:Value) (an:Option Addr) (cdv ct:Value) (us:List Value),us.length=ps.length->bindArgs (PySem.W.fnOf m qual (qr st) (zG st) (zh st) .none kV doc pm an cdv ct) ⟨us,[]⟩=pure (ps.zip us))
  (len:∀vs H Q E,sp vs H Q E->vs.length=ps.length)
  (hbody:∀(f:Addr) (cdv:Value) (A:Around) (vY:List Env) (s:Shared) (H:Hp) (vs:List V) (Q:VK) (E:XK),Room k (A.deeper (envOfC qual (zh st) s.heap.objs.size f cdv))->sp vs H Q E->
   ∃t,PSs (cxOf CX0 P w K mg base N qual (zh st) f cdv A vY s H E).nox (zG st) t/\t { nx:=fun _ H'=>Q .non H',rt:=Q } (L2.jX N vs) H):MN P w K mg base (k+1) C m ps sp:=by
 obtain ⟨f,fd,F,m⟩:=D;exact ⟨f,fd,m,F.binds hb,F.ok S len (hbody f)⟩
theorem MN.o {m qual:Str} {st:Stmt} {N ps:List Str} {sp:Sp} {k:Nat} (D:HasM K C m qual st) (S:zr N ps (zh st))
  (hbody:∀(f:Addr) (cdv:Value) (A:Around) (vY:List Env) (s:Shared) (H:Hp) (vs:List V) (Q:VK) (E:XK),Room k (A.deeper (envOfC qual (zh st) s.heap.objs.size f cdv))->sp vs H Q E->
   ∃t,PSs (cxOf CX0 P w K mg base N qual (zh st) f cdv A vY s H E).nox (zG st) t/\t { nx:=fun _ H'=>Q .non H',rt:=Q } (L2.jX N vs) H)
  (hb:∀(kV doc pm:Value) (an:Option Addr) (cdv ct:Value) (us:List Value),us.length=ps.length->bindArgs (PySem.W.fnOf m qual (qr st) (zG st) (zh st) .none kV doc pm an cdv ct) ⟨us,[]⟩=pure (ps.zip us):=by (first | exact fun _ _ _ _ _ _=>zU1 fun _=>rfl | exact fun _ _ _ _ _ _=>zU2 fun _ _=>rfl | exact fun _ _ _ _ _ _=>zU3 fun _ _ _=>rfl | exact fun _ _ _ _ _ _=>zU4 fun _ _ _ _=>rfl | exact fun _ _ _ _ _ _=>zU5 fun _ _ _ _ _=>rfl))
  (len:∀vs H Q E,sp vs H Q E->vs.length=ps.length:=by (intro vs H Q E h;repeat (first | (obtain ⟨e,_⟩:=h;subst e;rfl) | (obtain ⟨_,h⟩:=h)))):MN P w K mg base (k+1) C m ps sp:=MN.of D S hb len hbody
theorem IN.of {qual:Str} {st:Stmt} {N ps:List Str} {sp:Sp} {k:Nat} (D:HasI K C qual st) (S:zr N ps (zh st))
  (hb:∀(kV doc pm:Value) (an:Option Addr) (cdv ct:Value) (us:List Value),us.length=ps.length->bindArgs (PySem.W.fnOf "__init__" qual (qr st) (zG st) (zh st) .none kV doc pm an cdv ct) ⟨us,[]⟩=pure (ps.zip us))
  (len:∀vs H Q E,sp vs H Q E->vs.length=ps.length)
  (hbody:∀(f:Addr) (cdv:Value) (A:Around) (vY:List Env) (s:Shared) (H:Hp) (vs:List V) (Q:VK) (E:XK),Room k (A.deeper (envOfC qual (zh st) s.heap.objs.size f cdv))->sp vs H Q E->
   ∃t,PSs (cxOf CX0 P w K mg base N qual (zh st) f cdv A vY s H E).nox (zG st) t/\t { nx:=fun _ H'=>Q .non H',rt:=Q } (L2.jX N vs) H):IN P w K mg base (k+1) C ps sp:=by
 obtain ⟨f,fd,F,m⟩:=D;exact ⟨f,fd,m,F.binds hb,F.ok S len (hbody f)⟩
theorem IN.o {qual:Str} {st:Stmt} {N ps:List Str} {sp:Sp} {k:Nat} (D:HasI K C qual st) (S:zr N ps (zh st))
  (hbody:∀(f:Addr) (cdv:Value) (A:Around) (vY:List Env) (s:Shared) (H:Hp) (vs:List V) (Q:VK) (E:XK),Room k (A.deeper (envOfC qual (zh st) s.heap.objs.size f cdv))->sp vs H Q E->
   ∃t,PSs (cxOf CX0 P w K mg base N qual (zh st) f cdv A vY s H E).nox (zG st) t/\t { nx:=fun _ H'=>Q .non H',rt:=Q } (L2.jX N vs) H)
  (hb:∀(kV doc pm:Value) (an:Option Addr) (cdv ct:Value) (us:List Value),us.length=ps.length->bindArgs (PySem.W.fnOf "__init__" qual (qr st) (zG st) (zh st) .none kV doc pm an cdv ct) ⟨us,[]⟩=pure (ps.zip us):=by (first | exact fun _ _ _ _ _ _=>zU1 fun _=>rfl | exact fun _ _ _ _ _ _=>zU2 fun _ _=>rfl | exact fun _ _ _ _ _ _=>zU3 fun _ _ _=>rfl | exact fun _ _ _ _ _ _=>zU4 fun _ _ _ _=>rfl | exact fun _ _ _ _ _ _=>zU5 fun _ _ _ _ _=>rfl))
  (len:∀vs H Q E,sp vs H Q E->vs.length=ps.length:=by (intro vs H Q E h;repeat (first | (obtain ⟨e,_⟩:=h;subst e;rfl) | (obtain ⟨_,h⟩:=h)))):IN P w K mg base (k+1) C ps sp:=IN.of D S hb len hbody
end
section
variable {X:Cx} {k:Nat} {C:Addr} {x m:Str} {ps:List Str} {sp:Sp} {p pos apos:Pos} {o e:Expr} {es:List Expr} {ta:TE} {t:TA}
theorem z1g {pl:Sem Bool} (he:PE X o ta) (c:Cls X.K C) (F:MN X.prog X.w X.K X.mg X.base k C m ps sp) (hr:Room k X.A) (ha:PA X (e :: es) t)
  (hst:autoParam (starEach (e :: es) X.env=(false,eval e X.env) :: starEach es X.env) aR._auto_1) (hpl:autoParam ((backTo pos (starEach es X.env)).any (·.1)=false) aR._auto_1)
  (ht:autoParam (eval (.Call (.Attribute o m apos) (e :: es) [] pos) X.env=(do
   let ov <-eval o X.env
   standAt apos.atName
   let (f,first) <-holding [ov] (getMethod ov m pl)
   callWith pos f first (backTo pos (starEach (e :: es) X.env)) (backToKw pos (keywordEach [] X.env)))) aR._auto_1):
  PE X (.Call (.Attribute o m apos) (e :: es) [] pos) (z4y C m sp [] E0 ta t):=by
 obtain ⟨f,fd,hm,hb,F⟩:=F;exact z6U he c hm F hr hb .nil z0p ha hst hpl ht
theorem z3l {pl:Sem Bool} (he:PE X o ta) (c:Cls X.K C) (F:MN X.prog X.w X.K X.mg X.base k C m ps sp) (hr:Room k X.A)
  (ht:autoParam (eval (.Call (.Attribute o m apos) [] [] pos) X.env=(do
   let ov <-eval o X.env
   standAt apos.atName
   let (f,first) <-holding [ov] (getMethod ov m pl)
   callWith pos f first (backTo pos (starEach [] X.env)) (backToKw pos (keywordEach [] X.env)))) aR._auto_1):
  PE X (.Call (.Attribute o m apos) [] [] pos) (z4y C m sp [] E0 ta tNil):=by
 obtain ⟨f,fd,hm,hb,F⟩:=F;exact z4M he c hm F hr hb .nil z0p ht
theorem z8K (F:IN X.prog X.w X.K X.mg X.base k C ps sp) (hr:Room (k+1) X.A) (hg:Gl X x) (hm:X.mg x=some (.ref C)) (ha:PA X (e :: es) t) (hdb:autoParam ((x == ("__debug__":Str))=false) aR._auto_2)
  (he:autoParam (starEach (e :: es) X.env=(false,eval e X.env) :: starEach es X.env) aR._auto_1) (hpl:autoParam ((backTo pos (starEach es X.env)).any (·.1)=false) aR._auto_1):
  PE X (.Call (.Name x p) (e :: es) [] pos) (z8d C sp [] E0 t):=by
 obtain ⟨f,fd,M,hb,F⟩:=F;exact z6V M F hr hg hm hb .nil z0p ha hdb he hpl
end
section
variable {C:Addr}
theorem Qx {X:Cx}:Zx X (.type "dict") (fun xs H Q=>∃a kvs,xs=[V.ref a]/\Rd H a (.dK kvs)/\∀p,H p=none->Q (.ref p) (upd H p (.dK kvs))):=by
 intro vX s σ H xs us Q I r h;obtain ⟨a,kvs,rfl,e,q⟩:=h;obtain ⟨u,rfl,ru⟩:=Jd r;cases ru;exact z5C I e fun p s' hp I'=>⟨.ref p,_,I',rfl,q p hp⟩
def z64 (C:Addr):Sp:=fun vs H Q _=>∃x d dx kvs,vs=[.ref x,.ref d]/\H x=some (.ins C dx [])/\H d=some (.dK kvs)/\
 ∀hl kd sl H',H hl=none->H kd=none->H sl=none->j7 H' C x hl kd sl dx ⟨[],kvs,[]⟩->(∀b o,H b=some o->b≠x->H' b=some o)->Q .non H'
theorem scH:zr ["self","names"] ["self","names"] (zh (mH 0)):=fsM
theorem z7a (D:HasI K C "Hold.__init__" (mH 0)) (c:jP K C) (G:Glo mg):IN P w K mg base 1 C ["self","names"] (z64 C):=by
 refine IN.o D scH fun f cdv A vY s H vs Q E hr h=>?_
 obtain ⟨x,d,dx,kvs,rfl,hx,hd,q⟩:=h;refine ⟨_,z8 (jp (pv 0) (qe z7) rfl) (z8 (jp (pv 0) (jg Qx rfl G.dict Ja (z6 (pv 1) z7)) rfl) (zi (jp (pv 0) (qe z7) rfl))),?_⟩
 symm
 refine ⟨vW,fun hl hhl=>?_⟩;have nxl:x≠hl:=ze hx hhl;have ndl:d≠hl:=ze hd hhl;have ndx:d≠x:=zL hd hx nofun;refine ⟨x,C,dx,[],rfl,by rw [zj nxl];exact hx,c.cl,c.held,by decide,?_⟩;refine ⟨d,kvs,rfl,.inl (by rw [zj ndx,zj ndl];exact hd),fun kd hkd=>?_⟩;have nkx:kd≠x:=fun z=>by rw [z,zc] at hkd;cases hkd
 have hkd1:(upd H hl (.lst [])) kd=none:=by rw [zj nkx] at hkd;exact hkd
 have nkl:kd≠hl:=fun z=>by rw [z,zc] at hkd1;cases hkd1
 have hkd0:H kd=none:=by rw [zj nkl] at hkd1;exact hkd1
 refine ⟨x,C,dx,_,rfl,by rw [zj nkx.symm];exact zc,c.cl,c.known,(by show 1 < 1000;decide),?_⟩;refine ⟨vW,fun sl hsl=>?_⟩;have nsx:sl≠x:=fun z=>by rw [z,zc] at hsl;cases hsl
 have hsl1:=hsl;rw [zj nsx] at hsl1;have nsk:sl≠kd:=fun z=>by rw [z,zc] at hsl1;cases hsl1
 rw [zj nsk,zj nsx] at hsl1;have nsl:sl≠hl:=fun z=>by rw [z,zc] at hsl1;cases hsl1
 rw [zj nsl] at hsl1;refine ⟨x,C,dx,_,rfl,by rw [zj nsx.symm];exact zc,c.cl,c.said,(by show 2 < 1000;decide),?_⟩;refine q hl kd sl _ hhl hkd0 hsl1 ⟨zc,?_,?_,?_,nsl.symm⟩ fun b o e hb=>?_
 ·rw [zj nxl.symm,zj nsl.symm,zj nxl.symm,zj nkl.symm,zj nxl.symm];exact zc
 ·rw [zj nkx,zj nsk.symm,zj nkx];exact zc
 ·rw [zj nsx];exact zc
 ·rw [zj hb,zj (ze e hsl1),zj hb,zj (ze e hkd0),zj hb,zj (ze e hhl)];exact e
end
structure Jg (K:kE) (C:Addr):Prop where
 cl:Cls K C
 rows:jt K C "rows"
 goals:jt K C "goals"
 hold:jt K C "hold"
 wards:jt K C "wards"
 passed:jt K C "passed"
 ending:jt K C "ending"
 here:jt K C "here"
structure WAd where
 (wk dw rl gd ho wl pl hl kd sl dx:Addr)
noncomputable def z2w:Option Nat->V
 | none=>.non
 | some p=>.int (p:Nat)
noncomputable def wfs (a:WAd) (ea:V) (here:V):List (Str × V):=[("rows",.ref a.rl),("goals",.ref a.gd),("hold",.ref a.ho),("wards",.ref a.wl),("passed",.ref a.pl),("ending",ea),("here",here)]
structure qm (K:kE) (H0 H:Hp) (CW CH:Addr) (a:WAd) (rs:List Row) (m:Mst) (gs:List Gd) (pas:List Nat) (e:List V) (here:Option Nat):Prop where
 same:Same H0 H
 f1:H0 a.wk=none
 f2:H0 a.pl=none
 f3:H0 a.hl=none
 f4:H0 a.kd=none
 f5:H0 a.sl=none
 f6:H0 a.wl=none
 f7:H0 a.ho=none
 ins:∃ea,H a.wk=some (.ins CW a.dw (wfs a (.ref ea) (z2w here)))/\SqT K H ea e
 rows:∃as,H a.rl=some (.lst (as.map V.ref))/\q0 H as rs
 goals:∃kvs,H a.gd=some (.dK kvs)/\Qo kvs rs
 hold:j7 H CH a.ho a.hl a.kd a.sl a.dx m
 wards:∃gas,H a.wl=some (.lst (gas.map V.ref))/\GsIn H gas gs
 passed:H a.pl=some (.lst (pas.map fun p=>V.int (p:Nat)))
 n1:a.rl≠a.hl
 n2:a.rl≠a.sl
 n3:a.rl≠a.pl
 n4:a.wl≠a.hl
 n5:a.wl≠a.sl
 n6:a.wl≠a.pl
 n7:a.pl≠a.hl
 n8:a.pl≠a.sl
 n9:a.gd≠a.kd
 n10:a.wk≠a.ho
 n11:a.rl≠a.wl
section
variable {K:kE} {H0 H H':Hp} {CW CH:Addr} {a:WAd} {rs:List Row} {m m':Mst} {gs gs':List Gd} {pas:List Nat} {e e':List V} {here here':Option Nat}
theorem qm.same' (W:qm K H0 H CW CH a rs m gs pas e here) (s:Same H H'):qm K H0 H' CW CH a rs m gs pas e here:=by
 obtain ⟨ea,i1,i2⟩:=W.ins;obtain ⟨as,r1,r2⟩:=W.rows;obtain ⟨kv,g1,g2⟩:=W.goals;obtain ⟨gas,w1,w2⟩:=W.wards;exact ⟨W.same.trans s,W.f1,W.f2,W.f3,W.f4,W.f5,W.f6,W.f7,⟨ea,s _ _ i1,qx s i2⟩,⟨as,s _ _ r1,r2.same s⟩,⟨kv,s _ _ g1,g2⟩,W.hold.same s,⟨gas,s _ _ w1,w2.keep (qB.of s)⟩,s _ _ W.passed,W.n1,W.n2,W.n3,W.n4,W.n5,W.n6,W.n7,W.n8,W.n9,W.n10,W.n11⟩
theorem qm.fields (W:qm K H0 H CW CH a rs m gs pas e here) {ea:Addr} (he:SqT K H ea e'):qm K H0 (upd H a.wk (.ins CW a.dw (wfs a (.ref ea) (z2w here')))) CW CH a rs m gs pas e' here':=by
 obtain ⟨ea0,i1,i2⟩:=W.ins;obtain ⟨as,r1,r2⟩:=W.rows;obtain ⟨kv,g1,g2⟩:=W.goals;obtain ⟨gas,w1,w2⟩:=W.wards;have kt:=qB.upd (o:=.ins CW a.dw (wfs a (.ref ea) (z2w here'))) i1 rfl;refine ⟨fun b o h=>by rw [zj (ze h W.f1)];exact W.same _ _ h,W.f1,W.f2,W.f3,W.f4,W.f5,W.f6,W.f7,⟨ea,zc,jf kt he⟩,⟨as,by rw [zj (zL r1 i1 nofun)];exact r1,r2.keep fun b xs h=>kt _ _ h rfl⟩,
  ⟨kv,by rw [zj (zL g1 i1 nofun)];exact g1,g2⟩,⟨by rw [zj W.n10.symm];exact W.hold.ins,by rw [zj (zL W.hold.held i1 nofun)];exact W.hold.held,by rw [zj (zL W.hold.known i1 nofun)];exact W.hold.known,by rw [zj (zL W.hold.said i1 nofun)];exact W.hold.said,W.hold.ne⟩,
  ⟨gas,by rw [zj (zL w1 i1 nofun)];exact w1,w2.keep kt⟩,by rw [zj (zL W.passed i1 nofun)];exact W.passed,W.n1,W.n2,W.n3,W.n4,W.n5,W.n6,W.n7,W.n8,W.n9,W.n10,W.n11⟩
theorem qm.pass (W:qm K H0 H CW CH a rs m gs pas e here) (p:Nat):qm K H0 (upd H a.pl (.lst ((pas.map fun p=>V.int (p:Nat))++[.int (p:Nat)]))) CW CH a rs m gs (pas++[p]) e here:=by
 obtain ⟨ea,i1,i2⟩:=W.ins;obtain ⟨as,r1,r2⟩:=W.rows;obtain ⟨kv,g1,g2⟩:=W.goals;obtain ⟨gas,w1,w2⟩:=W.wards;have kt:=qB.upd (o:=.lst ((pas.map fun p=>V.int (p:Nat))++[.int (p:Nat)])) W.passed rfl;refine ⟨fun b o h=>by rw [zj (ze h W.f2)];exact W.same _ _ h,W.f1,W.f2,W.f3,W.f4,W.f5,W.f6,W.f7,⟨ea,by rw [zj (zL i1 W.passed nofun)];exact i1,jf kt i2⟩,⟨as,by rw [zj W.n3];exact r1,r2.keep fun b xs h=>kt _ _ h rfl⟩,
  ⟨kv,by rw [zj (zL g1 W.passed nofun)];exact g1,g2⟩,⟨by rw [zj (zL W.hold.ins W.passed nofun)];exact W.hold.ins,by rw [zj W.n7.symm];exact W.hold.held,by rw [zj (zL W.hold.known W.passed nofun)];exact W.hold.known,by rw [zj W.n8.symm];exact W.hold.said,W.hold.ne⟩,
  ⟨gas,by rw [zj W.n6];exact w1,w2.keep kt⟩,by rw [zc,kP];rfl,W.n1,W.n2,W.n3,W.n4,W.n5,W.n6,W.n7,W.n8,W.n9,W.n10,W.n11⟩
theorem qm.deed (W:qm K H0 H CW CH a rs m gs pas e here) (hA:j7 H' CH a.ho a.hl a.kd a.sl a.dx m') (r:qw H H' a.hl a.kd a.sl):qm K H0 H' CW CH a rs m' gs pas e here:=by
 obtain ⟨ea,i1,i2⟩:=W.ins;obtain ⟨as,r1,r2⟩:=W.rows;obtain ⟨kv,g1,g2⟩:=W.goals;obtain ⟨gas,w1,w2⟩:=W.wards;have kt:qB H H':=fun b o h t=>r b o h (fun z=>by rw [z,W.hold.held] at h;cases h;cases t) (fun z=>by rw [z,W.hold.known] at h;cases h;cases t) (fun z=>by rw [z,W.hold.said] at h;cases h;cases t)
 refine ⟨fun b o h=>r b o (W.same _ _ h) (ze h W.f3) (ze h W.f4) (ze h W.f5),W.f1,W.f2,W.f3,W.f4,W.f5,W.f6,W.f7,
  ⟨ea,r _ _ i1 (zL i1 W.hold.held nofun) (zL i1 W.hold.known nofun) (zL i1 W.hold.said nofun),jf kt i2⟩,⟨as,r _ _ r1 W.n1 (zL r1 W.hold.known nofun) W.n2,r2.keep fun b xs h=>kt _ _ h rfl⟩,
  ⟨kv,r _ _ g1 (zL g1 W.hold.held nofun) W.n9 (zL g1 W.hold.said nofun),g2⟩,hA,⟨gas,r _ _ w1 W.n4 (zL w1 W.hold.known nofun) W.n5,w2.keep kt⟩,r _ _ W.passed W.n7 (zL W.passed W.hold.known nofun) W.n8,
  W.n1,W.n2,W.n3,W.n4,W.n5,W.n6,W.n7,W.n8,W.n9,W.n10,W.n11⟩
theorem qm.ward (W:qm K H0 H CW CH a rs m gs pas e here) (k:jc H H' a.wl) {gas':List Addr} (h1:H' a.wl=some (.lst (gas'.map V.ref))) (h2:GsIn H' gas' gs'):qm K H0 H' CW CH a rs m gs' pas e here:=by
 obtain ⟨ea,i1,i2⟩:=W.ins;obtain ⟨as,r1,r2⟩:=W.rows;obtain ⟨kv,g1,g2⟩:=W.goals;obtain ⟨gas,w1,w2⟩:=W.wards;have kt:qB H H':=fun b o h t=>k b o h (fun z=>by rw [z,w1] at h;cases h;cases t)
 exact ⟨fun b o h=>k b o (W.same _ _ h) (ze h W.f6),W.f1,W.f2,W.f3,W.f4,W.f5,W.f6,W.f7,⟨ea,k _ _ i1 (zL i1 w1 nofun),jf kt i2⟩,⟨as,k _ _ r1 W.n11,r2.keep fun b xs h=>kt _ _ h rfl⟩,
  ⟨kv,k _ _ g1 (zL g1 w1 nofun),g2⟩,⟨k _ _ W.hold.ins (zL W.hold.ins w1 nofun),k _ _ W.hold.held W.n4.symm,k _ _ W.hold.known (zL W.hold.known w1 nofun),k _ _ W.hold.said W.n5.symm,W.hold.ne⟩,⟨gas',h1,h2⟩,k _ _ W.passed W.n6.symm,
  W.n1,W.n2,W.n3,W.n4,W.n5,W.n6,W.n7,W.n8,W.n9,W.n10,W.n11⟩
theorem qm.stack (W:qm K H0 H CW CH a rs m gs pas e here) {p:Addr} {xs:List V} (hp:H p=some (.lst xs)) (fp:H0 p=none) (q1:a.rl≠p) (q2:a.wl≠p) (q3:a.pl≠p) (q4:p≠a.sl):
  qm K H0 (upd H a.ho (.ins CH a.dx [("held",.ref p),("known",.ref a.kd),("said",.ref a.sl)])) CW CH { a with hl:=p } rs { m with st:=xs } gs pas e here:=by
 obtain ⟨ea,i1,i2⟩:=W.ins;obtain ⟨as,r1,r2⟩:=W.rows;obtain ⟨kv,g1,g2⟩:=W.goals;obtain ⟨gas,w1,w2⟩:=W.wards;have kt:=qB.upd (o:=.ins CH a.dx [("held",.ref p),("known",.ref a.kd),("said",.ref a.sl)]) W.hold.ins rfl;exact ⟨fun b o h=>by rw [zj (ze h W.f7)];exact W.same _ _ h,W.f1,W.f2,fp,W.f4,W.f5,W.f6,W.f7,⟨ea,by rw [zj W.n10];exact i1,jf kt i2⟩,⟨as,by rw [zj (zL r1 W.hold.ins nofun)];exact r1,r2.keep fun b xs h=>kt _ _ h rfl⟩,
  ⟨kv,by rw [zj (zL g1 W.hold.ins nofun)];exact g1,g2⟩,⟨zc,by rw [zj (zL hp W.hold.ins nofun)];exact hp,by rw [zj (zL W.hold.known W.hold.ins nofun)];exact W.hold.known,by rw [zj (zL W.hold.said W.hold.ins nofun)];exact W.hold.said,q4⟩,
  ⟨gas,by rw [zj (zL w1 W.hold.ins nofun)];exact w1,w2.keep kt⟩,by rw [zj (zL W.passed W.hold.ins nofun)];exact W.passed,q1,W.n2,W.n3,q2,W.n5,W.n6,q3,W.n8,W.n9,W.n10,W.n11⟩
end
noncomputable def ja (rs:List Row) (d:Nat):Nat->Nat->List Gd->Option (Nat × List Gd)
 | 0,_,_=>none
 | n+1,p,gs=>match rs[p]? with
  | some r=>if r.op="label" then ja rs d n (p+1) gs
   else if r.op="try" then (match r.arg with | .int k=>if qW gs.length=true then ja rs d n (p+1) (gs++[(k,(d:Int))]) else none | _=>none)
   else if r.op="endtry" then (if gs=[] then none else ja rs d n (p+1) gs.dropLast)
   else some (p,gs)
  | none=>none
noncomputable def Jl:List Str:=["label","try","endtry"]
section
variable {CW CH:Addr}
def z0l (K:kE) (CW CH:Addr):Sp:=fun vs H Q _=>∃(wk dw rl wl ho dx hl:Addr) (fs hfs:List (Str × V)) (as gas:List Addr) (rs:List Row) (st:List V) (gs:List Gd) (p n p':Nat) (gs':List Gd),vs=[.ref wk,.int (p:Nat)]/\H wk=some (.ins CW dw fs)/\fs.lookup ("rows":Str)=some (V.ref rl)/\fs.lookup ("wards":Str)=some (V.ref wl)/\fs.lookup ("hold":Str)=some (V.ref ho)/\
 H ho=some (.ins CH dx hfs)/\hfs.lookup ("held":Str)=some (V.ref hl)/\H hl=some (.lst st)/\H rl=some (.lst (as.map V.ref))/\q0 H as rs/\H wl=some (.lst (gas.map V.ref))/\GsIn H gas gs/\rl≠wl/\hl≠wl/\ja rs st.length n p gs=some (p',gs')/\
 ∀gas' H',jc H H' wl->H' wl=some (.lst (gas'.map V.ref))->GsIn H' gas' gs'->Q (.int (p':Nat)) H'
theorem scW1:zr ["self","place","op","arg"] ["self","place"] (zh (mW 1)):=fsM
theorem z6o {H:Hp} {gas:List Addr} {gs:List Gd} (h:GsIn H gas gs) (hne:gs≠[]):∃bs a g,gas=bs++[a]/\gs.getLast?=some g/\GsIn H bs gs.dropLast/\H a=some (.tup [.int g.1,.int g.2]):=by
 rcases h.last with ⟨_,e2⟩ | ⟨bs,a,g,e1,e2,e3⟩
 ·exact vd e2 hne
 ·have hd:=h.dropLast;rw [e1,kN] at hd;exact ⟨bs,a,g,e1,e2,hd,e3⟩
def z9L (H:Hp) (rs:List Row) (d:Nat) (wk wl:Addr) (p':Nat) (gs':List Gd) (k:Nat) (σ:L2.St) (H2:Hp):Prop:=∃p r gs gas,σ=[some (.ref wk),some (.int (p:Nat)),some (.str r.op),some r.arg]/\ja rs d k p gs=some (p',gs')/\rs[p]?=some r/\jc H H2 wl/\H2 wl=some (.lst (gas.map V.ref))/\GsIn H2 gas gs
theorem zae (W:Nat->L2.St->Hp->Prop) (k:Nat):∃N:L2.St->Hp->Prop,(∀σ' H',N σ' H'->∃m',m' < k+1/\W m' σ' H')/\∀σ' H',W k σ' H'->N σ' H':=⟨W k,fun _ _ h=>⟨k,yh _,h⟩,fun _ _ h=>h⟩
theorem z93 (D:HasM K CW "come_to" "Walk.come_to" (mW 1)) (c:Jg K CW) (ch:jP K CH) (G:Glo mg):MN P w K mg base 1 CW "come_to" ["self","place"] (z0l K CW CH):=by
 refine MN.o D scW1 fun f cdv A vY s H vs Q E hr h=>?_
 obtain ⟨wk,dw,rl,wl,ho,dx,hl,fs,hfs,as,gas,rs,st,gs,p,n,p',gs',rfl,i1,fr,fw,fh,j1,fl,hst,r1,r2,w1,w2,nrw,nlw,hcm,q⟩:=h;refine ⟨_,z8 (Qr (i:=2) (j:=3) rfl scW1.nd rfl rfl (by decide) rfl rfl (z6 (zZ qN (zZ zI (zV (pv 0) rfl) (pv 1) (fun _ _=>rfl)) zl (fun _ _=>rfl)) (z6 (zZ qN (zZ zI (zV (pv 0) rfl) (pv 1) (fun _ _=>rfl)) zl (fun _ _=>rfl)) z7)) rfl)
  (z8 (JD vn (zt jh (pv 2) (qb (z6 zq (z6 zq (z6 zq z7)))) rfl)
   (z8 (zY (zt qM (pv 2) zq (zA _)) (zi (zp (jC (zV (pv 0) rfl) (z6 (qb (z6 (pv 3) (z6 (zH zW rfl G.len qA (z6 (zV (zV (pv 0) rfl) rfl) z7)) z7))) z7))))
    (zi (zY (zt qM (pv 2) zq (zA _)) (zi (zp (jT (zV (pv 0) rfl)))) zE)))
   (z8 (z8F (i:=1) scW1.nd rfl (Or.inl rfl) zl z9a)
   (zi (Qr (i:=2) (j:=3) rfl scW1.nd rfl rfl (by decide) rfl rfl (z6 (zZ qN (zZ zI (zV (pv 0) rfl) (pv 1) (fun _ _=>rfl)) zl (fun _ _=>rfl)) (z6 (zZ qN (zZ zI (zV (pv 0) rfl) (pv 1) (fun _ _=>rfl)) zl (fun _ _=>rfl)) z7)) rfl)))))
  (zi (zu (pv 1)))),?_⟩
 symm
 have row:∀{p n gs p' gs'} {H2:Hp},ja rs st.length n p gs=some (p',gs')->jc H H2 wl->∃r ra,rs[p]?=some r/\(as.map V.ref)[p]?=some (V.ref ra)/\H2 ra=some (.tup (tupV r)):=fun {p n gs p' gs' H2} h k2=>by
  cases n with
  | zero=>cases h
  | succ n=>
   unfold ja at h;cases hr:rs[p]? with
   | none=>rw [hr] at h;cases h
   | some r=>
    obtain ⟨ra,e1,e2⟩:=r2.get' hr;exact ⟨r,ra,rfl,e1,k2 _ _ e2 (zL e2 w1 nofun)⟩
 obtain ⟨r,ra,hrp,hra,har⟩:=row hcm (fun _ _ e _=>e);refine ⟨wk,CW,dw,_,.ref rl,rfl,i1,c.cl,c.rows,fr,rl,_,_,_,rfl,rfl,SqL.of r1,zy hra,ra,_,_,_,rfl,rfl,SqT.of har,zy (j:=0) rfl,
  wk,CW,dw,_,.ref rl,rfl,i1,c.cl,c.rows,fr,rl,_,_,_,rfl,rfl,SqL.of r1,zy hra,ra,_,_,_,rfl,rfl,SqT.of har,zy (j:=1) rfl,_,_,rfl,?_⟩
 refine ⟨z9L H rs st.length wk wl p' gs',⟨n,p,r,gs,gas,rfl,hcm,hrp,fun _ _ e _=>e,w1,w2⟩,?_⟩;clear hrp hra har hcm w2;rintro k σ H2 ⟨p,r,gs,gas2,rfl,hcm,hrp,k2,v1,v2⟩;refine ⟨vW,fun t ht=>?_⟩;have s3:=zo ht (.tup [.str "label",.str "try",.str "endtry"]);have k3:jc H (upd H2 t (.tup [.str "label",.str "try",.str "endtry"])) wl:=fun b o e h=>s3 _ _ (k2 b o e h)
 have v1':=s3 _ _ v1;have v2':=v2.same s3;refine ⟨t,_,rfl,.inr (SqT.of zc),rfl,rfl,inT r.op Jl,rfl,?_⟩;generalize upd H2 t (.tup [.str "label",.str "try",.str "endtry"])=H3 at *;clear s3 k2 v1 v2 ht;cases k with
 | zero=>cases hcm
 | succ k=>
  unfold ja at hcm;rw [hrp] at hcm;dsimp only at hcm;refine ite2 (fun cc=>?_) (fun cc=>?_)
  ·have cc:inT r.op Jl=true:=cc;rw [Zo] at cc;obtain ⟨N,hN1,hN2⟩:=zae (z9L H rs st.length wk wl p' gs') k;refine ⟨N,hN1,?_⟩;have i1':=k3 _ _ i1 (zL i1 w1 nofun);have j1':=k3 _ _ j1 (zL j1 w1 nofun);have hst':=k3 _ _ hst nlw;have read:∀{gs2:List Gd} {gas3:List Addr} {H4:Hp},ja rs st.length k (p+1) gs2=some (p',gs')->jc H H4 wl->H4 wl=some (.lst (gas3.map V.ref))->GsIn H4 gas3 gs2->
     ∃r' ra',rs[p+1]?=some r'/\(as.map V.ref)[p+1]?=some (V.ref ra')/\H4 ra'=some (.tup (tupV r'))/\H4 wk=some (.ins CW dw fs)/\H4 rl=some (.lst (as.map V.ref)):=fun h k4 _ _=>by
    obtain ⟨r',ra',a1,a2,a3⟩:=row h k4;exact ⟨r',ra',a1,a2,a3,k4 _ _ i1 (zL i1 w1 nofun),k4 _ _ r1 nrw⟩
   refine ⟨rfl,decide (r.op="try"),vF V.bl jO,?_⟩;by_cases h2:r.op="try"
   ·have n1:¬r.op="label":=by rw [h2];decide+kernel
    rw [kF n1,kG h2] at hcm;rw [ko h2];cases ha:r.arg with
    | int mk=>
     rw [ha] at hcm;dsimp only at hcm;by_cases hz:qW gs.length=true
     case neg=>rw [kF hz] at hcm;cases hcm
     rw [kG hz] at hcm;refine iteT ⟨wk,CW,dw,_,.ref wl,rfl,i1',c.cl,c.wards,fw,.inl ⟨rfl,_,SqL.of v1'⟩,wk,CW,dw,_,.ref ho,rfl,i1',c.cl,c.hold,fh,ho,CH,dx,_,.ref hl,rfl,j1',ch.cl,ch.held,fl,hl,_,rfl,.inl (SqL.of hst'),vW,fun ga hga=>?_⟩;have sg:=zo hga (.tup [.int mk,.int (st.length:Nat)]);have hgl:gas2.length=gs.length:=v2'.length;refine ⟨wl,_,_,rfl,rfl,sg _ _ v1',by rw [kq,hgl];exact jx hz,?_⟩;have k4:jc H (upd (upd H3 ga (.tup [.int mk,.int (st.length:Nat)])) wl (.lst (gas2.map V.ref++[.ref ga]))) wl:=fun b o e h=>by rw [zj h];exact sg _ _ (k3 b o e h)
     have v3:(upd (upd H3 ga (.tup [.int mk,.int (st.length:Nat)])) wl (.lst (gas2.map V.ref++[.ref ga]))) wl=some (.lst ((gas2++[ga]).map V.ref)):=by rw [zc,kP];rfl
     have v4:GsIn (upd (upd H3 ga (.tup [.int mk,.int (st.length:Nat)])) wl (.lst (gas2.map V.ref++[.ref ga]))) (gas2++[ga]) (gs++[(mk,(st.length:Int))]):=by
      have kt:qB (upd H3 ga (.tup [.int mk,.int (st.length:Nat)])) (upd (upd H3 ga (.tup [.int mk,.int (st.length:Nat)])) wl (.lst (gas2.map V.ref++[.ref ga]))):=qB.upd (sg _ _ v1') rfl;exact ((v2'.same sg).append (.cons zc .nil)).keep kt
     generalize upd (upd H3 ga (.tup [.int mk,.int (st.length:Nat)])) wl (.lst (gas2.map V.ref++[.ref ga]))=H4 at *;obtain ⟨r',ra',hrp',hra',har',i4,l4⟩:=read hcm k4 v3 v4;refine ⟨_,rfl,_,_,rfl,rfl,?_⟩;refine ⟨wk,CW,dw,_,.ref rl,rfl,i4,c.cl,c.rows,fr,rl,_,_,_,rfl,rfl,SqL.of l4,zy hra',ra',_,_,_,rfl,rfl,SqT.of har',zy (j:=0) rfl,
      wk,CW,dw,_,.ref rl,rfl,i4,c.cl,c.rows,fr,rl,_,_,_,rfl,rfl,SqL.of l4,zy hra',ra',_,_,_,rfl,rfl,SqT.of har',zy (j:=1) rfl,_,_,rfl,?_⟩
     exact hN2 _ _ ⟨p+1,r',_,_,rfl,hcm,hrp',k4,v3,v4⟩
    | _=>rw [ha] at hcm;cases hcm
   ·rw [km h2];refine iteF ⟨rfl,decide (r.op="endtry"),vF V.bl jO,?_⟩;by_cases h3:r.op="endtry"
    ·have n1:¬r.op="label":=by rw [h3];decide+kernel
     rw [kF n1,kF h2,kG h3] at hcm;rw [ko h3];by_cases hg:gs=[]
     ·rw [kG hg] at hcm;cases hcm
     rw [kF hg] at hcm;obtain ⟨bs,ga,g,e1,e2,e3,e4⟩:=z6o v2' hg;subst e1;have hlast:((bs++[ga]).map V.ref)[((bs++[ga]).map V.ref).length - 1]?=some (V.ref ga):=by rw [<-List.getLast?_eq_getElem?,kP];simp
     refine iteT ⟨wk,CW,dw,_,.ref wl,rfl,i1',c.cl,c.wards,fw,.inl ⟨rfl,_,SqL.of v1'⟩,wl,_,_,rfl,rfl,v1',hlast,?_⟩;have ed:((bs++[ga]).map V.ref).dropLast=bs.map V.ref:=by rw [kP];simp
     rw [ed];have k4:jc H (upd H3 wl (.lst (bs.map V.ref))) wl:=fun b o e h=>by rw [zj h];exact k3 b o e h
     have v3:(upd H3 wl (.lst (bs.map V.ref))) wl=some (.lst (bs.map V.ref)):=zc;have v4:GsIn (upd H3 wl (.lst (bs.map V.ref))) bs gs.dropLast:=e3.keep (qB.upd v1' rfl);generalize upd H3 wl (.lst (bs.map V.ref))=H4 at *;obtain ⟨r',ra',hrp',hra',har',i4,l4⟩:=read hcm k4 v3 v4;refine ⟨_,rfl,_,_,rfl,rfl,?_⟩;refine ⟨wk,CW,dw,_,.ref rl,rfl,i4,c.cl,c.rows,fr,rl,_,_,_,rfl,rfl,SqL.of l4,zy hra',ra',_,_,_,rfl,rfl,SqT.of har',zy (j:=0) rfl,
      wk,CW,dw,_,.ref rl,rfl,i4,c.cl,c.rows,fr,rl,_,_,_,rfl,rfl,SqL.of l4,zy hra',ra',_,_,_,rfl,rfl,SqT.of har',zy (j:=1) rfl,_,_,rfl,?_⟩
     exact hN2 _ _ ⟨p+1,r',_,_,rfl,hcm,hrp',k4,v3,v4⟩
    ·have h1:r.op="label":=by
      rcases kJ.mp cc with z | z
      ·exact z
      ·rcases kJ.mp z with z | z
       ·exact vd z h2
       ·exact vd (kz.mp z) h3
     rw [kG h1] at hcm;rw [km h3];obtain ⟨r',ra',hrp',hra',har',i4,l4⟩:=read hcm k3 v1' v2';refine iteF ⟨_,rfl,_,_,rfl,rfl,?_⟩;refine ⟨wk,CW,dw,_,.ref rl,rfl,i4,c.cl,c.rows,fr,rl,_,_,_,rfl,rfl,SqL.of l4,zy hra',ra',_,_,_,rfl,rfl,SqT.of har',zy (j:=0) rfl,
      wk,CW,dw,_,.ref rl,rfl,i4,c.cl,c.rows,fr,rl,_,_,_,rfl,rfl,SqL.of l4,zy hra',ra',_,_,_,rfl,rfl,SqT.of har',zy (j:=1) rfl,_,_,rfl,?_⟩
     exact hN2 _ _ ⟨p+1,r',_,_,rfl,hcm,hrp',k3,v1',v2'⟩
  ·have cc:¬inT r.op Jl=true:=cc;rw [Zo] at cc;have h1:¬r.op="label":=fun z=>cc (by rw [z];decide+kernel)
   have h2:¬r.op="try":=fun z=>cc (by rw [z];decide+kernel)
   have h3:¬r.op="endtry":=fun z=>cc (by rw [z];decide+kernel)
   rw [kF h1,kF h2,kF h3] at hcm;cases hcm;exact (q _ _ k3 v1' v2')
end
section
variable {CW CH:Addr}
theorem qm.come {H0 H:Hp} {a:WAd} {rs:List Row} {m:Mst} {gs gs':List Gd} {pas:List Nat} {e:List V} {here:Option Nat} {n p p':Nat} {Q:VK} {E:XK} (W:qm K H0 H CW CH a rs m gs pas e here) (hcm:ja rs m.st.length n p gs=some (p',gs'))
  (q:∀H',qm K H0 H' CW CH a rs m gs' pas e here->Q (.int (p':Nat)) H'):z0l K CW CH [.ref a.wk,.int (p:Nat)] H Q E:=by
 obtain ⟨ea,i1,i2⟩:=W.ins;obtain ⟨as,r1,r2⟩:=W.rows;obtain ⟨gas,w1,w2⟩:=W.wards;exact ⟨a.wk,a.dw,a.rl,a.wl,a.ho,a.dx,a.hl,_,_,as,gas,rs,m.st,gs,p,n,p',gs',rfl,i1,rfl,rfl,rfl,W.hold.ins,rfl,W.hold.held,r1,r2,w1,w2,W.n11,W.n4.symm,hcm,fun gas' H' k h1 h2=>q H' (W.ward k h1 h2)⟩
def z6G (K:kE) (CW CH:Addr):Sp:=fun vs H Q _=>∃(a:WAd) (H0:Hp) (rs:List Row) (m:Mst) (gs:List Gd) (pas:List Nat) (e:List V) (here:Option Nat) (ea:Addr) (e':List V),vs=[.ref a.wk,.ref ea]/\qm K H0 H CW CH a rs m gs pas e here/\SqT K H ea e'/\∀H',qm K H0 H' CW CH a rs m gs pas e' none->Q .non H'
theorem scW2:zr ["self","ending"] ["self","ending"] (zh (mW 2)):=fsM
theorem zaf (D:HasM K CW "finish" "Walk.finish" (mW 2)) (c:Jg K CW):MN P w K mg base 1 CW "finish" ["self","ending"] (z6G K CW CH):=by
 refine MN.o D scW2 fun f cdv A vY s H vs Q E hr h=>?_
 obtain ⟨a,H0,rs,m,gs,pas,e,here,ea,e',rfl,W,he,q⟩:=h;obtain ⟨ea0,i1,i2⟩:=W.ins;refine ⟨_,z8 (jp (pv 0) qk rfl) (zi (jp (pv 0) (pv 1) rfl)),?_⟩
 symm
 refine ⟨a.wk,CW,a.dw,_,rfl,i1,c.cl,c.here,(by show 7 < 1000;decide),?_⟩;have W1:=W.fields (here':=none) i2;have kt:=qB.upd (o:=.ins CW a.dw (wfs a (.ref ea0) (z2w none))) i1 rfl;refine ⟨a.wk,CW,a.dw,wfs a (.ref ea0) (z2w none),rfl,zc,c.cl,c.ending,(by show 7 < 1000;decide),?_⟩;exact q _ (W1.fields (here':=none) (jf kt he))
noncomputable def z0Z (rs:List Row) (m:Mst) (gs:List Gd) (e:List V) (kind:Str) (line:Int):Option (Mst × List Gd × List V × Option Nat):=match gs.getLast? with
 | none=>some (m,gs,[.str "fault",.str kind,.int line],none)
 | some g=>if qW m.st.length=true then (match zM rs g.1 with
  | some j=>(match ja rs (cutV m.st none (some g.2)++[V.str kind]).length 200 j gs.dropLast with
   | some (p',gs')=>some ({ m with st:=cutV m.st none (some g.2)++[V.str kind] },gs',e,some p')
   | none=>none)
  | none=>none) else none
def z5Y (K:kE) (CW CH:Addr):Sp:=fun vs H Q _=>∃(a:WAd) (H0:Hp) (rs:List Row) (m:Mst) (gs:List Gd) (pas:List Nat) (e:List V) (here:Option Nat) (kind:Str) (line:Int) (m':Mst) (gs':List Gd) (e':List V) (here':Option Nat),vs=[.ref a.wk,.str kind,.int line]/\qm K H0 H CW CH a rs m gs pas e here/\z0Z rs m gs e kind line=some (m',gs',e',here')/\∀a' H',a'.wk=a.wk->qm K H0 H' CW CH a' rs m' gs' pas e' here'->Q .non H'
theorem scW3:zr ["self","kind","line","mark","depth","hold"] ["self","kind","line"] (zh (mW 3)):=fsM
theorem z91 (D:HasM K CW "take_fault" "Walk.take_fault" (mW 3)) (c:Jg K CW) (ch:jP K CH) (F1:MN P w K mg base 1 CW "finish" ["self","ending"] (z6G K CW CH)) (F3:MN P w K mg base 1 CW "come_to" ["self","place"] (z0l K CW CH)):MN P w K mg base 2 CW "take_fault" ["self","kind","line"] (z5Y K CW CH):=by
 refine MN.o D scW3 fun f cdv A vY s H vs Q E hr h=>?_
 obtain ⟨a,H0,rs,m,gs,pas,e,here,kind,line,m',gs',e',here',rfl,W,htk,q⟩:=h;have hu:=Ql hr;refine ⟨_,z8 (zY (jS (ZV (zV (pv 0) rfl) (fun _=>rfl))) (z8 (zp (z1g (pv 0) c.cl F1 hr (z6 (qb (z6 zq (z6 (pv 1) (z6 (pv 2) z7)))) z7))) (zi z6Q)) zE)
  (z8 (jq (jT (zV (pv 0) rfl)) (jr rfl (zD (zC (i:=3) scW3.nd rfl (Or.inl rfl)) (zD (zC (i:=4) scW3.nd rfl (Or.inl rfl)) qC))))
  (z8 (zK (i:=5) scW3.nd rfl (Or.inl rfl) (zV (pv 0) rfl))
  (z8 (jp (pv 5) (qa z3q (JH z6J (zV (pv 5) rfl) z1e (z1d (pv 4))) (qe (z6 (pv 1) z7))) rfl)
  (zi (jp (pv 0) (z1g (pv 0) c.cl F3 hr (z6 (Qi hu (zV (pv 0) rfl) (pv 3) (fun _ _=>rfl)) z7)) rfl))))),?_⟩
 symm
 obtain ⟨ea0,i1,i2⟩:=W.ins;obtain ⟨gas,w1,w2⟩:=W.wards;unfold z0Z at htk;cases hgl:gs.getLast? with
 | none=>
  rw [hgl] at htk;cases htk;have hg0:gs=[]:=List.getLast?_eq_none_iff.mp hgl;subst hg0;cases w2;refine ⟨a.wk,CW,a.dw,_,.ref a.wl,rfl,i1,c.cl,c.wards,rfl,false,.inl ⟨_,SqL.of w1,rfl⟩,iteT ?_⟩;refine ⟨a.wk,a.dw,_,rfl,i1,rfl,vW,fun p hp=>?_⟩;have sp:=zo hp (.tup [.str "fault",.str kind,.int line]);exact ⟨a,H0,rs,m,[],pas,e,here,p,_,rfl,W.same' sp,SqT.of zc,fun H' W'=>q a H' rfl W'⟩
 | some g=>
  rw [hgl] at htk;dsimp only at htk;by_cases hz:qW m.st.length=true
  case neg=>rw [kF hz] at htk;cases htk
  rw [kG hz] at htk;cases hfl:zM rs g.1 with
  | none=>rw [hfl] at htk;cases htk
  | some j=>
   rw [hfl] at htk;dsimp only at htk;cases hcm:ja rs (cutV m.st none (some g.2)++[V.str kind]).length 200 j gs.dropLast with
   | none=>rw [hcm] at htk;cases htk
   | some pg=>
    obtain ⟨p',gs2⟩:=pg;rw [hcm] at htk;cases htk;have hne:gs≠[]:=fun z=>by rw [z] at hgl;cases hgl
    obtain ⟨bs,ga,g',e1,e2,e3,e4⟩:=z6o w2 hne;rw [hgl] at e2;cases e2;subst e1;have hlast:((bs++[ga]).map V.ref)[((bs++[ga]).map V.ref).length - 1]?=some (V.ref ga):=by rw [<-List.getLast?_eq_getElem?,kP];simp
    have ed:((bs++[ga]).map V.ref).dropLast=bs.map V.ref:=by rw [kP];simp
    refine ⟨a.wk,CW,a.dw,_,.ref a.wl,rfl,i1,c.cl,c.wards,rfl,true,.inl ⟨_,SqL.of w1,by simp⟩,iteF ?_⟩;refine ⟨a.wk,CW,a.dw,_,.ref a.wl,rfl,i1,c.cl,c.wards,rfl,.inl ⟨rfl,_,SqL.of w1⟩,a.wl,_,_,rfl,rfl,w1,hlast,?_⟩;rw [ed];have k1:jc H (upd H a.wl (.lst (bs.map V.ref))) a.wl:=fun b o e h=>by rw [zj h];exact e
    have kt:=qB.upd (o:=.lst (bs.map V.ref)) w1 rfl;have W1:=W.ward (gs':=gs.dropLast) k1 zc (e3.keep kt);have e4':=kt _ _ e4 rfl;generalize upd H a.wl (.lst (bs.map V.ref))=H1 at *;obtain ⟨ea1,j1,j2⟩:=W1.ins;refine ⟨ga,_,rfl,SqT.of e4',rfl,_,_,rfl,_,_,rfl,rfl,?_⟩;refine ⟨a.wk,CW,a.dw,_,.ref a.ho,rfl,j1,c.cl,c.hold,rfl,?_⟩;refine ⟨a.ho,CH,a.dx,_,.ref a.hl,rfl,W1.hold.ins,ch.cl,ch.held,rfl,g.2,rfl,a.hl,_,rfl,SqL.of W1.hold.held,fun l1 h1=>?_⟩;have s1:=zo h1 (.lst (cutV m.st none (some g.2)));refine ⟨vW,fun l2 h2=>?_⟩;have s2:=zo h2 (.lst [V.str kind]);have hzz:m.st.length<=1000:=kI hz;have hcl:=ZQ m.st none (some g.2);refine ⟨l1,l2,_,_,rfl,rfl,s2 _ _ zc,zc,by rw [sizeLine_eq];show _+1<=_;lia,fun l3 h3=>?_⟩;have s3:=zo h3 (.lst (cutV m.st none (some g.2)++[V.str kind]));have W3:=W1.same' (s1.trans s2);obtain ⟨as3,r1,r2⟩:=W3.rows;obtain ⟨gas3,x1,x2⟩:=W3.wards;have q1:=ze r1 h3;have q2:=ze x1 h3;have q3:=ze W3.passed h3;have q4:=(ze W3.hold.said h3).symm;have fp:=W3.same.free h3;have W4:=W3.same' s3;have W5:=W4.stack zc fp q1 q2 q3 q4;refine ⟨a.ho,CH,a.dx,_,rfl,W4.hold.ins,ch.cl,ch.held,(by show 3 < 1000;decide),?_⟩;have W5:qm K H0 (upd (upd (upd (upd H1 l1 (.lst (cutV m.st none (some g.2)))) l2 (.lst [V.str kind])) l3 (.lst (cutV m.st none (some g.2)++[V.str kind]))) a.ho (.ins CH a.dx (putF "held" (.ref l3) [("held",.ref a.hl),("known",.ref a.kd),("said",.ref a.sl)]))) CW CH { a with hl:=l3 } rs { m with st:=cutV m.st none (some g.2)++[V.str kind] } gs.dropLast pas e here:=W5;generalize upd (upd (upd (upd H1 l1 (.lst (cutV m.st none (some g.2)))) l2 (.lst [V.str kind])) l3 (.lst (cutV m.st none (some g.2)++[V.str kind]))) a.ho (.ins CH a.dx (putF "held" (.ref l3) [("held",.ref a.hl),("known",.ref a.kd),("said",.ref a.sl)]))=H5 at *;obtain ⟨ea5,y1,y2⟩:=W5.ins;obtain ⟨kv,z1,z2⟩:=W5.goals;have hv:valV kv (Sum.inl g.1:Key)=some (.int (j:Int)):=by rw [z2 g.1,hfl];rfl
    have hgt:DGet H5 a.gd (.int g.1) (some (.int (j:Int))):=by rw [<-hv];exact DGet.k (k:=Sum.inl g.1) z1
    refine ⟨a.wk,a.dw,_,rfl,y1,rfl,a.wk,CW,a.dw,_,.ref a.gd,rfl,y1,c.cl,c.goals,rfl,a.gd,_,rfl,hgt,?_⟩;refine qm.come (a:={ a with hl:=l3 }) W5 hcm fun H6 W6=>?_
    obtain ⟨ea6,u1,u2⟩:=W6.ins;refine ⟨a.wk,CW,a.dw,_,rfl,u1,c.cl,c.here,(by show 7 < 1000;decide),?_⟩;exact q { a with hl:=l3 } _ rfl (W6.fields (here':=some p') u2)
end
section
variable {CW CH:Addr}
noncomputable def z2a (rs:List Row) (m:Mst) (gs:List Gd) (pas:List Nat) (p:Nat):Option (Mst × List Gd × List Nat × List V × Option Nat):=match rs[p]? with
 | none=>none
 | some r=>if qW pas.length=true then (match rowM r.op r.arg m with
  | none=>none
  | some (.next,m')=>(match ja rs m'.st.length 200 (p+1) gs with | some (p',gs')=>some (m',gs',pas++[p],[.str "on"],some p') | none=>none)
  | some (.go,m')=>(match r.arg with
   | .int mk=>(match zM rs mk with
    | some j=>(match ja rs m'.st.length 200 j gs with | some (p',gs')=>some (m',gs',pas++[p],[.str "on"],some p') | none=>none)
    | none=>none)
   | _=>none)
  | some (.fault k,m')=>(match z0Z rs m' gs [.str "on"] k r.line with | some (m'',gs',e',here')=>some (m'',gs',pas++[p],e',here') | none=>none)
  | some (.value v,m')=>some (m',gs,pas++[p],[.str "value",v],none)) else none
def z2V (K:kE) (CW CH:Addr):Sp:=fun vs H Q _=>∃(a:WAd) (H0:Hp) (rs:List Row) (m:Mst) (gs:List Gd) (pas:List Nat) (p:Nat) (m':Mst) (gs':List Gd) (pas':List Nat) (e':List V) (here':Option Nat),vs=[.ref a.wk]/\qm K H0 H CW CH a rs m gs pas [.str "on"] (some p)/\z2a rs m gs pas p=some (m',gs',pas',e',here')/\∀a' H',a'.wk=a.wk->qm K H0 H' CW CH a' rs m' gs' pas' e' here'->Q (.bl true) H'
theorem scW4:zr ["self","place","op","arg","line","word","value"] ["self"] (zh (mW 4)):=fsM
theorem z92 (D:HasM K CW "step" "Walk.step" (mW 4)) (c:Jg K CW) (F1:MN P w K mg base 1 CW "finish" ["self","ending"] (z6G K CW CH)) (F2:MN P w K mg base 2 CW "take_fault" ["self","kind","line"] (z5Y K CW CH)) (F3:MN P w K mg base 1 CW "come_to" ["self","place"] (z0l K CW CH))
  (FR:FN P w K mg base 5 "do_row" vZ (qj K CH rowM)):MN P w K mg base 6 CW "step" ["self"] (z2V K CW CH):=by
 refine MN.o D scW4 fun f cdv A vY s H vs Q E hr h=>?_
 obtain ⟨a,H0,rs,m,gs,pas,p,m',gs',pas',e',here',rfl,W,hst,q⟩:=h;have hu:=Ql hr;have hr1:=hr.mono (vV:1<=5);have hr2:=hr.mono (vV:2<=5);refine ⟨_,z8 (zY (zt Z7 (zV (pv 0) rfl) qk (zA _)) j4 zE)
  (z8 (zK (i:=1) scW4.nd rfl (Or.inl rfl) (zV (pv 0) rfl))
  (z8 (jq (zZ zI (zV (pv 0) rfl) (pv 1) (fun _ _=>rfl)) (jr rfl (zD (zC (i:=2) scW4.nd rfl (Or.inl rfl)) (zD (zC (i:=3) scW4.nd rfl (Or.inl rfl)) (zD (zC (i:=4) scW4.nd rfl (Or.inl rfl)) qC)))))
  (z8 (zp (jC (zV (pv 0) rfl) (z6 (pv 1) z7)))
  (z8 (jq (zw FR hr rfl (z6 (zV (pv 0) rfl) (z6 (pv 2) (z6 (pv 3) z7)))) (jr rfl (zD (zC (i:=5) scW4.nd rfl (Or.inl rfl)) (zD (zC (i:=6) scW4.nd rfl (Or.inl rfl)) qC))))
  (z8 (zY (zt qM (pv 5) zq (zA _)) (zi (jp (pv 0) (z1g (pv 0) c.cl F3 hr1 (z6 (qa js (pv 1) zl) z7)) rfl))
   (zi (zY (zt qM (pv 5) zq (zA _)) (zi (jp (pv 0) (z1g (pv 0) c.cl F3 hr1 (z6 (Qi hu (zV (pv 0) rfl) (pv 3) (fun _ _=>rfl)) z7)) rfl))
    (zi (zY (zt qM (pv 5) zq (zA _)) (zi (zp (z1g (pv 0) c.cl F2 hr2 (z6 (pv 6) (z6 (pv 4) z7)))))
     (zi (zp (z1g (pv 0) c.cl F1 hr1 (z6 (qb (z6 (pv 5) (z6 (pv 6) z7))) z7)))))))))
  (zi (zu QT))))))),?_⟩
 symm
 obtain ⟨ea,i1,i2⟩:=W.ins;obtain ⟨as,r1,r2⟩:=W.rows;unfold z2a at hst;cases hrp:rs[p]? with
 | none=>rw [hrp] at hst;cases hst
 | some r=>
  rw [hrp] at hst;dsimp only at hst;by_cases hpz:qW pas.length=true
  case neg=>rw [kF hpz] at hst;cases hst
  rw [kG hpz] at hst;obtain ⟨ra,hra,har⟩:=r2.get' hrp;refine ⟨a.wk,CW,a.dw,_,.int (p:Nat),rfl,i1,c.cl,c.here,rfl,rfl,_,rfl,iteF ?_⟩;refine ⟨a.wk,CW,a.dw,_,.int (p:Nat),rfl,i1,c.cl,c.here,rfl,?_⟩;refine ⟨a.wk,CW,a.dw,_,.ref a.rl,rfl,i1,c.cl,c.rows,rfl,a.rl,_,_,_,rfl,rfl,SqL.of r1,zy hra,ra,_,rfl,SqT.of har,rfl,_,_,rfl,_,_,rfl,_,_,rfl,rfl,?_⟩;cases hrow:rowM r.op r.arg m with
  | none=>rw [hrow] at hst;cases hst
  | some rm=>
   obtain ⟨res,m1⟩:=rm;rw [hrow] at hst
   try dsimp only at hst
   refine ⟨a.wk,CW,a.dw,_,.ref a.pl,rfl,i1,c.cl,c.passed,rfl,.inl ⟨rfl,_,SqL.of W.passed⟩,a.pl,_,_,rfl,rfl,W.passed,(by rw [kq];exact jx hpz),?_⟩;have W1:=W.pass p;generalize upd H a.pl (.lst ((pas.map fun p=>V.int (p:Nat))++[.int (p:Nat)]))=H1 at W1;obtain ⟨ea1,j1,j2⟩:=W1.ins;refine ⟨a.wk,CW,a.dw,_,.ref a.ho,rfl,j1,c.cl,c.hold,rfl,a.ho,a.hl,a.kd,a.sl,a.dx,r.op,r.arg,m,res,m1,rfl,W1.hold,hrow,fun t H2 ht hA hrest=>?_⟩;have W2:=W1.deed hA hrest;obtain ⟨ea2,l1,l2⟩:=W2.ins;cases res with
   | next=>
    dsimp only at hst;refine ⟨t,_,rfl,ht,rfl,_,_,rfl,_,_,rfl,rfl,?_⟩;cases hcm:ja rs m1.st.length 200 (p+1) gs with
    | none=>rw [hcm] at hst;cases hst
    | some pg=>
     obtain ⟨p',gs2⟩:=pg;rw [hcm] at hst;cases hst;refine ⟨rfl,_,rfl,iteT ?_⟩;refine ⟨a.wk,a.dw,_,rfl,l1,rfl,_,_,rfl,rfl,?_⟩;refine qm.come W2 hcm fun H3 W3=>?_
     obtain ⟨ea3,u1,u2⟩:=W3.ins;refine ⟨a.wk,CW,a.dw,_,rfl,u1,c.cl,c.here,(by show 7 < 1000;decide),?_⟩;exact q a _ rfl (W3.fields (here':=some p') u2)
   | go=>
    dsimp only at hst;refine ⟨t,_,rfl,ht,rfl,_,_,rfl,_,_,rfl,rfl,?_⟩;cases harg:r.arg with
    | int mk=>
     rw [harg] at hst;dsimp only at hst;cases hfl:zM rs mk with
     | none=>rw [hfl] at hst;cases hst
     | some j=>
      rw [hfl] at hst;dsimp only at hst;cases hcm:ja rs m1.st.length 200 j gs with
      | none=>rw [hcm] at hst;cases hst
      | some pg=>
       obtain ⟨p',gs2⟩:=pg;rw [hcm] at hst;cases hst;obtain ⟨kv,g1,g2⟩:=W2.goals;have hv:valV kv (Sum.inl mk:Key)=some (.int (j:Int)):=by rw [g2 mk,hfl];rfl
       have hgt:DGet H2 a.gd (.int mk) (some (.int (j:Int))):=by rw [<-hv];exact DGet.k (k:=Sum.inl mk) g1
       refine ⟨rfl,_,rfl,iteF ⟨rfl,_,rfl,iteT ?_⟩⟩;refine ⟨a.wk,a.dw,_,rfl,l1,rfl,a.wk,CW,a.dw,_,.ref a.gd,rfl,l1,c.cl,c.goals,rfl,a.gd,_,rfl,hgt,?_⟩;refine qm.come W2 hcm fun H3 W3=>?_
       obtain ⟨ea3,u1,u2⟩:=W3.ins;refine ⟨a.wk,CW,a.dw,_,rfl,u1,c.cl,c.here,(by show 7 < 1000;decide),?_⟩;exact q a _ rfl (W3.fields (here':=some p') u2)
    | _=>rw [harg] at hst;cases hst
   | fault k=>
    dsimp only at hst;cases htk:z0Z rs m1 gs [.str "on"] k r.line with
    | none=>rw [htk] at hst;cases hst
    | some rr=>
     obtain ⟨m2,gs2,e2,here2⟩:=rr;rw [htk] at hst;cases hst;refine ⟨t,_,rfl,ht,rfl,_,_,rfl,_,_,rfl,rfl,?_⟩;refine ⟨rfl,_,rfl,iteF ⟨rfl,_,rfl,iteF ⟨rfl,_,rfl,iteT ?_⟩⟩⟩;exact ⟨a.wk,a.dw,_,rfl,l1,rfl,a,H0,rs,_,_,_,_,_,k,r.line,m',gs',e',here',rfl,W2,htk,fun a' H3 ha W3=>q a' H3 ha W3⟩
   | value v=>
    cases hst;refine ⟨t,_,rfl,ht,rfl,_,_,rfl,_,_,rfl,rfl,?_⟩;refine ⟨rfl,_,rfl,iteF ⟨rfl,_,rfl,iteF ⟨rfl,_,rfl,iteF ?_⟩⟩⟩;refine ⟨a.wk,a.dw,_,rfl,l1,rfl,vW,fun p2 hp2=>?_⟩;have sp:=zo hp2 (.tup [.str "value",v]);exact ⟨a,H0,rs,_,_,_,_,_,p2,_,rfl,W2.same' sp,SqT.of zc,fun H3 W3=>q a H3 rfl W3⟩
end
section
variable {CW CH:Addr}
abbrev WX (K:kE) (CW CH:Addr) (H:Hp) (φ:WAd->Hp->List Row->Mst->List Gd->List Nat->List V->Option Nat->Prop):Prop:=∃(a:WAd) (H0:Hp) (rs:List Row) (m:Mst) (gs:List Gd) (pas:List Nat) (e:List V) (here:Option Nat),qm K H0 H CW CH a rs m gs pas e here/\φ a H0 rs m gs pas e here
def z14 (K:kE) (CW CH:Addr):Sp:=fun vs H Q _=>WX K CW CH H fun a _ _ _ _ _ _ here=>vs=[.ref a.wk]/\Q (z2w here) H
theorem scW5:zr ["self"] ["self"] (zh (mW 5)):=fsM
theorem z74 (D:HasM K CW "place" "Walk.place" (mW 5)) (c:Jg K CW):MN P w K mg base 1 CW "place" ["self"] (z14 K CW CH):=by
 refine MN.o D scW5 fun f cdv A vY s H vs Q E hr h=>?_
 obtain ⟨a,H0,rs,m,gs,pas,e,here,W,rfl,q⟩:=h;obtain ⟨ea,i1,i2⟩:=W.ins;exact ⟨_,zi (zu (zV (pv 0) rfl)),a.wk,CW,a.dw,_,_,rfl,i1,c.cl,c.here,rfl,q⟩
end
structure Ini (H Hi:Hp) (x CW dw:Addr) (fs:List (Str × V)) (ps:List (Addr × HO)):Prop where
 sx:∀b o,H b=some o->b≠x->Hi b=some o
 hx:Hi x=some (.ins CW dw fs)
 held:∀q∈ps,Hi q.1=some q.2/\q.1≠x
theorem Ini.same {H Hi Hj:Hp} {x CW dw:Addr} {fs:List (Str × V)} {ps:List (Addr × HO)} (I:Ini H Hi x CW dw fs ps) (s:Same Hi Hj):Ini H Hj x CW dw fs ps:=
 ⟨fun b o e h=>s _ _ (I.sx b o e h),s _ _ I.hx,fun q hq=>⟨s _ _ (I.held q hq).1,(I.held q hq).2⟩⟩
theorem Ini.setx {H Hi:Hp} {x CW dw:Addr} {fs:List (Str × V)} {ps:List (Addr × HO)} (I:Ini H Hi x CW dw fs ps) (f:Str) (v:V):Ini H (upd Hi x (.ins CW dw (putF f v fs))) x CW dw (putF f v fs) ps:=
 ⟨fun b o e h=>by rw [zj h];exact I.sx b o e h,zc,fun q hq=>⟨by rw [zj (I.held q hq).2];exact (I.held q hq).1,(I.held q hq).2⟩⟩
theorem Ini.add {H Hi:Hp} {x CW dw p:Addr} {fs:List (Str × V)} {ps:List (Addr × HO)} {o:HO} (I:Ini H Hi x CW dw fs ps) (e:Hi p=some o) (h:p≠x):Ini H Hi x CW dw fs ((p,o) :: ps):=
 ⟨I.sx,I.hx,fun q hq=>by
  rcases kJ.mp hq with z | z
  ·rw [z];exact ⟨e,h⟩
  ·exact I.held q z⟩
theorem Ini.new {H Hi:Hp} {x CW dw p:Addr} {fs:List (Str × V)} {ps:List (Addr × HO)} {o:HO} (I:Ini H Hi x CW dw fs ps) (hp:Hi p=none):Ini H (upd Hi p o) x CW dw fs ((p,o) :: ps):=
 (I.same (zo hp o)).add zc (ze I.hx hp).symm
theorem Ini.nen {H Hi:Hp} {x CW dw p:Addr} {fs:List (Str × V)} {ps:List (Addr × HO)} (I:Ini H Hi x CW dw fs ps) (hp:Hi p=none) {q:Addr} {o:HO} (h:(q,o)∈ps):q≠p:=ze (I.held _ h).1 hp
section
variable {CW CH:Addr}
def z31 (K:kE) (CW CH:Addr):Sp:=fun vs H Q _=>∃(x l d dw:Addr) (as:List Addr) (rs:List Row) (fin:Fnd) (kvs:List (Key × V)) (n p':Nat) (gs':List Gd) (H0:Hp),vs=[.ref x,.ref l,.ref d]/\H x=some (.ins CW dw [])/\H0 x=none/\Same H0 H/\H l=some (.lst (as.map V.ref))/\q0 H as rs/\Code rs/\Zg rs=some fin/\
 H d=some (.dK kvs)/\z0a kvs/\ja rs 0 n 0 []=some (p',gs')/\∀(a:WAd) H',a.wk=x->qm K H0 H' CW CH a rs ⟨[],kvs,[]⟩ gs' [] [.str "on"] (some p')->Q .non H'
theorem scW0:zr ["self","code","names"] ["self","code","names"] (zh (mW 0)):=fsM
theorem z79 (D:HasI K CW "Walk.__init__" (mW 0)) (c:Jg K CW) (G:Glo mg) (cs:Cons K mg) (hmH:mg "Hold"=some (.ref CH)) (FS:FN P w K mg base 10 "states" ["code"] (Jy K)) (FN':FN P w K mg base 5 "check_names" Vb z66) (FL:FN P w K mg base 7 "label_places" ["rows"] (z0j K))
  (FH:IN P w K mg base 1 CH ["self","names"] (z64 CH)) (FC:MN P w K mg base 1 CW "come_to" ["self","place"] (z0l K CW CH)):IN P w K mg base 11 CW ["self","code","names"] (z31 K CW CH):=by
 refine IN.o D scW0 fun f cdv A vY s H vs Q E hr h=>?_
 obtain ⟨x,l,d,dw,as,rs,fin,kvs,n,p',gs',H0,rfl,hx,hx0,s0,hl,hR,hc,hfin,hd,hn,hcm,q⟩:=h;obtain ⟨oa,mo,to⟩:=cs.on;refine ⟨_,z8 (zp (zw FS hr rfl (z6 (pv 1) z7)))
  (z8 (zp (zw FN' (hr.mono (by decide)) rfl (z6 (pv 2) z7)))
  (z8 (jp (pv 0) (jg jL rfl G.list Zq (z6 (pv 1) z7)) rfl)
  (z8 (jp (pv 0) (zw FL (hr.mono (by decide)) rfl (z6 (pv 1) z7)) rfl)
  (z8 (jp (pv 0) (z8K FH (hr.mono (by decide)) rfl hmH (z6 (pv 2) z7)) rfl)
  (z8 (jp (pv 0) (qe z7) rfl)
  (z8 (jp (pv 0) (qe z7) rfl)
  (z8 (jp (pv 0) (qo rfl mo (v:=.ref oa) rfl) rfl)
  (zi (jp (pv 0) (z1g (pv 0) c.cl FC (hr.mono (by decide)) (z6 zl z7)) rfl))))))))),?_⟩
 symm
 have I0:Ini H H x CW dw [] []:=⟨fun _ _ e _=>e,hx,fun q hq=>by cases hq⟩
 have nlx:l≠x:=zL hl hx nofun;have ndx:d≠x:=zL hd hx nofun;have rowsK:∀{Hi fs ps},Ini H Hi x CW dw fs ps->q0 Hi as rs:=fun I=>hR.keep fun b xs e=>I.sx _ _ e (zL e hx nofun)
 have fresh:∀{Hi fs ps p},Ini H Hi x CW dw fs ps->Hi p=none->H0 p=none:=fun {Hi fs ps p} I hp=>by
  cases e:H0 p with
  | none=>rfl
  | some o=>
   have:=I.sx p o (s0 _ _ e) (ze e hx0)
   rw [hp] at this;cases this
 refine ⟨l,as,rs,fin,rfl,hl,hR,hc,hfin,fun fl fvs H1 s1 _ _ _=>?_⟩;refine ⟨d,kvs,rfl,s1 _ _ hd,hn,fun H2 s2=>?_⟩;have I2:=(I0.same s1).same s2;refine ⟨l,_,rfl,.inl (SqL.of (I2.sx _ _ hl nlx)),fun rl hrl=>?_⟩;have I3:=I2.new (o:=.lst (as.map V.ref)) hrl;refine ⟨x,CW,dw,[],rfl,I3.hx,c.cl,c.rows,(by decide),?_⟩;have I4:=I3.setx "rows" (.ref rl);clear I3 I2;generalize upd (upd H2 rl (.lst (as.map V.ref))) x (.ins CW dw (putF "rows" (.ref rl) []))=H4 at I4;refine ⟨l,as,rs,rfl,SqL.of (I4.sx _ _ hl nlx),rowsK I4,hc.ok,kD hc.hi (by decide),fun gd kg H5 hgd0 s5 hgd hL=>?_⟩;have ngx:gd≠x:=(ze I4.hx hgd0).symm;have nrg:rl≠gd:=I4.nen hgd0 (o:=.lst (as.map V.ref)) (by simp);have I5:=(I4.same s5).add hgd ngx;refine ⟨x,CW,dw,_,rfl,I5.hx,c.cl,c.goals,(by show 1 < 1000;decide),?_⟩;have I6:=I5.setx "goals" (.ref gd);clear I5 I4;generalize upd H5 x (.ins CW dw (putF "goals" (.ref gd) (putF "rows" (.ref rl) [])))=H6 at I6;refine (fun ho dx hho hdx ndh=>?_);have sA:=(zo hdx (.own ho))
 have hho':(upd H6 dx (.own ho)) ho=none:=by rw [zj ndh.symm];exact hho
 have sB:=sA.trans (zo hho' (.ins CH dx []));refine ⟨ho,d,dx,kvs,rfl,zc,sB _ _ (I6.sx _ _ hd ndx),fun hl' kd sl H7 f1 f2 f3 hA kp=>⟨rfl,?_⟩⟩;have s7:Same H6 H7:=fun b o e=>kp b o (sB _ _ e) (ze e hho)
 have g1:=sB.free f1;have g2:=sB.free f2;have g3:=sB.free f3;have fho:=fresh I6 hho;have nhx:ho≠x:=(ze I6.hx hho).symm;have n1:rl≠hl':=I6.nen g1 (o:=.lst (as.map V.ref)) (by simp);have n2:rl≠sl:=I6.nen g3 (o:=.lst (as.map V.ref)) (by simp);have n9:gd≠kd:=I6.nen g2 (o:=.dK kg) (by simp);have fh1:=fresh I6 g1;have fh2:=fresh I6 g2;have fh3:=fresh I6 g3;have I7:=((((I6.same s7).add hA.ins nhx).add hA.held (ze I6.hx g1).symm).add hA.known (ze I6.hx g2).symm).add hA.said (ze I6.hx g3).symm;refine ⟨x,CW,dw,_,rfl,I7.hx,c.cl,c.hold,(by show 2 < 1000;decide),?_⟩;have I8:=I7.setx "hold" (.ref ho);have nehs:=hA.ne;clear I7 I6 kp hA sA sB;generalize upd H7 x (.ins CW dw (putF "hold" (.ref ho) (putF "goals" (.ref gd) (putF "rows" (.ref rl) []))))=H8 at I8;refine ⟨vW,fun wl hwl=>?_⟩;have n4:hl'≠wl:=I8.nen hwl (o:=.lst []) (by simp);have n5:sl≠wl:=I8.nen hwl (o:=.lst []) (by simp);have I9:=I8.new (o:=.lst []) hwl;have nrw:rl≠wl:=I8.nen hwl (o:=.lst (as.map V.ref)) (by simp);have nwx:wl≠x:=(ze I8.hx hwl).symm;have fwl:=fresh I8 hwl;refine ⟨x,CW,dw,_,rfl,I9.hx,c.cl,c.wards,(by show 3 < 1000;decide),?_⟩;have I10:=I9.setx "wards" (.ref wl);clear I9 I8;generalize upd (upd H8 wl (.lst [])) x (.ins CW dw (putF "wards" (.ref wl) (putF "hold" (.ref ho) (putF "goals" (.ref gd) (putF "rows" (.ref rl) [])))))=H10 at I10;refine ⟨vW,fun pl hpl=>?_⟩;have n3:rl≠pl:=I10.nen hpl (o:=.lst (as.map V.ref)) (by simp);have n6:wl≠pl:=I10.nen hpl (o:=.lst []) (by simp);have n7:hl'≠pl:=I10.nen hpl (o:=.lst []) (by simp);have n8:sl≠pl:=I10.nen hpl (o:=.lst []) (by simp);have fpl:=fresh I10 hpl;have I11:=I10.new (o:=.lst []) hpl;refine ⟨x,CW,dw,_,rfl,I11.hx,c.cl,c.passed,(by show 4 < 1000;decide),?_⟩;have I12:=I11.setx "passed" (.ref pl);clear I11 I10;generalize upd (upd H10 pl (.lst [])) x (.ins CW dw (putF "passed" (.ref pl) (putF "wards" (.ref wl) (putF "hold" (.ref ho) (putF "goals" (.ref gd) (putF "rows" (.ref rl) []))))))=H12 at I12;refine ⟨x,CW,dw,_,rfl,I12.hx,c.cl,c.ending,(by show 5 < 1000;decide),?_⟩;have I13:=I12.setx "ending" (.ref oa);clear I12;generalize upd H12 x (.ins CW dw (putF "ending" (.ref oa) (putF "passed" (.ref pl) (putF "wards" (.ref wl) (putF "hold" (.ref ho) (putF "goals" (.ref gd) (putF "rows" (.ref rl) [])))))))=H13 at I13;have hrl13:H13 rl=some (.lst (as.map V.ref)):=(I13.held (rl,.lst (as.map V.ref)) (by simp)).1;have hho13:=(I13.held (ho,.ins CH dx [("held",.ref hl'),("known",.ref kd),("said",.ref sl)]) (by simp)).1;have hhl13:=(I13.held (hl',.lst []) (by simp)).1;have hwl13:=(I13.held (wl,.lst []) (by simp)).1;have hpl13:=(I13.held (pl,.lst []) (by simp)).1;have hgd13:=(I13.held (gd,.dK kg) (by simp)).1;have hkd13:=(I13.held (kd,.dK kvs) (by simp)).1;have hsl13:=(I13.held (sl,.lst []) (by simp)).1;refine ⟨x,dw,_,rfl,I13.hx,rfl,x,dw,rl,wl,ho,dx,hl',_,_,as,[],rs,[],[],0,n,p',gs',rfl,I13.hx,rfl,rfl,rfl,hho13,rfl,hhl13,hrl13,rowsK I13,hwl13,.nil,nrw,n4,hcm,fun gas' H14 k14 v1 v2=>?_⟩;refine ⟨x,CW,dw,_,rfl,k14 _ _ I13.hx nwx.symm,c.cl,c.here,(by show 6 < 1000;decide),?_⟩;have kx:∀{b o},H13 b=some o->b≠wl->b≠x->(upd H14 x (.ins CW dw (putF "here" (.int (p':Nat)) (putF "ending" (.ref oa) (putF "passed" (.ref pl) (putF "wards" (.ref wl) (putF "hold" (.ref ho) (putF "goals" (.ref gd) (putF "rows" (.ref rl) []))))))))) b=some o:=fun e h1 h2=>by rw [zj h2];exact k14 _ _ e h1
 have sx15:Same H0 (upd H14 x (.ins CW dw (putF "here" (.int (p':Nat)) (putF "ending" (.ref oa) (putF "passed" (.ref pl) (putF "wards" (.ref wl) (putF "hold" (.ref ho) (putF "goals" (.ref gd) (putF "rows" (.ref rl) []))))))))):=fun b o e=>kx (I13.sx b o (s0 _ _ e) (ze e hx0)) (ze e fwl) (ze e hx0)
 have kt:qB H14 (upd H14 x (.ins CW dw (putF "here" (.int (p':Nat)) (putF "ending" (.ref oa) (putF "passed" (.ref pl) (putF "wards" (.ref wl) (putF "hold" (.ref ho) (putF "goals" (.ref gd) (putF "rows" (.ref rl) []))))))))):=qB.upd (k14 _ _ I13.hx nwx.symm) rfl;refine q ⟨x,dw,rl,gd,ho,wl,pl,hl',kd,sl,dx⟩ _ rfl ⟨sx15,hx0,fpl,fh1,fh2,fh3,fwl,fho,⟨oa,zc,to.sq _⟩,⟨as,kx hrl13 nrw (zL hrl13 I13.hx nofun),(rowsK I13).keep fun b xs e=>kx e (zL e hwl13 nofun) (zL e I13.hx nofun)⟩,⟨kg,kx hgd13 (zL hgd13 hwl13 nofun) (zL hgd13 I13.hx nofun),hL⟩,
  ⟨kx hho13 (zL hho13 hwl13 nofun) nhx,kx hhl13 n4 (zL hhl13 I13.hx nofun),kx hkd13 (zL hkd13 hwl13 nofun) (zL hkd13 I13.hx nofun),kx hsl13 n5 (zL hsl13 I13.hx nofun),nehs⟩,⟨gas',by rw [zj nwx];exact v1,v2.keep kt⟩,kx hpl13 n6.symm (zL hpl13 I13.hx nofun),n1,n2,n3,n4.symm,n5.symm,n6,n7.symm,n8.symm,n9,nhx.symm,nrw⟩
end
section
variable {CW CH:Addr}
end
structure jb (rs:List Row) (S:Fnd):Prop where
 len:S.length=rs.length
 zero:S[0]?=some (some (0,[]))
 here:∀(p:Nat) r s,rs[p]?=some r->S[p]?=some (some s)->Zc rs p r s.1 s.2.getLast?=[]/\s.2.length<=1000
 next:∀(p:Nat) r s,rs[p]?=some r->S[p]?=some (some s)->∀x s',(x,s')∈Zm rs p r s->∃j:Nat,x=.int (j:Int)/\S[j]?=some (some s')
def Sub (f S:Fnd):Prop:=∀(p:Nat) s,f[p]?=some (some s)->S[p]?=some (some s)
noncomputable def JM (f:Fnd):Nat:=(f.filter Option.isNone).length
theorem QY:∀{f:Fnd} {j:Nat} {s:Sta},f[j]?=some none->JM (f.set j (some s))+1=JM f
 | [],_,_,h=>by cases h
 | o :: f,0,s,h=>by
  cases h;rfl
 | o :: f,j+1,s,h=>by
  have ih:=QY (f:=f) (j:=j) (s:=s) h;unfold JM at ih ⊢
  rw [List.set_cons_succ,List.filter_cons,List.filter_cons];cases o with
  | none=>simp only [Option.isNone_none,if_true,kX];lia
  | some x=>simp only [Option.isNone_some,Bool.false_eq_true,if_false];exact ih
theorem z4G {S:Fnd}:∀(ns:List (V × Sta)) (f:Fnd) (w:List Nat),(∀x s',(x,s')∈ns->∃j:Nat,x=.int (j:Int)/\S[j]?=some (some s'))->f.length=S.length->Sub f S->(∀p∈w,∃s,f[p]?=some (some s))->
  ∃f' w',Qf ns f w=some (f',w')/\f'.length=S.length/\Sub f' S/\(∀p∈w',∃s,f'[p]?=some (some s))/\JM f'+w'.length=JM f+w.length/\(∀(p:Nat) s,f[p]?=some (some s)->f'[p]?=some (some s))
 :=by
 intro ns;induction ns with
 | nil=>intro f w _ hl hs hw;exact ⟨f,w,rfl,hl,hs,hw,rfl,fun _ _ e=>e⟩
 | cons hd ns ih=>
  obtain ⟨x,s⟩:=hd;intro f w hn hl hs hw;obtain ⟨j,rfl,hj⟩:=hn x s (kY ..);have hjl:j < f.length:=by rw [hl];exact (kj.mp hj).1
  have hn':=fun x s' h=>hn x s' (kZ _ h)
  unfold Qf;dsimp only;rw [kG (by lia),yg];cases e:f[j]? with
  | none=>rw [kQ hjl] at e;cases e
  | some o=>
   cases o with
   | none=>
    dsimp only;have keep:∀(p:Nat) s0,f[p]?=some (some s0)->(f.set j (some s))[p]?=some (some s0):=fun p s0 h=>by
     by_cases hp:p=j
     ·subst hp;rw [e] at h;cases h
     ·rw [vt (Ne.symm hp)];exact h
    obtain ⟨f',w',h1,h2,h3,h4,h5,h6⟩:=ih (f.set j (some s)) (w++[j]) hn' (by rw [vE];exact hl)
     (fun p s0 h=>by
      by_cases hp:p=j
      ·subst hp;rw [vw hjl] at h;cases h;exact hj
      ·rw [vt (Ne.symm hp)] at h;exact hs p s0 h)
     (fun p hp=>by
      rcases ya.mp hp with h | h
      ·obtain ⟨s0,h⟩:=hw p h;exact ⟨s0,keep p s0 h⟩
      ·rw [kz.mp h];exact ⟨s,vw hjl⟩)
    refine ⟨f',w',h1,h2,h3,h4,?_,fun p s0 h=>h6 p s0 (keep p s0 h)⟩;have:=QY (s:=s) e
    rw [ku,kL] at h5;lia
   | some s'=>
    have e2:s'=s:=by
     have:=hs j s' e
     rw [hj] at this;cases this;rfl
    dsimp only;rw [kG e2];exact ih f w hn' hl hs hw
theorem z9F {rs:List Row} {S:Fnd} (T:jb rs S):∀(n:Nat) (f:Fnd) (w:List Nat),f.length=S.length->Sub f S->(∀p∈w,∃s,f[p]?=some (some s))->JM f+w.length<=n->
  ∃fin,bfs rs n f w=some fin/\fin.length=S.length/\Sub fin S
 :=by
 have nil:∀(n:Nat) (f:Fnd),f.length=S.length->Sub f S->∃fin,bfs rs n f []=some fin/\fin.length=S.length/\Sub fin S:=fun n f hl hs=>⟨f,by cases n <;> rfl,hl,hs⟩
 intro n;induction n with
 | zero=>
  intro f w hl hs hw hn;cases w with
  | nil=>exact nil _ f hl hs
  | cons p w=>simp at hn
 | succ n ih=>
  intro f w hl hs hw hn;cases w with
  | nil=>exact nil _ f hl hs
  | cons p w=>
   obtain ⟨s,hp⟩:=hw p (kY ..);have hS:=hs p s hp;have hpl:p < rs.length:=by rw [<-T.len];exact (kj.mp hS).1
   have er:rs[p]?=some rs[p]:=kQ hpl;obtain ⟨h1,h2⟩:=T.here p rs[p] s er hS;unfold bfs;rw [er,hp];dsimp only;rw [kG ⟨by rw [h1];rfl,h2⟩];obtain ⟨f',w',e1,e2,e3,e4,e5,_⟩:=z4G (Zm rs p rs[p] s) f w (T.next p rs[p] s er hS) hl hs fun q hq=>hw q (kZ _ hq)
   rw [e1];dsimp only;rw [kX] at hn;exact ih f' w' e2 e3 e4 (by lia)
theorem z0s:∀n:Nat,JM (List.replicate n none)=n
 | 0=>rfl
 | n+1=>by
  have ih:=z0s n;unfold JM at ih ⊢
  rw [vD,List.filter_cons];simp only [Option.isNone_none,if_true,kX];lia
theorem z2T {rs:List Row} {S:Fnd} (T:jb rs S) (hn:rs.length<=299):∃fin,Zg rs=some fin/\fin.length=rs.length/\Sub fin S:=by
 have h0:0 < rs.length:=by rw [<-T.len];exact (kj.mp T.zero).1
 have e0:(List.replicate rs.length (none:Option Sta))[0]?=some none:=by rw [vq,kG h0]
 have hset:=QY (s:=((0,[]):Sta)) e0;rw [z0s] at hset;obtain ⟨fin,h1,h2,h3⟩:=z9F T 300 ((List.replicate rs.length none).set 0 (some (0,[]))) [0] (by rw [vE,vj,T.len])
  (fun p s h=>by
   by_cases hp:p=0
   ·subst hp;rw [vw (by rw [vj];exact h0)] at h;cases h;exact T.zero
   ·rw [vt (Ne.symm hp),vq] at h;split at h
    ·cases h
    ·cases h)
  (fun p hp=>by
   rw [kz.mp hp];exact ⟨_,vw (by rw [vj];exact h0)⟩)
  (by show JM _+1<=300;lia)
 exact ⟨fin,h1,by rw [h2,T.len],h3⟩
noncomputable def QB (r:Row) (s:Sta):Option Sta:=if inT r.op qi=true then none else some (zJ r s.1,zQ r s.1 s.2 (tabI zS r.op))
noncomputable def tgts (r:Row) (s:Sta):List (Int × Sta):=
 (if inT r.op jumping=true then [(argM r.arg,((if inT r.op leaving=true then s.1 else zJ r s.1),s.2))] else [])++
 (if inT r.op faulting=true then (match s.2.getLast? with
  | some g=>[(g.1,(g.2+1,s.2.dropLast))]
  | none=>[]) else [])
noncomputable def jE (r:Row) (s:Sta):Bool:= !decide (s.1 < qd r)&& !ZN r s.2.getLast?&& !qF r s.1 s.2.getLast?&&decide (s.2.length<=1000)
noncomputable def chk (Γ:Int->Option Sta):List Row->Option Sta->Option (Option Sta)
 | [],c=>some c
 | r :: l,c=>
  if r.op="label" then (match Γ (argM r.arg),c with
   | some s,some s'=>if s=s'/\jE r s=true then chk Γ l (some s) else none
   | some s,none=>if jE r s=true then chk Γ l (some s) else none
   | none,none=>chk Γ l none
   | none,some _=>none)
  else (match c with
   | none=>chk Γ l none
   | some s=>if jE r s=true/\(tgts r s).all (fun t=>decide (Γ t.1=some t.2))=true then chk Γ l (QB r s) else none)
noncomputable def stOf (Γ:Int->Option Sta):List Row->Option Sta->Fnd
 | [],_=>[]
 | r :: l,c=>
  if r.op="label" then Γ (argM r.arg) :: stOf Γ l (Γ (argM r.arg))
  else c :: stOf Γ l (match c with
   | none=>none
   | some s=>QB r s)
theorem QJ (Γ:Int->Option Sta):∀(l:List Row) (c:Option Sta),(stOf Γ l c).length=l.length
 | [],_=>rfl
 | r :: l,c=>by
  unfold stOf;split
  ·rw [kX,QJ Γ l,kX]
  ·rw [kX,QJ Γ l,kX]
theorem ZE (Γ:Int->Option Sta) (r:Row) (l:List Row) (c:Option Sta):chk Γ (r :: l) c=
  if r.op="label" then (match Γ (argM r.arg),c with
   | some s,some s'=>if s=s'/\jE r s=true then chk Γ l (some s) else none
   | some s,none=>if jE r s=true then chk Γ l (some s) else none
   | none,none=>chk Γ l none
   | none,some _=>none)
  else (match c with
   | none=>chk Γ l none
   | some s=>if jE r s=true/\(tgts r s).all (fun t=>decide (Γ t.1=some t.2))=true then chk Γ l (QB r s) else none):=rfl
theorem zB (Γ:Int->Option Sta):∀(a b:List Row) (c:Option Sta),chk Γ (a++b) c=(chk Γ a c).bind fun c'=>chk Γ b c'
 :=by
 intro a;induction a with
 | nil=>intro b c;rfl
 | cons r a ih=>
  intro b c;rw [List.cons_append,ZE,ZE];by_cases hl:r.op="label"
  ·rw [kG hl,kG hl];cases Γ (argM r.arg) with
   | none=>cases c with
    | none=>exact ih b _
    | some s'=>rfl
   | some s=>cases c with
    | none=>
     dsimp only;by_cases hz:jE r s=true
     ·rw [kG hz,kG hz];exact ih b _
     ·rw [kF hz,kF hz];rfl
    | some s'=>
     dsimp only;by_cases hz:s=s'/\jE r s=true
     ·rw [kG hz,kG hz];exact ih b _
     ·rw [kF hz,kF hz];rfl
  ·rw [kF hl,kF hl];cases c with
   | none=>exact ih b _
   | some s=>
    dsimp only;by_cases hz:jE r s=true/\(tgts r s).all (fun t=>decide (Γ t.1=some t.2))=true
    ·rw [kG hz,kG hz];exact ih b _
    ·rw [kF hz,kF hz];rfl
structure Fits (Γ:Int->Option Sta) (l:List Row) (S:Fnd) (i:Nat) (r:Row) (s:Sta):Prop where
 ok:jE r s=true
 tg:∀t∈tgts r s,Γ t.1=some t.2
 nx:∀s',QB r s=some s'->S[i+1]?=some (some s')
theorem z1m:inT "label" qi=false:=vV
theorem z2r (r:Row) (h:r.op="label") (s:Sta):QB r s=some s:=by
 unfold QB;rw [h,z1m,kF ke];unfold zJ;rw [h];have e1:tabI zN "label"=0:=vV;have e2:tabI zU "label"=0:=vV;have e3:tabI zS "label"=0:=vV;rw [e1,e2,e3];unfold zQ;rw [kF (by decide),kF (by decide)];simp
theorem z2q (r:Row) (h:r.op="label") (s:Sta):tgts r s=[]:=by
 unfold tgts;have e1:inT "label" jumping=false:=vV;have e2:inT "label" faulting=false:=vV;rw [h,e1,e2,kF ke,kF ke];rfl
theorem z12 {Γ:Int->Option Sta} {l:List Row} {s:Sta} {c':Option Sta} (h:chk Γ l (some s)=some c') (hc:c'=none):(stOf Γ l (some s))[0]?=some (some s):=by
 cases l with
 | nil=>cases h;cases hc
 | cons r l=>
  unfold chk at h;unfold stOf;by_cases hl:r.op="label"
  ·rw [kG hl] at h;rw [kG hl];cases e:Γ (argM r.arg) with
   | none=>rw [e] at h;cases h
   | some s2=>
    rw [e] at h;dsimp only at h;by_cases hz:s2=s/\jE r s2=true
    ·rw [hz.1];rfl
    ·rw [kF hz] at h;cases h
  ·rw [kF hl];rfl
theorem z5I {Γ:Int->Option Sta}:∀(l:List Row) (c:Option Sta),chk Γ l c=some none->∀(i:Nat) r s,l[i]?=some r->(stOf Γ l c)[i]?=some (some s)->Fits Γ l (stOf Γ l c) i r s
 :=by
 intro l;induction l with
 | nil=>intro _ _ i r s hr _;cases hr
 | cons r0 l ih=>
  intro c h i r s hr hs;unfold chk at h;unfold stOf at hs ⊢
  by_cases hl:r0.op="label"
  ·rw [kG hl] at h hs ⊢
   have go:∀{c2:Option Sta},Γ (argM r0.arg)=c2->chk Γ l c2=some none->(∀s0,c2=some s0->jE r0 s0=true)->Fits Γ (r0 :: l) (Γ (argM r0.arg) :: stOf Γ l (Γ (argM r0.arg))) i r s:=by
    intro c2 e h2 hok;rw [e] at hs ⊢
    cases i with
    | zero=>
     cases hr;have es:c2=some s:=by simpa using hs
     subst es;refine ⟨hok s rfl,fun t ht=>?_,fun s' hn=>?_⟩
     ·rw [z2q r0 hl] at ht;cases ht
     ·rw [z2r r0 hl] at hn;cases hn;exact z12 h2 rfl
    | succ i=>
     have F:=ih c2 h2 i r s hr hs;exact ⟨F.ok,F.tg,F.nx⟩
   cases e:Γ (argM r0.arg) with
   | none=>
    rw [e] at h;cases c with
    | some s'=>cases h
    | none=>have:=go e h (fun _ z=>by cases z);rw [e] at this;exact this
   | some s2=>
    rw [e] at h;cases c with
    | some s'=>
     dsimp only at h;by_cases hz:s2=s'/\jE r0 s2=true
     ·rw [kG hz] at h;have:=go e h (fun _ z=>by cases z;exact hz.2);rw [e] at this;exact this
     ·rw [kF hz] at h;cases h
    | none=>
     dsimp only at h;by_cases hz:jE r0 s2=true
     ·rw [kG hz] at h;have:=go e h (fun _ z=>by cases z;exact hz);rw [e] at this;exact this
     ·rw [kF hz] at h;cases h
  ·rw [kF hl] at h hs ⊢
   cases c with
   | none=>
    dsimp only at h hs ⊢
    cases i with
    | zero=>cases hs
    | succ i=>
     have F:=ih none h i r s hr hs;exact ⟨F.ok,F.tg,F.nx⟩
   | some s0=>
    dsimp only at h hs ⊢
    by_cases hz:jE r0 s0=true/\(tgts r0 s0).all (fun t=>decide (Γ t.1=some t.2))=true
    case neg=>rw [kF hz] at h;cases h
    rw [kG hz] at h;cases i with
    | zero=>
     cases hr;cases hs;refine ⟨hz.1,fun t ht=>kI (List.all_eq_true.mp hz.2 t ht),fun s' hn=>?_⟩;rw [hn] at h ⊢
     exact z12 h rfl
    | succ i=>
     have F:=ih _ h i r s hr hs;exact ⟨F.ok,F.tg,F.nx⟩
theorem Jx {Γ:Int->Option Sta}:∀(l:List Row) (c:Option Sta) (q:Nat) (r:Row),l[q]?=some r->r.op="label"->(stOf Γ l c)[q]?=some (Γ (argM r.arg))
 | [],_,_,_,h,_=>by cases h
 | r0 :: l,c,0,r,h,hl=>by
  cases h;unfold stOf;rw [kG hl];rfl
 | r0 :: l,c,q+1,r,h,hl=>by
  unfold stOf;split
  ·exact Jx l _ q r h hl
  ·exact Jx l _ q r h hl
theorem z95 {rs:List Row} {m:Int} {q:Nat} (h:zM rs m=some q):∃r,rs[q]?=some r/\r.op="label"/\argM r.arg=m:=by
 unfold zM at h;obtain ⟨hq,hp,_⟩:=List.findIdx?_eq_some_iff_getElem.mp h;refine ⟨rs[q],kQ hq,?_⟩;unfold labP at hp;rw [yj,yk,yk] at hp;exact ⟨hp.1,by rw [hp.2];rfl⟩
theorem z4t {rs:List Row} {Γ:Int->Option Sta} (hΓ:∀m s,Γ m=some s->(zM rs m).isSome=true) (h:chk Γ rs (some (0,[]))=some none):jb rs (stOf Γ rs (some (0,[]))):=by
 have hlab:∀m s,Γ m=some s->∃q:Nat,labV rs m=.int (q:Int)/\q < rs.length/\(stOf Γ rs (some (0,[])))[q]?=some (some s):=by
  intro m s e;obtain ⟨q,hq⟩:=Option.isSome_iff_exists.mp (hΓ m s e);obtain ⟨r,hr,ho,ha⟩:=z95 hq;refine ⟨q,by unfold labV;rw [hq],(kj.mp hr).1,?_⟩;rw [Jx rs _ q r hr ho,ha,e]
 have F:=z5I rs (some (0,[])) h;have lead:∀(p:Nat) r s,rs[p]?=some r->(stOf Γ rs (some (0,[])))[p]?=some (some s)->∀m∈ql rs p r s.1 s.2.getLast?,∃j:Nat,m.1=.int (j:Int)/\j < rs.length/\(stOf Γ rs (some (0,[])))[j]?=some (some (m.2.1,zQ r s.1 s.2 m.2.2)):=by
  intro p r s hr hs m hm;have f:=F p r s hr hs;have hok:=f.ok;unfold jE at hok;simp only [yj,Bool.not_eq_true',yk,decide_eq_false_iff_not] at hok;obtain ⟨⟨⟨k1,k2⟩,k3⟩,k4⟩:=hok;unfold ql at hm;rw [km k1,kF ke,k2,kF ke] at hm;rcases ya.mp hm with hm | hm
  ·rcases ya.mp hm with hm | hm
   ·unfold mv1 at hm;by_cases hn:inT r.op qi=true
    ·rw [kG hn] at hm;cases hm
    ·rw [kF hn] at hm;rw [kz.mp hm];have e:=f.nx (zJ r s.1,zQ r s.1 s.2 (tabI zS r.op)) (by unfold QB;rw [kF hn]);refine ⟨p+1,by push_cast;rfl,?_,e⟩;have:=(kj.mp e).1
     rw [QJ] at this;exact this
   ·unfold mv2 at hm;by_cases hj:inT r.op jumping=true
    ·rw [kG hj] at hm;rw [kz.mp hm];obtain ⟨q,h1,h2,h3⟩:=hlab _ _ (f.tg (argM r.arg,((if inT r.op leaving=true then s.1 else zJ r s.1),s.2)) (by
      unfold tgts;rw [kG hj];exact kW _ (kz.mpr rfl)))
     refine ⟨q,h1,h2,?_⟩;have e0:zQ r s.1 s.2 0=s.2:=by unfold zQ;rw [kF (by decide),kF (by decide)]
     show _=some (some ((if inT r.op leaving=true then s.1 else zJ r s.1),zQ r s.1 s.2 0));rw [e0];exact h3
    ·rw [kF hj] at hm;cases hm
  ·unfold mv3 at hm;by_cases hf:inT r.op faulting=true
   ·rw [kG hf] at hm;cases hg:s.2.getLast? with
    | none=>rw [hg] at hm;cases hm
    | some g=>
     rw [hg] at hm;rw [kz.mp hm];obtain ⟨q,h1,h2,h3⟩:=hlab _ _ (f.tg (g.1,(g.2+1,s.2.dropLast)) (by
      unfold tgts;rw [kG hf,hg];exact kU _ (kz.mpr rfl)))
     refine ⟨q,h1,h2,?_⟩;have e0:zQ r s.1 s.2 (-1)=s.2.dropLast:=by unfold zQ;rw [kF (by decide),kG rfl]
     show _=some (some (g.2+1,zQ r s.1 s.2 (-1)));rw [e0];exact h3
   ·rw [kF hf] at hm;cases hm
 refine ⟨QJ _ _ _,z12 h rfl,fun p r s hr hs=>?_,fun p r s hr hs x s' hx=>?_⟩
 ·have hok:=(F p r s hr hs).ok;unfold jE at hok;simp only [yj,Bool.not_eq_true',yk,decide_eq_false_iff_not] at hok;obtain ⟨⟨⟨k1,k2⟩,k3⟩,k4⟩:=hok;refine ⟨?_,k4⟩;have hend:inV (.int (rs.length:Nat)) ((ql rs p r s.1 s.2.getLast?).map (·.1))=false:=by
   unfold inV;rw [List.any_eq_false];intro y hy;obtain ⟨m,hm,rfl⟩:=yl.mp hy;obtain ⟨j,h1,h2,_⟩:=lead p r s hr hs m hm;rw [h1];intro z;have z:decide ((j:Int)=(rs.length:Int))=true:=by
    first
     | exact z
     | simpa [eqV] using z
   have:=kI z
   lia
  unfold Zc Qp;rw [km k1,k2,k3,hend];rfl
 ·unfold Zm at hx;obtain ⟨m,hm,e⟩:=yl.mp hx;cases e;obtain ⟨j,h1,_,h3⟩:=lead p r s hr hs m hm;exact ⟨j,h1,h3⟩
noncomputable def jF:List Str:=["Oops","Zero","Unset","Type","Big"]
noncomputable def okV:V->Bool
 | .non=>true
 | .bl _=>true
 | .int i=> !big i
 | .str z=>decide (z∈jF)
 | _=>false
def okVs (l:List V):Prop:=∀v∈l,okV v=true
theorem Qk:∀z∈jF,Z9 (.str z)=true/\JS (.str z)=true:=vV
theorem jY {v:V} (h:okV v=true):Z9 v=true:=by
 cases v with
 | non=>rfl
 | bl b=>rfl
 | int i=>rfl
 | str z=>exact (Qk z (kI h)).1
 | _=>cases h
theorem okVs.nil:okVs []:=fun _ h=>by cases h
theorem okVs.app {a b:List V} (x:okVs a) (y:okVs b):okVs (a++b):=fun v h=>(ya.mp h).elim (x v) (y v)
theorem okVs.one {v:V} (h:okV v=true):okVs [v]:=fun w hw=>by rw [kz.mp hw];exact h
theorem okVs.left {a b:List V} (x:okVs (a++b)):okVs a:=fun v h=>x v (kW _ h)
theorem okVs.last {a:List V} {v:V} (x:okVs (a++[v])):okV v=true:=x v (kU _ (kz.mpr rfl))
structure OkM (m:Mst) (n:Nat):Prop where
 st:okVs m.st
 kn:∀q∈m.kn,okV q.2=true
 sd:okVs m.sd
 lst:m.st.length<=n
 lkn:m.kn.length<=8+n
 lsd:m.sd.length<=n
theorem OkM.more {m:Mst} {n k:Nat} (h:OkM m n) (hk:n<=k):OkM m k:=⟨h.st,h.kn,h.sd,kD h.lst hk,by have:=h.lkn;lia,kD h.lsd hk⟩
theorem OkM.stk {m:Mst} {n k:Nat} (h:OkM m n) (hk:n<=k) {st:List V} (hs:okVs st) (hl:st.length<=k):OkM { m with st:=st } k:=⟨hs,h.kn,h.sd,hl,by have:=h.lkn;show m.kn.length<=_;lia,kD h.lsd hk⟩
def zaA (r:Row) (d:Int) (m':Mst):Res->Prop
 | .next=>inT r.op qi=false/\(m'.st.length:Int)=zJ r d/\tabI zS r.op=0
 | .go=>inT r.op jumping=true/\(m'.st.length:Int)=(if inT r.op leaving=true then d else zJ r d)
 | .fault k=>inT r.op faulting=true/\k∈jF/\d - qd r<=(m'.st.length:Int)/\(m'.st.length:Int)<=d
 | .value v=>r.op="return"/\okV v=true
def Does (r:Row) (m:Mst) (n:Nat):Prop:=∃res m',rowM r.op r.arg m=some (res,m')/\OkM m' (n+1)/\m.sd <+: m'.sd/\zaA r (m.st.length:Int) m' res
theorem Zh {l:List V} (h:1<=l.length):∃ys x,l=ys++[x]:=by
 rcases List.eq_nil_or_concat l with e | ⟨ys,x,e⟩
 ·rw [e] at h;cases h
 ·exact ⟨ys,x,by rw [e,List.concat_eq_append]⟩
theorem z8n {l:List V} (h:2<=l.length):∃ys x y,l=ys++[x]++[y]:=by
 obtain ⟨zs,y,e⟩:=Zh (l:=l) (by lia);rw [e,ku,kL] at h;obtain ⟨ys,x,e'⟩:=Zh (l:=zs) (by lia);exact ⟨ys,x,y,by rw [e,e']⟩
theorem qP (l:List V):l <+: l:=List.prefix_refl l
theorem jd {a n:Nat} (h:a<=n) (hn:n<=1000):qW a=true:=ko (by lia)
theorem z50 {op:Str} (ho:op∈Ze) {x y:V} (hx:okV x=true) (hy:okV y=true):∃r1 r2,ZF op x y=some (r1,r2)/\((r1=.non/\okV r2=true)\/∃k,k∈jF/\r1=.str k/\inT op faulting=true):=by
 by_cases hs:op="same"
 ·exact ⟨.non,.bl (z4D x y),by unfold ZF;rw [kG hs],.inl ⟨rfl,rfl⟩⟩
 have hf:inT op faulting=true:=by
  unfold Ze at ho;simp only [kJ,kC,or_false] at ho;rcases ho with h | h | h | h | h | h | h
  all_goals first
   | exact vd h hs
   | (rw [h];decide+kernel)
 have ty:("Type":Str)∈jF:=vV;have no:(∀i j,¬(x=.int i/\y=.int j))->∃r1 r2,ZF op x y=some (r1,r2)/\((r1=.non/\okV r2=true)\/∃k,k∈jF/\r1=.str k/\inT op faulting=true):=fun hn=>by
  refine ⟨.str "Type",.non,?_,.inr ⟨_,ty,rfl,hf⟩⟩;unfold ZF;rw [kF hs];split
  ·rename_i i j
   exact vd ⟨rfl,rfl⟩ (hn i j)
  ·rfl
 cases x with
 | int i=>
  cases y with
  | int j=>
   have bi:big i=false:=by simpa [okV] using hx
   have bj:big j=false:=by simpa [okV] using hy
   unfold ZF;rw [kF hs];dsimp only;rw [bi,bj,kF ke,kF ke];by_cases hz:(op="div"\/op="rest")/\j=0
   ·rw [kG hz];exact ⟨_,_,rfl,.inr ⟨_,vV,rfl,hf⟩⟩
   rw [kF hz];by_cases hl:op="less"
   ·rw [kG hl];exact ⟨_,_,rfl,.inl ⟨rfl,rfl⟩⟩
   rw [kF hl];obtain ⟨k,hk⟩:∃k,reck op i j=some k:=by
    unfold Ze at ho;simp only [kJ,kC,or_false] at ho;unfold reck;rcases ho with h | h | h | h | h | h | h
    ·exact ⟨_,by rw [kG h]⟩
    ·subst h;exact ⟨_,by rw [kF vV,kG rfl]⟩
    ·subst h;exact ⟨_,by rw [kF vV,kF vV,kG rfl]⟩
    ·subst h;have:¬j=0:=fun z=>hz ⟨.inl rfl,z⟩
     exact ⟨_,by rw [kF vV,kF vV,kF vV,kG rfl,kF this]⟩
    ·subst h;have:¬j=0:=fun z=>hz ⟨.inr rfl,z⟩
     exact ⟨_,by rw [kF vV,kF vV,kF vV,kF vV,kG rfl,kF this]⟩
    ·exact vd h hl
    ·exact vd h hs
   rw [hk];dsimp only;by_cases hb:big k=true
   ·rw [kG hb];exact ⟨_,_,rfl,.inr ⟨_,vV,rfl,hf⟩⟩
   ·rw [kF hb];exact ⟨_,_,rfl,.inl ⟨rfl,by unfold okV;simpa using hb⟩⟩
  | _=>exact no fun i j h=>by cases h.2
 | _=>exact no fun i j h=>by cases h.1
theorem z51 {op:Str} (ho:op∈ZY) {x:V} (hx:okV x=true):∃r1 r2,JO op x=some (r1,r2)/\((r1=.non/\okV r2=true)\/∃k,k∈jF/\r1=.str k/\inT op faulting=true):=by
 unfold JO;by_cases hn:op="not"
 ·rw [kG hn];exact ⟨_,_,rfl,.inl ⟨rfl,rfl⟩⟩
 rw [kF hn];have e:op="neg":=by
  unfold ZY at ho;simp only [kJ,kC,or_false] at ho;rcases ho with h | h
  ·exact h
  ·exact vd h hn
 have hf:inT op faulting=true:=by rw [e];decide+kernel
 have ty:("Type":Str)∈jF:=vV;cases x with
 | int i=>
  refine ⟨_,_,rfl,.inl ⟨rfl,?_⟩⟩;have bi:big i=false:=by simpa [okV] using hx
  show (!big (-i))=true;unfold big at bi ⊢
  rw [Int.natAbs_neg,bi];rfl
 | _=>exact ⟨_,_,rfl,.inr ⟨_,ty,rfl,hf⟩⟩
end My
local macro_rules | `(tactic| trivial)=>`(tactic| (dsimp only;decide+kernel))
local macro_rules | `(tactic| trivial)=>`(tactic| decide+kernel)
namespace My
open L2
variable {P:Program} {w:World} {K:kE} {mg:Str->Option Value} {base:Heap}
section
variable {m:Mst} {n:Nat} {arg:V} {ln:Int}
theorem len1 (ys:List V) (x:V):(ys++[x]).length=ys.length+1:=by rw [ku,kL]
theorem ZP {op:Str} (hok:Z3 ⟨op,arg,ln⟩) {s:Str} (hs:qg op=some s):jj s arg=true:=by
 have h:rowV op arg (.int ln)=true:=hok;unfold rowV ZS at h;rw [hs] at h;simp only [yj] at h;exact h.1.2
theorem jZ {x:V} (h:jj "name" x=true):∃nm,x=.str nm:=by
 have h:QZ x=true:=by
  unfold jj at h;rw [kF vV,kG rfl] at h;exact h
 cases x with
 | str z=>exact ⟨z,rfl⟩
 | _=>cases h
theorem z2I {kvs:List (Key × V)} {k:Key} {v:V} (h:valV kvs k=some v):∃q∈kvs,q.2=v:=by
 unfold valV at h;cases e:kvs.find? fun kv=>decide (kv.1=k) with
 | none=>rw [e] at h;cases h
 | some q=>
  rw [e] at h;cases h;exact ⟨q,List.mem_of_find?_eq_some e,rfl⟩
theorem Q9 {r:Row} (hm:OkM m n) (hn:n<=900) {v:V} (hv:okV v=true) (e:rowM r.op r.arg m=some (.next,{ m with st:=m.st++[v] })) (h1:inT r.op qi=false) (h2:tabI zN r.op=0) (h3:tabI zU r.op=1) (h4:tabI zS r.op=0):Does r m n:=by
 refine ⟨_,_,e,hm.stk (by lia) (hm.st.app (okVs.one hv)) (by rw [len1];have:=hm.lst;lia),qP _,h1,?_,h4⟩;show (((m.st++[v]).length:Nat):Int)=_;unfold zJ;rw [h2,h3,len1];lia
theorem z9r (hm:OkM m n) (hn:n<=900) (hv:okV arg=true):Does ⟨"push",arg,ln⟩ m n:=
 Q9 hm hn hv (show rowM "push" arg m=_ by (unfold rowM;repeat (first | rw [kG vV] | rw [kF vV]));unfold z0B;rw [kG (jd hm.lst (by lia))]) vV vV vV vV
theorem Jr {r:Row} (hm:OkM m n) (e:rowM r.op r.arg m=some (.fault "Unset",m)) (h1:inT r.op faulting=true) (h2:qd r=0):Does r m n:=by
 refine ⟨_,_,e,hm.more (by lia),qP _,h1,vV,?_,Int.le_refl _⟩;rw [h2];lia
theorem z9t (hm:OkM m n) (hn:n<=900) (hok:Z3 ⟨"load",arg,ln⟩):Does ⟨"load",arg,ln⟩ m n:=by
 obtain ⟨nm,rfl⟩:=jZ (ZP hok (s:="name") vV);have e0:rowM "load" (.str nm) m=QD "load" (.str nm) m:=by (unfold rowM;repeat (first | rw [kG vV] | rw [kF vV]))
 cases e:valV m.kn (Sum.inr nm:Key) with
 | none=>exact Jr hm (by show rowM "load" (.str nm) m=_;rw [e0];unfold QD;dsimp only;rw [e]) vV (by unfold qd;rw [kF vV];trivial)
 | some v=>
  obtain ⟨q,hq,rfl⟩:=z2I e;exact Q9 hm hn (hm.kn q hq) (by show rowM "load" (.str nm) m=_;rw [e0];unfold QD;dsimp only;rw [e];dsimp only;rw [kG (jd hm.lst (by lia))]) vV vV vV vV
theorem z7Q (hm:OkM m n) (hn:n<=900) (hok:Z3 ⟨"quick",arg,ln⟩):Does ⟨"quick",arg,ln⟩ m n:=by
 obtain ⟨nm,rfl⟩:=jZ (ZP hok (s:="name") vV);have e0:rowM "quick" (.str nm) m=Q7 "quick" (.str nm) m:=by (unfold rowM;repeat (first | rw [kG vV] | rw [kF vV]))
 refine Q9 hm hn (v:=(valV m.kn (Sum.inr nm:Key)).getD .non) ?_ (by show rowM "quick" (.str nm) m=_;rw [e0];unfold Q7;dsimp only;rw [kG (jd hm.lst (by lia))]) vV vV vV vV;cases e:valV m.kn (Sum.inr nm:Key) with
 | none=>rfl
 | some v=>
  obtain ⟨q,hq,rfl⟩:=z2I e;exact hm.kn q hq
theorem z3b {kvs:List (Key × V)} {k:Key} {v:V} (h:∀q∈kvs,okV q.2=true) (hv:okV v=true):(∀q∈putK kvs k v,okV q.2=true)/\(putK kvs k v).length<=kvs.length+1:=by
 unfold putK;split
 ·refine ⟨fun q hq=>?_,by rw [kq];lia⟩;obtain ⟨p,hp,rfl⟩:=yl.mp hq;split
  ·exact hv
  ·exact h p hp
 ·refine ⟨fun q hq=>?_,by rw [ku,kL];lia⟩;rcases ya.mp hq with z | z
  ·exact h q z
  ·rw [kz.mp z];exact hv
theorem z7O (hm:OkM m n) (hn:n<=900) (hok:Z3 ⟨"store",arg,ln⟩) (ha:1<=m.st.length):Does ⟨"store",arg,ln⟩ m n:=by
 obtain ⟨nm,rfl⟩:=jZ (ZP hok (s:="name") vV);have e0:rowM "store" (.str nm) m=Q5 "store" (.str nm) m:=by (unfold rowM;repeat (first | rw [kG vV] | rw [kF vV]))
 obtain ⟨ys,x,e⟩:=Zh ha;have hst:=hm.st;have hl:=hm.lst;rw [e] at hst hl;rw [len1] at hl;obtain ⟨p1,p2⟩:=z3b (k:=(Sum.inr nm:Key)) hm.kn hst.last;refine ⟨.next,{ m with st:=ys,kn:=putK m.kn (Sum.inr nm) x },?_,⟨hst.left,p1,hm.sd,(by show ys.length<=n+1;lia),(by have:=hm.lkn;show (putK m.kn (Sum.inr nm) x).length<=_;lia),(by have:=hm.lsd;show m.sd.length<=_;lia)⟩,qP _,vV,?_,vV⟩
 ·show rowM "store" (.str nm) m=_;rw [e0];unfold Q5;dsimp only;rw [e,kO,kN];dsimp only;rw [kG (jd hm.lkn (by lia))]
 ·show ((ys.length:Nat):Int)=_;unfold zJ;rw [e,len1,show tabI zN "store"=1 by trivial,show tabI zU "store"=0 by trivial];lia
theorem z7S (hm:OkM m n) (hok:Z3 ⟨"clear",arg,ln⟩):Does ⟨"clear",arg,ln⟩ m n:=by
 obtain ⟨nm,rfl⟩:=jZ (ZP hok (s:="name") vV);have e0:rowM "clear" (.str nm) m=ZG "clear" (.str nm) m:=by (unfold rowM;repeat (first | rw [kG vV] | rw [kF vV]))
 cases e:valV m.kn (Sum.inr nm:Key) with
 | none=>exact Jr hm (by show rowM "clear" (.str nm) m=_;rw [e0];unfold ZG;dsimp only;rw [e]) vV (by unfold qd;rw [kF vV];trivial)
 | some v=>
  refine ⟨.next,{ m with kn:=z02 m.kn (Sum.inr nm) },by show rowM "clear" (.str nm) m=_;rw [e0];unfold ZG;dsimp only;rw [e],⟨hm.st,fun q hq=>hm.kn q (List.mem_filter.mp hq).1,hm.sd,(by have:=hm.lst;show m.st.length<=_;lia),?_,(by have:=hm.lsd;show m.sd.length<=_;lia)⟩,qP _,vV,?_,vV⟩
  ·have:=vT (fun kv:Key × V=>decide (kv.1≠(Sum.inr nm:Key))) m.kn
   have:=hm.lkn
   show (m.kn.filter fun kv=>decide (kv.1≠(Sum.inr nm:Key))).length<=_;lia
  ·show ((m.st.length:Nat):Int)=_;unfold zJ;rw [show tabI zN "clear"=0 by trivial,show tabI zU "clear"=0 by trivial];lia
theorem z9w (hm:OkM m n) (ha:1<=m.st.length):Does ⟨"drop",arg,ln⟩ m n:=by
 have e0:rowM "drop" arg m=z00 "drop" arg m:=by (unfold rowM;repeat (first | rw [kG vV] | rw [kF vV]))
 obtain ⟨ys,x,e⟩:=Zh ha;have hst:=hm.st;have hl:=hm.lst;rw [e] at hst hl;rw [len1] at hl;refine ⟨.next,{ m with st:=ys },?_,hm.stk (by lia) hst.left (by lia),qP _,vV,?_,vV⟩
 ·show rowM "drop" arg m=_;rw [e0];unfold z00;rw [e,kO,kN]
 ·show ((ys.length:Nat):Int)=_;unfold zJ;rw [e,len1,show tabI zN "drop"=1 by trivial,show tabI zU "drop"=0 by trivial];lia
theorem z9p (hm:OkM m n) (hn:n<=900) (ha:1<=m.st.length):Does ⟨"tell",arg,ln⟩ m n:=by
 have e0:rowM "tell" arg m=JY "tell" arg m:=by (unfold rowM;repeat (first | rw [kG vV] | rw [kF vV]))
 obtain ⟨ys,x,e⟩:=Zh ha;have hst:=hm.st;have hl:=hm.lst;rw [e] at hst hl;rw [len1] at hl;refine ⟨.next,{ m with st:=ys,sd:=m.sd++[x] },?_,⟨hst.left,hm.kn,hm.sd.app (okVs.one hst.last),(by show ys.length<=n+1;lia),(by have:=hm.lkn;show m.kn.length<=_;lia),(by have:=hm.lsd;show (m.sd++[x]).length<=_;rw [len1];lia)⟩,List.prefix_append _ _,vV,?_,vV⟩
 ·show rowM "tell" arg m=_;rw [e0];unfold JY;rw [e,kO,kN];dsimp only;rw [kG (jd hm.lsd (by lia))]
 ·show ((ys.length:Nat):Int)=_;unfold zJ;rw [e,len1,show tabI zN "tell"=1 by trivial,show tabI zU "tell"=0 by trivial];lia
theorem z41 {st:List V} {k:Int} (h0:1<=k) (h1:k<=st.length):∃j v,z0J st (.int k)=some (j,v)/\v∈st/\j < st.length:=by
 have hj:st.length - k.toNat < st.length:=by lia
 refine ⟨st.length - k.toNat,st[st.length - k.toNat],?_,List.getElem_mem hj,hj⟩;unfold z0J;dsimp only;rw [kG ⟨h0,by lia⟩,kQ hj];rfl
theorem z9x (hm:OkM m n) (hn:n<=900) {k:Int} (h0:1<=k) (h1:k<=m.st.length):Does ⟨"copy",.int k,ln⟩ m n:=by
 have e0:rowM "copy" (.int k) m=z01 "copy" (.int k) m:=by (unfold rowM;repeat (first | rw [kG vV] | rw [kF vV]))
 obtain ⟨j,v,e,hv,_⟩:=z41 h0 h1;exact Q9 hm hn (hm.st v hv) (by show rowM "copy" (.int k) m=_;rw [e0];unfold z01;rw [e];dsimp only;rw [kG (jd hm.lst (by lia))]) vV vV vV vV
theorem z9q (hm:OkM m n) {k:Int} (h0:1<=k) (h1:k<=m.st.length):Does ⟨"swap",.int k,ln⟩ m n:=by
 have e0:rowM "swap" (.int k) m=JZ "swap" (.int k) m:=by (unfold rowM;repeat (first | rw [kG vV] | rw [kF vV]))
 obtain ⟨j,v,e,hv,hj⟩:=z41 h0 h1;obtain ⟨ys,x,e1⟩:=Zh (l:=m.st) (by lia);have hx:m.st.getLast?=some x:=by rw [e1,kO]
 have hxm:x∈m.st:=by rw [e1];exact kU _ (kz.mpr rfl)
 have hall:okVs ((m.st.set (m.st.length - 1) v).set j x):=fun w hw=>by
  rcases List.mem_or_eq_of_mem_set hw with z | z
  ·rcases List.mem_or_eq_of_mem_set z with z | z
   ·exact hm.st w z
   ·rw [z];exact hm.st v hv
  ·rw [z];exact hm.st x hxm
 have hlen:((m.st.set (m.st.length - 1) v).set j x).length=m.st.length:=by rw [vE,vE]
 refine ⟨.next,{ m with st:=(m.st.set (m.st.length - 1) v).set j x },?_,hm.stk (by lia) hall (by rw [hlen];have:=hm.lst;lia),qP _,vV,?_,vV⟩
 ·show rowM "swap" (.int k) m=_;rw [e0];unfold JZ;rw [e,hx]
 ·show ((((m.st.set (m.st.length - 1) v).set j x).length:Nat):Int)=_;unfold zJ;rw [hlen,show tabI zN "swap"=0 by trivial,show tabI zU "swap"=0 by trivial];lia
theorem z9u (hm:OkM m n):Does ⟨"jump",arg,ln⟩ m n:=by
 have e0:rowM "jump" arg m=z1o "jump" arg m:=by (unfold rowM;repeat (first | rw [kG vV] | rw [kF vV]))
 refine ⟨.go,m,e0,hm.more (by lia),qP _,vV,?_⟩;show ((m.st.length:Nat):Int)=_;rw [kF vV];unfold zJ;rw [show tabI zN "jump"=0 by trivial,show tabI zU "jump"=0 by trivial];lia
theorem d_if {op:Str} (ho:op∈(["iftrue","iffalse"]:List Str)) (hm:OkM m n) (ha:1<=m.st.length):Does ⟨op,arg,ln⟩ m n:=by
 obtain ⟨e0,f1,f2,f3,f4,f5,f6⟩:rowM op arg m=gIf op arg m/\inT op qi=false/\inT op jumping=true/\inT op leaving=false/\tabI zN op=1/\tabI zU op=0/\tabI zS op=0:=by
  simp only [kJ,kC,or_false] at ho;rcases ho with rfl | rfl
  all_goals exact ⟨by (unfold rowM;repeat (first | rw [kG vV] | rw [kF vV])),vV,vV,vV,vV,vV,vV⟩
 obtain ⟨ys,x,e⟩:=Zh ha;have hst:=hm.st;have hl:=hm.lst;rw [e] at hst hl;rw [len1] at hl;have hb:zJ ⟨op,arg,ln⟩ (m.st.length:Int)=(ys.length:Int):=by
  unfold zJ;rw [f4,f5,e,len1];lia
 have e1:rowM op arg m=some (if Qq x=decide (op="iftrue") then .go else .next,{ m with st:=ys }):=by
  rw [e0];unfold gIf;rw [e,kO,kN];dsimp only;rw [kG (jY hst.last)]
 refine ⟨_,_,e1,hm.stk (by lia) hst.left (by lia),qP _,?_⟩;by_cases hz:Qq x=decide (op="iftrue")
 ·rw [kG hz];refine ⟨f2,?_⟩;show ((ys.length:Nat):Int)=(if inT op leaving=true then _ else _)
  rw [f3,kF ke,hb]
 ·rw [kF hz];exact ⟨f1,hb.symm,f6⟩
theorem d_or {op:Str} (ho:op∈(["ortrue","orfalse"]:List Str)) (hm:OkM m n) (ha:1<=m.st.length):Does ⟨op,arg,ln⟩ m n:=by
 obtain ⟨e0,f1,f2,f3,f4,f5,f6⟩:rowM op arg m=gOr op arg m/\inT op qi=false/\inT op jumping=true/\inT op leaving=true/\tabI zN op=1/\tabI zU op=0/\tabI zS op=0:=by
  simp only [kJ,kC,or_false] at ho;rcases ho with rfl | rfl
  all_goals exact ⟨by (unfold rowM;repeat (first | rw [kG vV] | rw [kF vV])),vV,vV,vV,vV,vV,vV⟩
 obtain ⟨ys,x,e⟩:=Zh ha;have hst:=hm.st;have hl:=hm.lst;rw [e] at hst hl;rw [len1] at hl;have hb:zJ ⟨op,arg,ln⟩ (m.st.length:Int)=(ys.length:Int):=by
  unfold zJ;rw [f4,f5,e,len1];lia
 have e1:rowM op arg m=some (if Qq x=decide (op="ortrue") then (.go,m) else (.next,{ m with st:=ys })):=by
  rw [e0];unfold gOr;rw [e,kO,kN];dsimp only;rw [kG (jY hst.last)]
 by_cases hz:Qq x=decide (op="ortrue")
 ·rw [kG hz] at e1;refine ⟨_,_,e1,hm.more (by lia),qP _,f2,?_⟩;show ((m.st.length:Nat):Int)=(if inT op leaving=true then _ else _)
  rw [f3,kG rfl]
 ·rw [kF hz] at e1;exact ⟨_,_,e1,hm.stk (by lia) hst.left (by lia),qP _,f1,hb.symm,f6⟩
theorem z5B (hm:OkM m n) (ha:1<=m.st.length):Does ⟨"return",arg,ln⟩ m n:=by
 have e0:rowM "return" arg m=Z0 "return" arg m:=by (unfold rowM;repeat (first | rw [kG vV] | rw [kF vV]))
 obtain ⟨ys,x,e⟩:=Zh ha;have hst:=hm.st;have hl:=hm.lst;rw [e] at hst hl;rw [len1] at hl;refine ⟨.value x,{ m with st:=ys },?_,hm.stk (by lia) hst.left (by lia),qP _,rfl,hst.last⟩;show rowM "return" arg m=_;rw [e0];unfold Z0;rw [e,kO,kN]
theorem z7P (hm:OkM m n) (ha:1<=m.st.length):Does ⟨"raise",arg,ln⟩ m n:=by
 have e0:rowM "raise" arg m=Q6 "raise" arg m:=by (unfold rowM;repeat (first | rw [kG vV] | rw [kF vV]))
 obtain ⟨ys,x,e⟩:=Zh ha;have hst:=hm.st;have hl:=hm.lst;rw [e] at hst hl;rw [len1] at hl;obtain ⟨k,hk,hin⟩:∃k,z2s x=some k/\k∈jF:=by
  have hx:=hst.last;cases x with
  | str z=>
   have hz:=kI (show decide (z∈jF)=true from hx);refine ⟨z,?_,hz⟩;unfold z2s;dsimp only;rw [kG (Qk z hz).2]
  | _=>exact ⟨"Type",rfl,vV⟩
 refine ⟨.fault k,{ m with st:=ys },?_,hm.stk (by lia) hst.left (by lia),qP _,vV,hin,?_,?_⟩
 ·show rowM "raise" arg m=_;rw [e0];unfold Q6;rw [e,kO,kN];dsimp only;rw [kG (jY hst.last),hk];rfl
 ·show _<=((ys.length:Nat):Int)
  rw [show qd ⟨"raise",arg,ln⟩=1 by unfold qd;rw [kF vV];trivial,e,len1];lia
 ·show ((ys.length:Nat):Int)<=_;rw [e,len1];lia
theorem z6a {r:Row} (hm:OkM m n) (hn:n<=900) {ys:List V} (hy:okVs ys) (hl:ys.length<=n) {r1 r2:V} (h:(r1=.non/\okV r2=true)\/∃k,k∈jF/\r1=.str k/\inT r.op faulting=true)
  (e:rowM r.op r.arg m=pofM r1 r2 { m with st:=ys }) (h1:inT r.op qi=false) (h2:zJ r (m.st.length:Int)=(ys.length:Int)+1) (h3:tabI zS r.op=0) (h4:(m.st.length:Int) - qd r=(ys.length:Int)) (h5:ys.length<=m.st.length):Does r m n:=by
 rcases h with ⟨rfl,hv⟩ | ⟨k,hk,rfl,hf⟩
 ·have e2:pofM .non r2 { m with st:=ys }=some (.next,{ m with st:=ys++[r2] }):=by
   unfold pofM;dsimp only;rw [kG (jd hl (by lia))]
  rw [e2] at e;refine ⟨_,_,e,hm.stk (by lia) (hy.app (okVs.one hv)) (by rw [len1];lia),qP _,h1,?_,h3⟩;show (((ys++[r2]).length:Nat):Int)=_;rw [h2,len1];lia
 ·refine ⟨_,_,e,hm.stk (by lia) hy (by lia),qP _,hf,hk,?_,?_⟩
  ·show _<=((ys.length:Nat):Int)
   lia
  ·show ((ys.length:Nat):Int)<=_;lia
theorem z1t {op:Str} (ho:op∈Ze) (hm:OkM m n) (hn:n<=900) (ha:2<=m.st.length):Does ⟨op,arg,ln⟩ m n:=by
 obtain ⟨ys,x,y,e⟩:=z8n ha;have hst:=hm.st;have hl:=hm.lst;rw [e] at hst hl;rw [len1,len1] at hl;obtain ⟨r1,r2,e1,e2⟩:=z50 ho hst.left.last hst.last;obtain ⟨f1,f4,f5,f6,f7⟩:inT op qi=false/\tabI zN op=2/\tabI zU op=1/\tabI zS op=0/\inT op qO=false:=by
  unfold Ze at ho;simp only [kJ,kC,or_false] at ho;rcases ho with rfl | rfl | rfl | rfl | rfl | rfl | rfl
  all_goals exact ⟨vV,vV,vV,vV,vV⟩
 refine z6a (ys:=ys) hm hn hst.left.left (by lia) e2 ?_ f1 ?_ f6 ?_ ?_
 ·show rowM op arg m=_;unfold rowM;rw [kG ho];unfold gTwo;rw [e,kO,kN,kO,kN];dsimp only;rw [kG ⟨jY hst.left.last,jY hst.last⟩,e1]
 ·unfold zJ;rw [f4,f5,e,len1,len1];lia
 ·unfold qd;rw [f7,kF ke];show _ - tabI zN op=_;rw [f4,e,len1,len1];lia
 ·rw [e,len1,len1];lia
theorem z9s {op:Str} (ho:op∈ZY) (hm:OkM m n) (hn:n<=900) (ha:1<=m.st.length):Does ⟨op,arg,ln⟩ m n:=by
 obtain ⟨ys,x,e⟩:=Zh ha;have hst:=hm.st;have hl:=hm.lst;rw [e] at hst hl;rw [len1] at hl;obtain ⟨r1,r2,e1,e2⟩:=z51 ho hst.last;obtain ⟨f0,f1,f4,f5,f6,f7⟩:op∉Ze/\inT op qi=false/\tabI zN op=1/\tabI zU op=1/\tabI zS op=0/\inT op qO=false:=by
  unfold ZY at ho;simp only [kJ,kC,or_false] at ho;rcases ho with rfl | rfl
  all_goals exact ⟨vV,vV,vV,vV,vV,vV⟩
 refine z6a (ys:=ys) hm hn hst.left (by lia) e2 ?_ f1 ?_ f6 ?_ ?_
 ·show rowM op arg m=_;unfold rowM;rw [kF f0,kG ho];unfold gOne;rw [e,kO,kN];dsimp only;rw [kG (jY hst.last),e1]
 ·unfold zJ;rw [f4,f5,e,len1];lia
 ·unfold qd;rw [f7,kF ke];show _ - tabI zN op=_;rw [f4,e,len1];lia
 ·rw [e,len1];lia
theorem z6m {α:Type} {x:Str} {v:α}:∀{t:List (Str × α)},t.lookup x=some v->x∈t.map (·.1)
 | (k,u) :: t,h=>by
  rw [List.lookup_cons] at h;by_cases e:(x == k)=true
  ·rw [show x=k by simpa using e];exact kY ..
  ·have e:(x == k)=false:=by simpa using e
   rw [e] at h;exact kZ _ (z6m h)
theorem z6k {op:Str} {s:Str} (h:qg op=some s):op∈(["push","load","quick","store","clear","copy","swap","jump","iftrue","iffalse","ortrue","orfalse","try","label","add","sub","mul","div","rest","less","same","neg","not","drop","tell","return","raise","endtry"]:List Str):=z6m h
theorem Jb {op:Str} (h:inT op qO=false):qd ⟨op,arg,ln⟩=tabI zN op:=by
 unfold qd;rw [h,kF ke]
theorem z69 {r:Row} (hm:OkM m n) (hn:n<=900) (hok:Z3 r) (hp:r.op="push"->okV r.arg=true) (ha:qd r<=(m.st.length:Int)) (hs:r.op∉Jl):Does r m n:=by
 obtain ⟨op,arg,ln⟩:=r;obtain ⟨s,hso,_⟩:=hok.parts;have hop:=z6k hso;have one:inT op qO=false->tabI zN op=1->1<=m.st.length:=fun h1 h2=>by
  rw [Jb h1,h2] at ha;lia
 have two:inT op qO=false->tabI zN op=2->2<=m.st.length:=fun h1 h2=>by
  rw [Jb h1,h2] at ha;lia
 simp only [kJ,kC,or_false] at hop;rcases hop with rfl | rfl | rfl | rfl | rfl | rfl | rfl | rfl | rfl | rfl | rfl | rfl | rfl | rfl | rfl | rfl | rfl | rfl | rfl | rfl | rfl | rfl | rfl | rfl | rfl | rfl | rfl | rfl
 ·exact z9r hm hn (hp rfl)
 ·exact z9t hm hn hok
 ·exact z7Q hm hn hok
 ·exact z7O hm hn hok (one vV vV)
 ·exact z7S hm hok
 ·obtain ⟨k,hk,h1,_⟩:=Qm hok (show inT "copy" qO=true by trivial);have hk:arg=.int k:=hk;subst hk;have e:qd ⟨"copy",.int k,ln⟩=k:=by unfold qd;rw [kG vV]
  rw [e] at ha;exact z9x hm hn h1 ha
 ·obtain ⟨k,hk,h1,_⟩:=Qm hok (show inT "swap" qO=true by trivial);have hk:arg=.int k:=hk;subst hk;have e:qd ⟨"swap",.int k,ln⟩=k:=by unfold qd;rw [kG vV]
  rw [e] at ha;exact z9q hm h1 ha
 ·exact z9u hm
 ·exact d_if vV hm (one vV vV)
 ·exact d_if vV hm (one vV vV)
 ·exact d_or vV hm (one vV vV)
 ·exact d_or vV hm (one vV vV)
 ·exact vd vV hs
 ·exact vd vV hs
 ·exact z1t vV hm hn (two vV vV)
 ·exact z1t vV hm hn (two vV vV)
 ·exact z1t vV hm hn (two vV vV)
 ·exact z1t vV hm hn (two vV vV)
 ·exact z1t vV hm hn (two vV vV)
 ·exact z1t vV hm hn (two vV vV)
 ·exact z1t vV hm hn (two vV vV)
 ·exact z9s vV hm hn (one vV vV)
 ·exact z9s vV hm hn (one vV vV)
 ·exact z9w hm (one vV vV)
 ·exact z9p hm hn (one vV vV)
 ·exact z5B hm (one vV vV)
 ·exact z7P hm (one vV vV)
 ·exact vd vV hs
end
inductive Gok:List Gd->Int->Prop where
 | nil {d:Int}:Gok [] d
 | snoc {gs:List Gd} {g:Gd} {d:Int} (h:Gok gs g.2) (h0:0<=g.2) (h1:g.2<=d):Gok (gs++[g]) d
theorem Gok.inv {gs:List Gd} {d:Int} (h:Gok gs d) {g:Gd} (e:gs.getLast?=some g):0<=g.2/\g.2<=d/\Gok gs.dropLast g.2:=by
 cases h with
 | nil=>cases e
 | snoc h h0 h1=>
  rw [kO] at e;cases e;rw [kN];exact ⟨h0,h1,h⟩
theorem Gok.at_ {gs:List Gd} {d d':Int} (h:Gok gs d) (hd:∀g,gs.getLast?=some g->g.2<=d'):Gok gs d':=by
 cases h with
 | nil=>exact .nil
 | snoc h h0 h1=>exact .snoc h h0 (hd _ kO)
theorem Gok.up {gs:List Gd} {d d':Int} (h:Gok gs d) (hd:d<=d'):Gok gs d':=h.at_ fun g e=>by have:=(h.inv e).2.1;lia
theorem jQ {rs:List Row} {p:Nat} {r:Row} {d:Int} {og:Option Gd} (h:Zc rs p r d og=[]):¬d < qd r/\ZN r og=false/\qF r d og=false:=by
 unfold Zc Qp at h;have h1:=List.map_eq_nil_iff.mp h;have h2:=List.filter_eq_nil_iff.mp h1;refine ⟨fun z=>?_,?_,?_⟩
 ·exact h2 _ (kY ..) (ko z)
 ·cases e:ZN r og with
  | false=>rfl
  | true=>exact vd e (h2 (("guard":Str),ZN r og) (by simp))
 ·cases e:qF r d og with
  | false=>rfl
  | true=>exact vd e (h2 (("beneath":Str),qF r d og) (by simp))
section
variable {rs:List Row} {S:Fnd} {p:Nat} {r:Row} {d:Int} {gs:List Gd}
theorem z1l (T:jb rs S) (hr:rs[p]?=some r) (hS:S[p]?=some (some (d,gs))) {m:Mv} (hm:m∈mv1 r p d++mv2 rs r d++mv3 rs r gs.getLast?):∃j:Nat,m.1=.int (j:Int)/\S[j]?=some (some (m.2.1,zQ r d gs m.2.2)):=by
 obtain ⟨h1,h2,h3⟩:=jQ (T.here p r _ hr hS).1;refine T.next p r (d,gs) hr hS m.1 (m.2.1,zQ r d gs m.2.2) ?_;unfold Zm;refine yl.mpr ⟨m,?_,rfl⟩;unfold ql;rw [km h1,kF ke,h2,kF ke];exact hm
theorem JN (T:jb rs S) (hr:rs[p]?=some r) (hS:S[p]?=some (some (d,gs))) (hn:inT r.op qi=false):S[p+1]?=some (some (zJ r d,zQ r d gs (tabI zS r.op))):=by
 obtain ⟨j,h1,h2⟩:=z1l T hr hS (m:=(.int ((p:Int)+1),zJ r d,tabI zS r.op)) (by
  refine kW _ (kW _ ?_);unfold mv1;rw [hn,kF ke];exact kz.mpr rfl)
 have h1:V.int ((p:Int)+1)=V.int (j:Int):=h1;injection h1 with h1
 have:j=p+1:=by lia
 rw [this] at h2;exact h2
theorem z6n {m:Int} {j:Nat} (h:labV rs m=.int (j:Int)):zM rs m=some j:=by
 unfold labV at h;cases e:zM rs m with
 | none=>rw [e] at h;cases h
 | some i=>
  rw [e] at h;injection h with h
  congr 1
  lia
theorem z3B (T:jb rs S) (hc:Code rs) (hr:rs[p]?=some r) (hS:S[p]?=some (some (d,gs))) (hj:inT r.op jumping=true):
  ∃(mk:Int) (j:Nat),r.arg=.int mk/\zM rs mk=some j/\S[j]?=some (some ((if inT r.op leaving=true then d else zJ r d),gs)):=by
 obtain ⟨mk,j0,ha,hf⟩:=z1R hc hr hj;obtain ⟨j,h1,h2⟩:=z1l T hr hS (m:=(labV rs (argM r.arg),(if inT r.op leaving=true then d else zJ r d),0)) (by
  refine kW _ (kU _ ?_);unfold mv2;rw [kG hj];exact kz.mpr rfl)
 have h1:=z6n h1;rw [ha] at h1;refine ⟨mk,j,ha,h1,?_⟩;have e0:zQ r d gs 0=gs:=by unfold zQ;rw [kF (by decide),kF (by decide)]
 have h2:S[j]?=some (some ((if inT r.op leaving=true then d else zJ r d),zQ r d gs 0)):=h2;rw [e0] at h2;exact h2
theorem z1Y (T:jb rs S) (hr:rs[p]?=some r) (hS:S[p]?=some (some (d,gs))) (hf:inT r.op faulting=true) {g:Gd} (hg:gs.getLast?=some g):∃j:Nat,zM rs g.1=some j/\S[j]?=some (some (g.2+1,gs.dropLast)):=by
 obtain ⟨j,h1,h2⟩:=z1l T hr hS (m:=(labV rs g.1,g.2+1,-1)) (by
  refine kU _ ?_;unfold mv3;rw [kG hf,hg];exact kz.mpr rfl)
 refine ⟨j,z6n h1,?_⟩;have e0:zQ r d gs (-1)=gs.dropLast:=by unfold zQ;rw [kF (by decide),kG rfl]
 have h2:S[j]?=some (some (g.2+1,zQ r d gs (-1))):=h2;rw [e0] at h2;exact h2
end
def z5R (rs:List Row) (S:Fnd) (d:Nat) (p:Nat) (gs:List Gd):Prop:=S[p]?=some (some ((d:Int),gs))/\Gok gs d/\∃r,rs[p]?=some r/\r.op∉Jl
theorem z1u {rs:List Row} {S:Fnd} (T:jb rs S) (hc:Code rs) {d:Nat}:∀(k p:Nat) (gs:List Gd),rs.length < p+k->S[p]?=some (some ((d:Int),gs))->Gok gs d->∃p' gs',ja rs d k p gs=some (p',gs')/\z5R rs S d p' gs'
 :=by
 intro k;induction k with
 | zero=>
  intro p gs hk hS _;have:=(kj.mp hS).1
  rw [T.len] at this;lia
 | succ k ih=>
  intro p gs hk hS hg;have hp:p < rs.length:=by
   have:=(kj.mp hS).1
   rw [T.len] at this;exact this
  have hr:rs[p]?=some rs[p]:=kQ hp;generalize rs[p]=r at hr;obtain ⟨w1,w2⟩:=T.here p r _ hr hS;obtain ⟨h1,h2,h3⟩:=jQ w1;have stand:inT r.op qi=false->tabI zN r.op=0->tabI zU r.op=0->S[p+1]?=some (some ((d:Int),zQ r d gs (tabI zS r.op))):=fun a b c=>by
   have:=JN T hr hS a
   unfold zJ at this;rw [b,c] at this;rw [show (d:Int) - 0+0=d by lia] at this;exact this
  unfold ja;rw [hr];dsimp only;by_cases c1:r.op="label"
  ·rw [kG c1];have:=stand (by rw [c1];decide+kernel) (by rw [c1];decide+kernel) (by rw [c1];decide+kernel)
   rw [c1,show tabI zS "label"=0 by trivial] at this;have e0:zQ r d gs 0=gs:=by unfold zQ;rw [kF (by decide),kF (by decide)]
   rw [e0] at this;exact ih (p+1) gs (by lia) this hg
  rw [kF c1];by_cases c2:r.op="try"
  ·rw [kG c2];have:=stand (by rw [c2];decide+kernel) (by rw [c2];decide+kernel) (by rw [c2];decide+kernel)
   rw [c2,show tabI zS "try"=1 by trivial] at this;have e0:zQ r d gs 1=gs++[(argM r.arg,(d:Int))]:=by unfold zQ;rw [kG rfl]
   rw [e0] at this;obtain ⟨mk,ha⟩:∃mk,r.arg=.int mk:=by
    have hfit:=hc.fit p r hr;unfold jW at hfit;rw [kF c1,kG (by rw [c2];decide+kernel)] at hfit;cases e:r.arg with
    | int mk=>exact ⟨mk,rfl⟩
    | _=>rw [e] at hfit;cases hfit
   rw [ha] at this ⊢
   dsimp only;rw [kG (show qW gs.length=true from ko w2)];exact ih (p+1) _ (by lia) this (.snoc hg (by show (0:Int)<=d;lia) (Int.le_refl _))
  rw [kF c2];by_cases c3:r.op="endtry"
  ·rw [kG c3];have:=stand (by rw [c3];decide+kernel) (by rw [c3];decide+kernel) (by rw [c3];decide+kernel)
   rw [c3,show tabI zS "endtry"= -1 by trivial] at this;have e0:zQ r d gs (-1)=gs.dropLast:=by unfold zQ;rw [kF (by decide),kG rfl]
   rw [e0] at this;have hne:¬gs=[]:=fun z=>by
    rw [z] at h2;unfold ZN at h2;rw [ko c3] at h2;cases h2
   rw [kF hne];refine ih (p+1) _ (by lia) this ?_;cases e:gs.getLast? with
   | none=>exact vd (List.getLast?_eq_none_iff.mp e) hne
   | some g=>
    obtain ⟨a,b,c⟩:=hg.inv e;exact c.up b
  rw [kF c3];refine ⟨p,gs,rfl,hS,hg,r,hr,?_⟩;unfold Jl;simp only [kJ,kC,or_false];rintro (z | z | z)
  ·exact c1 z
  ·exact c2 z
  ·exact c3 z
structure InvM (rs:List Row) (S:Fnd) (m:Mst) (gs:List Gd) (p n:Nat):Prop where
 ok:OkM m n
 at_:z5R rs S m.st.length p gs
noncomputable def onE:List V:=[.str "on"]
structure z5S (e:List V):Prop where
 ne:e≠onE
 form:(∃v,e=[.str "value",v]/\okV v=true)\/∃k l,e=[.str "fault",.str k,.int l]/\k∈jF/\0<=l/\l<=9999
theorem z3W {v:V} (h:okV v=true):z5S [.str "value",v]:=⟨nofun,.inl ⟨v,rfl,h⟩⟩
theorem z3X {k:Str} {l:Int} (h:k∈jF) (h0:0<=l) (h1:l<=9999):z5S [.str "fault",.str k,.int l]:=⟨nofun,.inr ⟨k,l,rfl,h,h0,h1⟩⟩
theorem z6q (st:List V) {g:Int} (h0:0<=g) (h1:g<=st.length):cutV st none (some g)=st.take g.toNat:=by
 unfold cutV;have e1:HT.sIx st.length 0 none=0:=rfl;have e2:HT.sIx st.length st.length (some g)=g.toNat:=by
  unfold HT.sIx
  first
   | (rw [kF (by lia)];lia)
   | (simp only [];split <;> lia)
   | (simp only [HT.sIx];lia)
 rw [e1,e2,List.drop_zero,Nat.sub_zero]
theorem z6z {rs:List Row} {S:Fnd} (T:jb rs S) (hc:Code rs) {p:Nat} {r:Row} {d:Int} {gs:List Gd} (hr:rs[p]?=some r) (hS:S[p]?=some (some (d,gs))) (hg:Gok gs d) {m:Mst} {n:Nat} (hm:OkM m (n+1)) (hn:n<=900) {k:Str} (hk:k∈jF) (hf:inT r.op faulting=true) (h1:d - qd r<=(m.st.length:Int)) (h2:(m.st.length:Int)<=d) (hd:d<=n) (hd0:0<=d):
  ∃m' gs' e' here',z0Z rs m gs [.str "on"] k r.line=some (m',gs',e',here')/\m'.sd=m.sd/\OkM m' (n+1)/\((∃p',here'=some p'/\e'=onE/\InvM rs S m' gs' p' (n+1))\/(here'=none/\z5S e')):=by
 have hok:=hc.ok r (kM hr);obtain ⟨w1,w2,w3⟩:=jQ (T.here p r _ hr hS).1;unfold z0Z;cases e:gs.getLast? with
 | none=>
  refine ⟨_,_,_,_,rfl,rfl,hm,.inr ⟨rfl,z3X hk ?_ ?_⟩⟩;all_goals
   have h:rowV r.op r.arg (.int r.line)=true:=hok;unfold rowV at h;rw [yj] at h;have h:=h.2;have h:(decide (0<=r.line)&&decide (r.line<=9999))=true:=h;rw [yj,yk,yk] at h;lia
 | some g=>
  obtain ⟨a,b,c⟩:=hg.inv e;have hfit:g.2<=(m.st.length:Int):=by
   have w3:qF r d gs.getLast?=false:=w3;rw [e] at w3;unfold qF at w3;dsimp only at w3;have hcp:¬r.op="copy":=fun z=>by
    rw [z] at hf;exact vd hf vV
   rw [kF hcp] at w3;have w3:=of_decide_eq_false w3;split at w3 <;> split at w3 <;> lia
  obtain ⟨j,hj,hSj⟩:=z1Y T hr hS hf e;dsimp only;rw [kG (jd hm.lst (by lia)),hj];dsimp only;rw [z6q m.st a hfit];have hlen:(m.st.take g.2.toNat++[V.str k]).length=g.2.toNat+1:=by
   rw [ku,vp,kL];lia
  have hokm:OkM { m with st:=m.st.take g.2.toNat++[V.str k] } (n+1):=hm.stk (ki _) (okVs.app (a:=m.st.take g.2.toNat) (fun v hv=>hm.st v (List.mem_of_mem_take hv)) (okVs.one (show decide (k∈jF)=true from ko hk))) (by rw [hlen];lia);rw [hlen];have eg:(((g.2.toNat+1:Nat)):Int)=g.2+1:=by lia
  obtain ⟨p',gs',e1,e2⟩:=z1u T hc (d:=g.2.toNat+1) 200 j gs.dropLast (by have:=hc.hi;lia) (by rw [eg];exact hSj) (c.up (by lia));rw [e1];dsimp only;refine ⟨_,_,_,_,rfl,rfl,hokm,.inl ⟨p',rfl,rfl,hokm,?_⟩⟩;show z5R rs S (m.st.take g.2.toNat++[V.str k]).length p' gs';rw [hlen];exact e2
theorem z6D {rs:List Row} {S:Fnd} (T:jb rs S) (hc:Code rs) (hv:∀r∈rs,r.op="push"->okV r.arg=true) {m:Mst} {gs:List Gd} {pas:List Nat} {p:Nat} (I:InvM rs S m gs p pas.length) (hn:pas.length<=900):
  ∃m' gs' e' here',z2a rs m gs pas p=some (m',gs',pas++[p],e',here')/\m.sd <+: m'.sd/\OkM m' (pas.length+1)/\((∃p',here'=some p'/\e'=onE/\InvM rs S m' gs' p' (pas.length+1))\/(here'=none/\z5S e')):=by
 obtain ⟨hm,hS,hg,r,hr,hs⟩:=I;have hmem:=kM hr;obtain ⟨w1,w2,w3⟩:=jQ (T.here p r _ hr hS).1;obtain ⟨res,m',e1,e2,e3,e4⟩:=z69 hm hn (hc.ok r hmem) (hv r hmem) (by lia) hs;have hlen:=hc.hi;have go:∀(j:Nat),S[j]?=some (some ((m'.st.length:Int),gs))->Gok gs (m'.st.length:Int)->∃p' gs',ja rs m'.st.length 200 j gs=some (p',gs')/\InvM rs S m' gs' p' (pas.length+1):=fun j hj hgk=>by
  obtain ⟨p',gs',h1,h2⟩:=z1u T hc 200 j gs (by lia) hj hgk;exact ⟨p',gs',h1,e2,h2⟩
 unfold z2a;rw [hr];dsimp only;rw [kG (jd hn (by decide)),e1];have deep:∀{x:Int},x=zJ r (m.st.length:Int)->Gok gs x:=fun {x} hx=>hg.at_ fun g e=>by
  have b1:=(hg.inv e).2.1;have w3:qF r (m.st.length:Int) gs.getLast?=false:=w3;rw [e] at w3;unfold qF at w3;dsimp only at w3;have hb:x=(m.st.length:Int) - tabI zN r.op+tabI zU r.op:=hx;have tk:0<=tabI zU r.op/\(tabI zN r.op<=qd r\/tabI zN r.op=0)/\(r.op="copy"->tabI zN r.op=0):=by
   obtain ⟨op,arg,ln⟩:=r;obtain ⟨s,hso,_⟩:=(hc.ok _ hmem).parts;refine ⟨?_,?_,fun z=>by rw [z];decide+kernel⟩
   ·have hop:=z6k hso;have all:∀o∈(["push","load","quick","store","clear","copy","swap","jump","iftrue","iffalse","ortrue","orfalse","try","label","add","sub","mul","div","rest","less","same","neg","not","drop","tell","return","raise","endtry"]:List Str),0<=tabI zU o:=vV;exact all op hop
   ·by_cases hdp:inT op qO=true
    ·right
     have all:∀o∈qO,tabI zN o=0:=vV;exact all op (Zo.mp hdp)
    ·left
     rw [Jb (by simpa using hdp)];exact Int.le_refl _
  by_cases hcp:r.op="copy"
  ·have:=tk.2.2 hcp
   lia
  ·rw [kF hcp] at w3;have w3:=of_decide_eq_false w3;obtain ⟨t1,t2,_⟩:=tk;split at w3 <;> split at w3 <;> lia
 cases res with
 | next=>
  obtain ⟨f1,f2,f3⟩:=e4;have hx:=JN T hr hS f1;have e0:zQ r (m.st.length:Int) gs 0=gs:=by unfold zQ;rw [kF (by decide),kF (by decide)]
  rw [f3,e0,<-f2] at hx;obtain ⟨p',gs',h1,h2⟩:=go (p+1) hx (deep f2);dsimp only;rw [h1];exact ⟨_,_,_,_,rfl,e3,e2,.inl ⟨p',rfl,rfl,h2⟩⟩
 | go=>
  obtain ⟨f1,f2⟩:=e4;obtain ⟨mk,j,ha,hj,hx⟩:=z3B T hc hr hS f1;rw [<-f2] at hx;have hgk:Gok gs (m'.st.length:Int):=by
   rw [f2];split
   ·exact hg
   ·exact deep rfl
  obtain ⟨p',gs',h1,h2⟩:=go j hx hgk;rw [ha];dsimp only;rw [hj];dsimp only;rw [h1];exact ⟨_,_,_,_,rfl,e3,e2,.inl ⟨p',rfl,rfl,h2⟩⟩
 | fault k=>
  obtain ⟨f1,f2,f3,f4⟩:=e4;obtain ⟨m2,gs2,e',here',t1,t2,t3,t4⟩:=z6z T hc hr hS hg e2 hn f2 f1 f3 f4 (by have:=hm.lst;lia) (by lia);dsimp only;rw [t1];exact ⟨_,_,_,_,rfl,by rw [t2];exact e3,t3,t4⟩
 | value v=>exact ⟨_,_,_,_,rfl,e3,e2,.inr ⟨rfl,z3W e4.2⟩⟩
section
variable {rs:List Row} {S:Fnd} {s0:S5}
end
set_option maxHeartbeats 8000000
def bh (r:Row) (P:Str->Prop) (x:Str):Prop:=if r.op="clear" then P x/\r.arg≠.str x else P x\/((r.op="store"\/r.op="load")/\r.arg=.str x)
theorem z4k {r:Row} {P Q:Str->Prop} {x:Str} (h:∀x,P x->Q x) (b:bh r P x):bh r Q x:=by
 unfold bh at b ⊢
 split at b
 ·rename_i c
  rw [kG c];exact ⟨h _ b.1,b.2⟩
 ·rename_i c
  rw [kF c];exact b.imp (h x) id
theorem z24 {r:Row} {P:Str->Prop} {x:Str} (h1:r.op≠"clear") (h2:r.op≠"store") (h3:r.op≠"load") (b:bh r P x):P x:=by
 unfold bh at b;rw [kF h1] at b;rcases b with b | ⟨b | b,_⟩
 ·exact b
 ·exact vd b h2
 ·exact vd b h3
inductive Rch (rs:List Row) (S:Fnd):Nat->Prop
 | zero:Rch rs S 0
 | step {p j:Nat} {r:Row} {d:Int} {gs:List Gd} {m:Mv}:Rch rs S p->rs[p]?=some r->S[p]?=some (some (d,gs))->m∈ql rs p r d gs.getLast?->m.1=.int (j:Int)->Rch rs S j
theorem Rch.sta {rs:List Row} {S:Fnd} (T:jb rs S):∀{p:Nat},Rch rs S p->∃st,S[p]?=some (some st)
 | _,.zero=>⟨_,T.zero⟩
 | _,.step (p:=p) (j:=j) (r:=r) (d:=d) (gs:=gs) (m:=m) h hr hS hm hj=>by
  obtain ⟨j',e1,e2⟩:=T.next p r (d,gs) hr hS m.1 (m.2.1,zQ r d gs m.2.2) (by unfold Zm;exact yl.mpr ⟨m,hm,rfl⟩);rw [hj] at e1;have:j=j':=by injection e1 with e1;lia
  subst this;exact ⟨_,e2⟩
structure Sur (rs:List Row) (S:Fnd) (g:Str->Prop) (T:Nat->Str->Prop):Prop where
 zero:∀x,T 0 x->g x
 move:∀(p:Nat) r d gs,Rch rs S p->rs[p]?=some r->S[p]?=some (some (d,gs))->∀m∈ql rs p r d gs.getLast?,∀j:Nat,m.1=.int (j:Int)->∀x,T j x->if m.2.2= -1 then T p x else bh r (T p) x
theorem Sur.more {rs:List Row} {S:Fnd} {g g':Str->Prop} {T:Nat->Str->Prop} (h:Sur rs S g T) (hg:∀x,g x->g' x):Sur rs S g' T:=⟨fun x t=>hg x (h.zero x t),h.move⟩
def Kn (kvs:List (Key × V)) (x:Str):Prop:=∃v,valV kvs (Sum.inr x:Key)=some v
theorem z6b {r1 r2:V} {m m':Mst} {res:Res} (h:pofM r1 r2 m=some (res,m')):m'.kn=m.kn:=by
 unfold pofM at h;repeat' split at h
 all_goals first | (cases h;rfl) | cases h
theorem z89 {op:Str} {arg:V} {m m':Mst} {res:Res} (h:gTwo op arg m=some (res,m')):m'.kn=m.kn:=by
 unfold gTwo at h;cases e1:m.st.getLast? with
 | none=>rw [e1] at h;cases h
 | some y=>
  rw [e1] at h;dsimp only at h;cases e2:m.st.dropLast.getLast? with
  | none=>rw [e2] at h;cases h
  | some x=>
   rw [e2] at h;dsimp only at h;by_cases c:Z9 x=true/\Z9 y=true
   ·rw [kG c] at h;cases e3:ZF op x y with
    | none=>rw [e3] at h;cases h
    | some r=>
     rw [e3] at h;exact z6b (m:={ m with st:=m.st.dropLast.dropLast }) (r1:=r.1) (r2:=r.2) h
   ·rw [kF c] at h;cases h
theorem z8R {op:Str} {arg:V} {m m':Mst} {res:Res} (h:gOne op arg m=some (res,m')):m'.kn=m.kn:=by
 unfold gOne at h;cases e1:m.st.getLast? with
 | none=>rw [e1] at h;cases h
 | some x=>
  rw [e1] at h;dsimp only at h;by_cases c:Z9 x=true
  ·rw [kG c] at h;cases e3:JO op x with
   | none=>rw [e3] at h;cases h
   | some r=>
    rw [e3] at h;exact z6b (m:={ m with st:=m.st.dropLast }) (r1:=r.1) (r2:=r.2) h
  ·rw [kF c] at h;cases h
theorem jA {op:Str} {arg:V} {m m':Mst} {res:Res} (h:z0B op arg m=some (res,m')\/QD op arg m=some (res,m')\/Q7 op arg m=some (res,m')\/JY op arg m=some (res,m')\/gIf op arg m=some (res,m')\/Z0 op arg m=some (res,m')\/z1o op arg m=some (res,m')\/z00 op arg m=some (res,m')\/z01 op arg m=some (res,m')\/JZ op arg m=some (res,m')):m'.kn=m.kn:=by
 rcases h with h | h | h | h | h | h | h | h | h | h
 ·unfold z0B at h;repeat' split at h
  all_goals first | (cases h;rfl) | cases h
 ·unfold QD at h;repeat' split at h
  all_goals first | (cases h;rfl) | cases h
 ·unfold Q7 at h;repeat' split at h
  all_goals first | (cases h;rfl) | cases h
 ·unfold JY at h;repeat' split at h
  all_goals first | (cases h;rfl) | cases h
 ·unfold gIf at h;repeat' split at h
  all_goals first | (cases h;rfl) | cases h
 ·unfold Z0 at h;repeat' split at h
  all_goals first | (cases h;rfl) | cases h
 ·unfold z1o at h;cases h;rfl
 ·unfold z00 at h;repeat' split at h
  all_goals first | (cases h;rfl) | cases h
 ·unfold z01 at h;repeat' split at h
  all_goals first | (cases h;rfl) | cases h
 ·unfold JZ at h;repeat' split at h
  all_goals first | (cases h;rfl) | cases h
theorem z8N {op:Str} {arg:V} {m m':Mst} {res:Res} (h:gOr op arg m=some (res,m')):m'.kn=m.kn:=by
 unfold gOr at h;split at h
 ·split at h
  ·injection h with h
   split at h
   ·injection h with _ h;rw [<-h]
   ·injection h with _ h;rw [<-h]
  ·cases h
 ·cases h
theorem z1F {op:Str} {arg:V} {m m':Mst} {res:Res} (h:Q6 op arg m=some (res,m')):m'.kn=m.kn:=by
 unfold Q6 at h;split at h
 ·split at h
  ·rename_i v _ _
   cases e:z2s v with
   | none=>rw [e] at h;cases h
   | some k=>rw [e] at h;cases h;rfl
  ·cases h
 ·cases h
theorem z4F {op:Str} {arg:V} {m m':Mst} {res:Res} (h:rowM op arg m=some (res,m')) (h1:op≠"store") (h2:op≠"clear"):m'.kn=m.kn:=by
 unfold rowM at h;by_cases a0:op∈Ze
 ·rw [kG a0] at h;exact z89 h
 rw [kF a0] at h;by_cases a1:op∈ZY
 ·rw [kG a1] at h;exact z8R h
 rw [kF a1] at h;by_cases a2:op="push"
 ·rw [kG a2] at h;exact jA (.inl h)
 rw [kF a2] at h;by_cases a3:op="load"
 ·rw [kG a3] at h;exact jA (.inr (.inl h))
 rw [kF a3] at h;by_cases a4:op="quick"
 ·rw [kG a4] at h;exact jA (.inr (.inr (.inl h)))
 rw [kF a4] at h;by_cases a5:op="store"
 ·exact vd a5 h1
 rw [kF a5] at h;by_cases a6:op="clear"
 ·exact vd a6 h2
 rw [kF a6] at h;by_cases a7:op="tell"
 ·rw [kG a7] at h;exact jA (.inr (.inr (.inr (.inl h))))
 rw [kF a7] at h;by_cases a8:op="iftrue"
 ·rw [kG a8] at h;exact jA (.inr (.inr (.inr (.inr (.inl h)))))
 rw [kF a8] at h;by_cases a9:op="iffalse"
 ·rw [kG a9] at h;exact jA (.inr (.inr (.inr (.inr (.inl h)))))
 rw [kF a9] at h;by_cases a10:op="ortrue"
 ·rw [kG a10] at h;exact z8N h
 rw [kF a10] at h;by_cases a11:op="orfalse"
 ·rw [kG a11] at h;exact z8N h
 rw [kF a11] at h;by_cases a12:op="return"
 ·rw [kG a12] at h;exact jA (.inr (.inr (.inr (.inr (.inr (.inl h))))))
 rw [kF a12] at h;by_cases a13:op="jump"
 ·rw [kG a13] at h;exact jA (.inr (.inr (.inr (.inr (.inr (.inr (.inl h)))))))
 rw [kF a13] at h;by_cases a14:op="drop"
 ·rw [kG a14] at h;exact jA (.inr (.inr (.inr (.inr (.inr (.inr (.inr (.inl h))))))))
 rw [kF a14] at h;by_cases a15:op="copy"
 ·rw [kG a15] at h;exact jA (.inr (.inr (.inr (.inr (.inr (.inr (.inr (.inr (.inl h)))))))))
 rw [kF a15] at h;by_cases a16:op="swap"
 ·rw [kG a16] at h;exact jA (.inr (.inr (.inr (.inr (.inr (.inr (.inr (.inr (.inr h)))))))))
 rw [kF a16] at h;by_cases a17:op="raise"
 ·rw [kG a17] at h;exact z1F h
 rw [kF a17] at h;first | cases h | exact z1F h
theorem z4s {kvs:List (Key × V)} {k j:Key} (h:j≠k):valV (z02 kvs k) j=valV kvs j:=by
 unfold valV z02;congr 1
 induction kvs with
 | nil=>rfl
 | cons q t ih=>
  by_cases c:q.1=k
  ·rw [List.filter_cons_of_neg (by simp [c]),ih,List.find?_cons_of_neg];simp;intro z;exact h (z.symm.trans c)
  ·rw [List.filter_cons_of_pos (by simp [c])];by_cases e:q.1=j
   ·rw [List.find?_cons_of_pos (by simp [e]),List.find?_cons_of_pos (by simp [e])]
   ·rw [List.find?_cons_of_neg (by simp [e]),List.find?_cons_of_neg (by simp [e]),ih]
theorem z8B {op:Str} {arg:V} {ln:Int} {m m':Mst} {res:Res} (h:rowM op arg m=some (res,m')) {P:Str->Prop} (hP:∀x,P x->Kn m.kn x):
  (∀k,res=.fault k->∀x,P x->Kn m'.kn x)/\((res=.next\/res=.go)->∀x,bh ⟨op,arg,ln⟩ P x->Kn m'.kn x):=by
 by_cases c1:op="store"
 ·subst c1;have e0:rowM "store" arg m=Q5 "store" arg m:=by (unfold rowM;repeat (first | rw [kG vV] | rw [kF vV]))
  rw [e0] at h;unfold Q5 at h;repeat' split at h
  all_goals first | (cases h;done) | skip
  rename_i nm _ v _ _
  cases h;refine ⟨nofun,fun _ x b=>?_⟩;unfold bh at b;rw [kF (show ¬(("store":Str)="clear") by trivial)] at b;unfold Kn;rw [QG];rcases b with b | ⟨_,b⟩
  ·split
   ·exact ⟨_,rfl⟩
   ·exact hP x b
  ·have b:V.str nm=V.str x:=b;injection b with b
   rw [b,kG rfl];exact ⟨_,rfl⟩
 by_cases c2:op="clear"
 ·subst c2;have e0:rowM "clear" arg m=ZG "clear" arg m:=by (unfold rowM;repeat (first | rw [kG vV] | rw [kF vV]))
  rw [e0] at h;unfold ZG at h;repeat' split at h
  ·cases h;refine ⟨fun _ _ x px=>hP x px,fun z=>?_⟩;rcases z with z | z <;> cases z
  ·rename_i nm _ v _
   cases h;refine ⟨nofun,fun _ x b=>?_⟩;unfold bh at b;rw [kG rfl] at b;unfold Kn;rw [z4s (fun z=>b.2 (by injection z with z;rw [z]))];exact hP x b.1
  ·cases h
 have same:=z4F h c1 c2;rw [same];refine ⟨fun _ _ x px=>hP x px,fun hr x b=>?_⟩;by_cases c3:op="load"
 ·subst c3;have e0:rowM "load" arg m=QD "load" arg m:=by (unfold rowM;repeat (first | rw [kG vV] | rw [kF vV]))
  rw [e0] at h;unfold bh at b;rw [kF (show ¬(("load":Str)="clear") by trivial)] at b;rcases b with b | ⟨_,b⟩
  ·exact hP x b
  ·have b:arg=.str x:=b;subst b;unfold QD at h;dsimp only at h;unfold Kn;cases e:valV m.kn (Sum.inr x:Key) with
   | none=>
    rw [e] at h;cases h;rcases hr with z | z <;> cases z
   | some v=>exact ⟨v,rfl⟩
 ·exact hP x (z24 (r:=⟨op,arg,ln⟩) c2 c1 c3 b)
section
variable {rs:List Row} {S:Fnd} {g:Str->Prop} {Tb:Nat->Str->Prop}
theorem J0 (T:jb rs S) {p:Nat} {r:Row} {d:Int} {gs:List Gd} (hr:rs[p]?=some r) (hS:S[p]?=some (some (d,gs))):ql rs p r d gs.getLast?=mv1 r p d++mv2 rs r d++mv3 rs r gs.getLast?:=by
 obtain ⟨h1,h2,h3⟩:=jQ (T.here p r _ hr hS).1;unfold ql;rw [km h1,kF ke,h2,kF ke]
theorem z1Q (T:jb rs S) {p:Nat} {r:Row} {d:Int} {gs:List Gd} (hr:rs[p]?=some r) (hS:S[p]?=some (some (d,gs))) (hn:inT r.op qi=false):(V.int ((p:Int)+1),zJ r d,tabI zS r.op)∈ql rs p r d gs.getLast?:=by
 rw [J0 T hr hS];refine kW _ (kW _ ?_);unfold mv1;rw [hn,kF ke];exact kz.mpr rfl
theorem Sur.next (C:Sur rs S g Tb) (T:jb rs S) {p:Nat} {r:Row} {d:Int} {gs:List Gd} (hp:Rch rs S p) (hr:rs[p]?=some r) (hS:S[p]?=some (some (d,gs))) (hn:inT r.op qi=false):Rch rs S (p+1)/\∀x,Tb (p+1) x->if tabI zS r.op= -1 then Tb p x else bh r (Tb p) x:=by
 have e:(V.int ((p:Int)+1),zJ r d,tabI zS r.op).1=V.int ((p+1:Nat):Int):=by show V.int _=V.int _;congr 1
 exact ⟨.step hp hr hS (z1Q T hr hS hn) e,fun x h=>C.move p r d gs hp hr hS _ (z1Q T hr hS hn) (p+1) e x h⟩
theorem Sur.jump (C:Sur rs S g Tb) (T:jb rs S) {p:Nat} {r:Row} {d:Int} {gs:List Gd} (hp:Rch rs S p) (hr:rs[p]?=some r) (hS:S[p]?=some (some (d,gs))) (hj:inT r.op jumping=true) {mk:Int} (ha:r.arg=.int mk) {j:Nat} (hf:zM rs mk=some j):Rch rs S j/\∀x,Tb j x->bh r (Tb p) x:=by
 have mem:(labV rs (argM r.arg),(if inT r.op leaving=true then d else zJ r d),(0:Int))∈ql rs p r d gs.getLast?:=by
  rw [J0 T hr hS];refine kW _ (kU _ ?_);unfold mv2;rw [kG hj];exact kz.mpr rfl
 have e:(labV rs (argM r.arg),(if inT r.op leaving=true then d else zJ r d),(0:Int)).1=V.int (j:Int):=by
  show labV rs (argM r.arg)=_;rw [ha];show labV rs mk=_;unfold labV;rw [hf]
 refine ⟨.step hp hr hS mem e,fun x h=>?_⟩;have:=C.move p r d gs hp hr hS _ mem j e x h
 rw [kF (show ¬((0:Int)= -1) by decide)] at this;exact this
theorem Sur.fault (C:Sur rs S g Tb) (T:jb rs S) {p:Nat} {r:Row} {d:Int} {gs:List Gd} (hp:Rch rs S p) (hr:rs[p]?=some r) (hS:S[p]?=some (some (d,gs))) (hj:inT r.op faulting=true) {gd:Gd} (hg:gs.getLast?=some gd) {j:Nat} (hf:zM rs gd.1=some j):Rch rs S j/\∀x,Tb j x->Tb p x:=by
 have mem:(labV rs gd.1,gd.2+1,(-1:Int))∈ql rs p r d gs.getLast?:=by
  rw [J0 T hr hS];refine kU _ ?_;unfold mv3;rw [kG hj,hg];exact kz.mpr rfl
 have e:(labV rs gd.1,gd.2+1,(-1:Int)).1=V.int (j:Int):=by
  show labV rs gd.1=_;unfold labV;rw [hf]
 refine ⟨.step hp hr hS mem e,fun x h=>?_⟩;have:=C.move p r d gs hp hr hS _ mem j e x h
 rw [kG rfl] at this;exact this
theorem Qb (C:Sur rs S g Tb) (T:jb rs S) (hc:Code rs) {d:Nat}:∀(k p:Nat) (gs:List Gd) (p':Nat) (gs':List Gd),Rch rs S p->S[p]?=some (some ((d:Int),gs))->ja rs d k p gs=some (p',gs')->Rch rs S p'/\∀x,Tb p' x->Tb p x
 :=by
 intro k;induction k with
 | zero=>intro p gs p' gs' _ _ h;cases h
 | succ k ih=>
  intro p gs p' gs' hR hS h;have hp:p < rs.length:=by
   have:=(kj.mp hS).1
   rw [T.len] at this;exact this
  have hr:rs[p]?=some rs[p]:=kQ hp;generalize rs[p]=r at hr;have stand:inT r.op qi=false->tabI zN r.op=0->tabI zU r.op=0->S[p+1]?=some (some ((d:Int),zQ r d gs (tabI zS r.op))):=fun a b c=>by
   have:=JN T hr hS a
   unfold zJ at this;rw [b,c] at this;rw [show (d:Int) - 0+0=d by lia] at this;exact this
  have back:inT r.op qi=false->r.op≠"clear"->r.op≠"store"->r.op≠"load"->Rch rs S (p+1)/\∀x,Tb (p+1) x->Tb p x:=fun a b c e=>by
   obtain ⟨h1,h2⟩:=C.next T hR hr hS a;refine ⟨h1,fun x h=>?_⟩;have:=h2 x h
   split at this
   ·exact this
   ·exact z24 b c e this
  have on:∀gs2,(Rch rs S (p+1)/\∀x,Tb (p+1) x->Tb p x)->S[p+1]?=some (some ((d:Int),gs2))->ja rs d k (p+1) gs2=some (p',gs')->Rch rs S p'/\∀x,Tb p' x->Tb p x:=fun gs2 b st h=>by
   obtain ⟨a1,a2⟩:=ih (p+1) gs2 p' gs' b.1 st h;exact ⟨a1,fun x hx=>b.2 x (a2 x hx)⟩
  unfold ja at h;rw [hr] at h;dsimp only at h;by_cases c1:r.op="label"
  ·rw [kG c1] at h;have st:=stand (by rw [c1];decide+kernel) (by rw [c1];decide+kernel) (by rw [c1];decide+kernel);rw [c1,show tabI zS "label"=0 by trivial] at st;have e0:zQ r d gs 0=gs:=by unfold zQ;rw [kF (by decide),kF (by decide)]
   rw [e0] at st;exact on gs (back (by rw [c1];decide+kernel) (by rw [c1];decide+kernel) (by rw [c1];decide+kernel) (by rw [c1];decide+kernel)) st h
  rw [kF c1] at h;by_cases c2:r.op="try"
  ·rw [kG c2] at h;have st:=stand (by rw [c2];decide+kernel) (by rw [c2];decide+kernel) (by rw [c2];decide+kernel);rw [c2,show tabI zS "try"=1 by trivial] at st;have e0:zQ r d gs 1=gs++[(argM r.arg,(d:Int))]:=by unfold zQ;rw [kG rfl]
   rw [e0] at st;cases ha:r.arg with
   | int mk=>
    rw [ha] at h st;dsimp only at h;split at h
    ·exact on _ (back (by rw [c2];decide+kernel) (by rw [c2];decide+kernel) (by rw [c2];decide+kernel) (by rw [c2];decide+kernel)) st h
    ·cases h
   | _=>rw [ha] at h;cases h
  rw [kF c2] at h;by_cases c3:r.op="endtry"
  ·rw [kG c3] at h;have st:=stand (by rw [c3];decide+kernel) (by rw [c3];decide+kernel) (by rw [c3];decide+kernel);rw [c3,show tabI zS "endtry"= -1 by trivial] at st;have e0:zQ r d gs (-1)=gs.dropLast:=by unfold zQ;rw [kF (by decide),kG rfl]
   rw [e0] at st;split at h
   ·cases h
   ·exact on _ (back (by rw [c3];decide+kernel) (by rw [c3];decide+kernel) (by rw [c3];decide+kernel) (by rw [c3];decide+kernel)) st h
  rw [kF c3] at h;cases h;exact ⟨hR,fun x hx=>hx⟩
end
theorem z2S {rs:List Row} {S:Fnd} {g:Str->Prop} {Tb:Nat->Str->Prop} (C:Sur rs S g Tb) (T:jb rs S) (hc:Code rs) (hv:∀r∈rs,r.op="push"->okV r.arg=true) {m m':Mst} {gs gs':List Gd} {pas pas':List Nat} {p p':Nat} {e':List V} (I:InvM rs S m gs p pas.length) (hn:pas.length<=900) (hR:Rch rs S p)
  (hst:z2a rs m gs pas p=some (m',gs',pas',e',some p')) (hk:∀x,Tb p x->Kn m.kn x):Rch rs S p'/\∀x,Tb p' x->Kn m'.kn x:=by
 obtain ⟨hm,hS,hg,r,hr,hs⟩:=I;have hmem:=kM hr;obtain ⟨w1,w2,w3⟩:=jQ (T.here p r _ hr hS).1;obtain ⟨res,m1,e1,e2,e3,e4⟩:=z69 hm hn (hc.ok r hmem) (hv r hmem) (by lia) hs;obtain ⟨k1,k2⟩:=z8B (ln:=r.line) e1 hk;unfold z2a at hst;rw [hr] at hst;dsimp only at hst;rw [kG (jd hn (by decide)),e1] at hst;cases res with
 | next=>
  obtain ⟨f1,f2,f3⟩:=e4;have hx:=JN T hr hS f1;have e0:zQ r (m.st.length:Int) gs 0=gs:=by unfold zQ;rw [kF (by decide),kF (by decide)]
  rw [f3,e0,<-f2] at hx;dsimp only at hst;cases hcm:ja rs m1.st.length 200 (p+1) gs with
  | none=>rw [hcm] at hst;cases hst
  | some pg=>
   rw [hcm] at hst;cases hst;obtain ⟨a1,a2⟩:=C.next T hR hr hS f1;obtain ⟨b1,b2⟩:=Qb C T hc _ _ _ _ _ a1 hx hcm;refine ⟨b1,fun x hx'=>?_⟩;have:=a2 x (b2 x hx')
   rw [f3,kF (by decide)] at this;exact k2 (.inl rfl) x this
 | go=>
  obtain ⟨f1,f2⟩:=e4;obtain ⟨mk,j,ha,hj,hx⟩:=z3B T hc hr hS f1;rw [<-f2] at hx;dsimp only at hst;rw [ha] at hst;dsimp only at hst;rw [hj] at hst;dsimp only at hst;cases hcm:ja rs m1.st.length 200 j gs with
  | none=>rw [hcm] at hst;cases hst
  | some pg=>
   rw [hcm] at hst;cases hst;obtain ⟨a1,a2⟩:=C.jump T hR hr hS f1 ha hj;obtain ⟨b1,b2⟩:=Qb C T hc _ _ _ _ _ a1 hx hcm;exact ⟨b1,fun x hx'=>k2 (.inr rfl) x (a2 x (b2 x hx'))⟩
 | fault k=>
  obtain ⟨f1,f2,f3,f4⟩:=e4;dsimp only at hst;unfold z0Z at hst;cases e:gs.getLast? with
  | none=>rw [e] at hst;cases hst
  | some gd=>
   obtain ⟨a,b,c⟩:=hg.inv e;have hfit:gd.2<=(m1.st.length:Int):=by
    have w3:qF r (m.st.length:Int) gs.getLast?=false:=w3;rw [e] at w3;unfold qF at w3;dsimp only at w3;have hcp:¬r.op="copy":=fun z=>by
     rw [z] at f1;exact vd f1 vV
    rw [kF hcp] at w3;have w3:=of_decide_eq_false w3;split at w3 <;> split at w3 <;> lia
   obtain ⟨j,hj,hSj⟩:=z1Y T hr hS f1 e;rw [e] at hst;dsimp only at hst;by_cases hz:qW m1.st.length=true
   ·rw [kG hz,hj] at hst;dsimp only at hst;rw [z6q m1.st a hfit] at hst;have hlen:(m1.st.take gd.2.toNat++[V.str k]).length=gd.2.toNat+1:=by
     rw [ku,vp,kL];lia
    rw [hlen] at hst;have eg:(((gd.2.toNat+1:Nat)):Int)=gd.2+1:=by lia
    cases hcm:ja rs (gd.2.toNat+1) 200 j gs.dropLast with
    | none=>rw [hcm] at hst;cases hst
    | some pg=>
     rw [hcm] at hst;cases hst;obtain ⟨a1,a2⟩:=C.fault T hR hr hS f1 e hj;obtain ⟨b1,b2⟩:=Qb C T hc _ _ _ _ _ a1 (by rw [eg];exact hSj) hcm;exact ⟨b1,fun x hx'=>k1 k rfl x (a2 x (b2 x hx'))⟩
   ·rw [kF hz] at hst;cases hst
 | value v=>cases hst
abbrev NTab:=List (Option (List Str))
def atN (N:NTab) (p:Nat) (x:Str):Prop:=∃ns,N[p]?=some (some ns)/\x∈ns
def wayP (r:Row) (more:Int) (ns:List Str) (x:Str):Prop:=if more= -1 then x∈ns else bh r (· ∈ns) x
def Met (N:NTab) (j:Nat) (P:Str->Prop):Prop:=∃ns',N[j]?=some (some ns')/\∀x∈ns',P x
def z9K (rs:List Row) (S:Fnd) (N:NTab) (p:Nat) (ns:List Str):Prop:=∀r d gs,rs[p]?=some r->S[p]?=some (some (d,gs))->∀m∈ql rs p r d gs.getLast?,∀j:Nat,m.1=.int (j:Int)->Met N j (wayP r m.2.2 ns)
structure NI (rs:List Row) (S:Fnd) (g:Str->Prop) (B:List Str) (N:NTab) (w:List Nat):Prop where
 len:N.length=rs.length
 only:∀p ns,N[p]?=some (some ns)->Rch rs S p/\ns.Nodup/\∀x∈ns,x∈B
 zero:Met N 0 g
 top:∀Tb,Sur rs S g Tb->∀p ns x,N[p]?=some (some ns)->Tb p x->x∈ns
 wait:∀p∈w,∃ns,N[p]?=some (some ns)
structure NO (rs:List Row) (S:Fnd) (g:Str->Prop) (B:List Str) (N:NTab) (w:List Nat):Prop extends NI rs S g B N w where
 done:∀p ns,p∉w->N[p]?=some (some ns)->z9K rs S N p ns
structure NW (rs:List Row) (S:Fnd) (g:Str->Prop) (B:List Str) (p:Nat) (ns:List Str) (met:List (Nat × (Str->Prop))) (N:NTab) (w:List Nat):Prop extends NI rs S g B N w where
 done:∀q qs,q∉w->q≠p->N[q]?=some (some qs)->z9K rs S N q qs
 self:N[p]?=some (some ns)\/p∈w
 met:∀a∈met,Met N a.1 a.2
theorem NO.fin {rs:List Row} {S:Fnd} {g:Str->Prop} {B:List Str} {N:NTab} (T:jb rs S) (h:NO rs S g B N []):Sur rs S g (atN N)/\∀p,Rch rs S p->∃ns,N[p]?=some (some ns):=by
 have all:∀p,Rch rs S p->∃ns,N[p]?=some (some ns):=fun p hp=>by
  induction hp with
  | zero=>obtain ⟨ns,e,_⟩:=h.zero;exact ⟨ns,e⟩
  | step _ hr hS hm hj ih=>
   obtain ⟨ns,e⟩:=ih;obtain ⟨ns',e',_⟩:=h.done _ ns (by simp) e _ _ _ hr hS _ hm _ hj;exact ⟨ns',e'⟩
 refine ⟨⟨fun x ⟨ns,e,hx⟩=>?_,fun p r d gs hp hr hS m hm j hj x ⟨nj,ej,hx⟩=>?_⟩,all⟩
 ·obtain ⟨ns',e',q⟩:=h.zero;rw [e] at e';cases e';exact q x hx
 ·obtain ⟨ns,e⟩:=all p hp;obtain ⟨nj',ej',q⟩:=h.done p ns (by simp) e r d gs hr hS m hm j hj;rw [ej] at ej';cases ej';have:=q x hx
  unfold wayP at this;split at this
  ·rename_i c
   rw [kG c];exact ⟨ns,e,this⟩
  ·rename_i c
   rw [kF c];exact z4k (fun y hy=>⟨ns,e,hy⟩) this
theorem Met.set {N:NTab} {j:Nat} {kept:List Str} {ah:Option (List Str)} (hj:N[j]?=some ah) (hk:∀ns,ah=some ns->∀x∈kept,x∈ns) {q:Nat} {P:Str->Prop} (h:Met N q P):Met (N.set j (some kept)) q P:=by
 obtain ⟨ns,e,a⟩:=h;by_cases z:q=j
 ·subst z;rw [hj] at e;injection e with e
  refine ⟨kept,?_,fun x hx=>a x (hk ns e x hx)⟩;rw [vx,kG rfl,kG (kj.mp hj).1]
 ·refine ⟨ns,?_,a⟩;rw [vx,kF (fun y=>z y.symm)];exact e
theorem z1D {N:NTab} {j q:Nat} {kept ns:List Str} (h:(N.set j (some kept))[q]?=some (some ns)):(q=j/\ns=kept)\/(q≠j/\N[q]?=some (some ns)):=by
 rw [vx] at h;by_cases z:j=q
 ·rw [kG z] at h;split at h
  ·injection h with h;injection h with h;exact .inl ⟨z.symm,h.symm⟩
  ·cases h
 ·rw [kF z] at h;exact .inr ⟨fun y=>z y.symm,h⟩
section
variable {rs:List Row} {S:Fnd} {g:Str->Prop} {B:List Str} {p:Nat} {ns:List Str} {met:List (Nat × (Str->Prop))} {N:NTab} {w:List Nat}
theorem NO.pop (h:NO rs S g B N (w++[p])) (e:N[p]?=some (some ns)):NW rs S g B p ns [] N w:=
 ⟨⟨h.len,h.only,h.zero,h.top,fun q hq=>h.wait q (kW _ hq)⟩,fun q qs hq hne eq=>h.done q qs (fun z=>(ya.mp z).elim hq fun y=>hne (kz.mp y)) eq,.inl e,fun _ z=>by cases z⟩
theorem NW.stay (h:NW rs S g B p ns met N w) {j:Nat} {P:Str->Prop} (hm:Met N j P):NW rs S g B p ns (met++[(j,P)]) N w:=
 ⟨h.toNI,h.done,h.self,fun a ha=>by
  rcases ya.mp ha with ha | ha
  ·exact h.met a ha
  ·rw [kz.mp ha];exact hm⟩
theorem NW.put (h:NW rs S g B p ns met N w) {j:Nat} {ah:Option (List Str)} {kept:List Str} {P:Str->Prop} (hj:N[j]?=some ah) (hR:Rch rs S j) (hz:j=0->∃a,ah=some a) (hk:∀a,ah=some a->∀x∈kept,x∈a) (hP:∀x∈kept,P x) (hn:kept.Nodup) (hB:∀x∈kept,x∈B)
  (ht:∀Tb,Sur rs S g Tb->∀x,Tb j x->x∈kept):NW rs S g B p ns (met++[(j,P)]) (N.set j (some kept)) (w++[j]):=by
 have up:∀{q:Nat} {P:Str->Prop},Met N q P->Met (N.set j (some kept)) q P:=fun m=>m.set hj hk
 refine ⟨⟨by rw [vE];exact h.len,fun q qs e=>?_,up h.zero,fun Tb C q qs x e t=>?_,fun q hq=>?_⟩,fun q qs hq hne e=>?_,?_,fun a ha=>?_⟩
 ·rcases z1D e with ⟨rfl,rfl⟩ | ⟨_,e⟩
  ·exact ⟨hR,hn,hB⟩
  ·exact h.only q qs e
 ·rcases z1D e with ⟨rfl,rfl⟩ | ⟨_,e⟩
  ·exact ht Tb C x t
  ·exact h.top Tb C q qs x e t
 ·rcases ya.mp hq with hq | hq
  ·obtain ⟨a,e⟩:=h.wait q hq;obtain ⟨b,e',_⟩:=up ⟨a,e,fun _ _=>trivial⟩ (P:=fun _=>True);exact ⟨b,e'⟩
  ·rw [kz.mp hq];exact ⟨kept,by rw [vx,kG rfl,kG (kj.mp hj).1]⟩
 ·have hq1:q∉w:=fun z=>hq (kW _ z)
  have hq2:q≠j:=fun z=>hq (kU _ (kz.mpr z))
  rcases z1D e with ⟨z,_⟩ | ⟨_,e⟩
  ·exact vd z hq2
  ·intro r d gs hr hS m hm k hk';exact up (h.done q qs hq1 hne e r d gs hr hS m hm k hk')
 ·by_cases z:p=j
  ·exact .inr (kU _ (kz.mpr z))
  ·rcases h.self with e | e
   ·left
    rw [vx,kF (fun y=>z y.symm)];exact e
   ·exact .inr (kW _ e)
 ·rcases ya.mp ha with ha | ha
  ·exact up (h.met a ha)
  ·rw [kz.mp ha];exact ⟨kept,by rw [vx,kG rfl,kG (kj.mp hj).1],hP⟩
theorem NW.fin (h:NW rs S g B p ns met N w) {r:Row} {d:Int} {gs:List Gd} (hr:rs[p]?=some r) (hS:S[p]?=some (some (d,gs))) (hm:∀m∈ql rs p r d gs.getLast?,∀j:Nat,m.1=.int (j:Int)->∃P,(j,P)∈met/\∀x,P x->wayP r m.2.2 ns x):NO rs S g B N w:=by
 refine ⟨h.toNI,fun q qs hq e=>?_⟩;by_cases z:q=p
 ·subst z;rcases h.self with y | y
  ·rw [y] at e;cases e;intro r' d' gs' hr' hS' m hm' j hj;rw [hr] at hr';rw [hS] at hS';cases hr';cases hS';obtain ⟨P,h1,h2⟩:=hm m hm' j hj;obtain ⟨nj,e1,e2⟩:=h.met _ h1;exact ⟨nj,e1,fun x hx=>h2 x (e2 x hx)⟩
  ·exact vd y hq
 ·exact h.done q qs hq z e
end
noncomputable def valN (n:Nat):Option (List Str)->Nat
 | none=>n+1
 | some ns=>ns.length
noncomputable def pot (n:Nat) (N:NTab):Nat:=(N.map (valN n)).sum
theorem JE {n:Nat}:∀{N:NTab} {j:Nat} {o:Option (List Str)} (o':Option (List Str)),N[j]?=some o->pot n (N.set j o')+valN n o=pot n N+valN n o'
 | [],_,_,_,h=>by cases h
 | a :: N,0,o,o',h=>by
  have:a=o:=by simpa using h
  subst this;show (valN n o'+_)+valN n a=(valN n a+_)+valN n o';lia
 | a :: N,j+1,o,o',h=>by
  have ih:=JE (n:=n) (N:=N) (j:=j) o' (by simpa using h);unfold pot at ih ⊢
  show (valN n a+((N.set j o').map (valN n)).sum)+valN n o=(valN n a+(N.map (valN n)).sum)+valN n o';lia
theorem ZZ {B:List Str}:∀{ns:List Str},ns.Nodup->(∀x∈ns,x∈B)->ns.length<=B.length
 | [],_,_=>vi _
 | x :: ns,hn,hB=>by
  rw [List.nodup_cons] at hn;have hx:=hB x (kY ..);have ih:=ZZ (B:=B.erase x) hn.2 (fun y hy=>by
   have hy':=hB y (kZ _ hy);exact (List.mem_erase_of_ne (fun z=>hn.1 (by rw [<-z];exact hy))).mpr hy')
  rw [List.length_erase_of_mem hx] at ih;have:1<=B.length:=List.length_pos_iff.mpr (List.ne_nil_of_mem hx)
  show ns.length+1<=_;lia
set_option maxHeartbeats 4000000
structure GOk (d:Int) (gs:List Gd) (n:Nat):Prop where
 pos:0<=d
 len:gs.length+n<=1000
 top:∀g,gs.getLast?=some g->g.2<=d
def GEnv (Γ:Int->Option Sta) (gs:List Gd):Prop:=∀g,gs.getLast?=some g->Γ g.1=some (g.2+1,gs.dropLast)
def Ext (Γ Γl:Int->Option Sta) (k k':Nat):Prop:=∀m:Nat,k<=m->m < k'->Γ (m:Int)=Γl (m:Int)
structure Ty (δ:Int) (sure:Bool) (k k':Nat) (l:List Row):Prop where
 go:∀d gs,GOk d gs l.length->∃(Γl:Int->Option Sta) (c':Option Sta),(c'=some (d+δ,gs)\/(sure=false/\c'=none))/\∀Γ,Ext Γ Γl k k'->GEnv Γ gs->chk Γ l (some (d,gs))=some c'
 off:∀Γ:Int->Option Sta,(∀m:Nat,k<=m->m < k'->Γ (m:Int)=none)->chk Γ l none=some none
theorem Ty.nil (k:Nat):Ty 0 true k k []:=⟨fun d gs _=>⟨fun _=>none,some (d,gs),.inl (by rw [vN]),fun _ _ _=>rfl⟩,fun _ _=>rfl⟩
theorem Ty.app {δ1 δ2:Int} {s1 s2:Bool} {k k1 k2:Nat} {a b:List Row} (x:Ty δ1 s1 k k1 a) (y:Ty δ2 s2 k1 k2 b) (h1:k<=k1) (h2:k1<=k2) (hp:0<=δ1):Ty (δ1+δ2) (s1&&s2) k k2 (a++b):=by
 refine ⟨fun d gs hg=>?_,fun Γ hΓ=>?_⟩
 ·have hl:=hg.len;rw [ku] at hl;obtain ⟨Γa,ca,hca,ha⟩:=x.go d gs ⟨hg.pos,by lia,hg.top⟩;have mix:∀Γb:Int->Option Sta,∃Γl:Int->Option Sta,∀Γ,Ext Γ Γl k k2->Ext Γ Γa k k1/\Ext Γ Γb k1 k2:=fun Γb=>
   ⟨fun m=>if m < (k1:Int) then Γa m else Γb m,fun Γ h=>⟨fun m m1 m2=>(h m m1 (by lia)).trans (kG (by lia)),fun m m1 m2=>(h m (by lia) m2).trans (kF (by lia))⟩⟩
  rcases hca with rfl | ⟨hs,rfl⟩
  ·obtain ⟨Γb,cb,hcb,hb⟩:=y.go (d+δ1) gs ⟨by have:=hg.pos;lia,by lia,fun g e=>by have:=hg.top g e;lia⟩;obtain ⟨Γl,hm⟩:=mix Γb;refine ⟨Γl,cb,?_,fun Γ he hE=>?_⟩
   ·rcases hcb with h | ⟨h,h'⟩
    ·exact .inl (by rw [h,Int.add_assoc])
    ·exact .inr ⟨by rw [h,Bool.and_false],h'⟩
   ·obtain ⟨e1,e2⟩:=hm Γ he;rw [zB,ha Γ e1 hE];exact hb Γ e2 hE
  ·obtain ⟨Γl,hm⟩:=mix fun _=>none
   refine ⟨Γl,none,.inr ⟨by rw [hs,vy],rfl⟩,fun Γ he hE=>?_⟩;obtain ⟨e1,e2⟩:=hm Γ he;rw [zB,ha Γ e1 hE];exact y.off Γ e2
 ·rw [zB,x.off Γ fun m m1 m2=>hΓ m m1 (by lia)];exact y.off Γ fun m m1 m2=>hΓ m (by lia) m2
theorem Z1 {Γ:Int->Option Sta} {r:Row} {s:Sta} (hl:r.op≠"label") (ho:jE r s=true) (ht:∀t∈tgts r s,Γ t.1=some t.2):chk Γ [r] (some s)=some (QB r s):=by
 rw [ZE,kF hl];dsimp only;rw [kG ⟨ho,List.all_eq_true.mpr fun t h=>ko (ht t h)⟩];rfl
theorem zO {Γ:Int->Option Sta} {r:Row} (hl:r.op≠"label"):chk Γ [r] none=some none:=by
 rw [ZE,kF hl];rfl
theorem jw {r:Row} {d:Int} {gs:List Gd} (h1:qd r<=d) (h2:∀g,gs.getLast?=some g->g.2<=d - qd r) (h3:r.op≠"endtry") (h4:gs.length<=1000):jE r (d,gs)=true:=by
 unfold jE ZN;have e1:decide (d < qd r)=false:=km (by lia);have e2:qF r d gs.getLast?=false:=by
  unfold qF;cases e:gs.getLast? with
  | none=>rfl
  | some g=>
   have:=h2 g e
   dsimp only;split
   ·rfl
   ·refine km ?_;split <;> split <;> lia
 show (!decide (d < qd r)&& !(decide (r.op="endtry")&&gs.getLast?.isNone)&& !qF r d gs.getLast?&&decide (gs.length<=1000))=true;rw [e1,e2,km h3,ko h4];rfl
structure Zu (op:Str) (a b:Int):Prop where
 lab:op≠"label"
 et:op≠"endtry"
 deep:inT op qO=false
 takes:tabI zN op=a
 pushes:tabI zU op=b
 on:inT op qi=false
 jump:inT op jumping=false
 gput:tabI zS op=0
theorem Zu.asked {op:Str} {a b:Int} (h:Zu op a b) (arg:V) (l:Int):qd ⟨op,arg,l⟩=a:=by
 unfold qd;rw [h.deep,kF ke];exact h.takes
theorem Zu.chk {op:Str} {a b:Int} (h:Zu op a b) {Γ:Int->Option Sta} {d:Int} {gs:List Gd} (arg:V) (l:Int) (hd:a<=d) (hg:∀g,gs.getLast?=some g->g.2<=d - a) (hz:gs.length<=1000) (hE:GEnv Γ gs):
  chk Γ [⟨op,arg,l⟩] (some (d,gs))=some (some (d - a+b,gs)):=by
 rw [Z1 h.lab (jw (by rw [h.asked];exact hd) (by rw [h.asked];exact hg) h.et hz)]
 ·unfold QB;rw [h.on,kF ke];unfold zJ zQ;rw [h.takes,h.pushes,h.gput,kF (by decide),kF (by decide)]
 ·intro t ht;unfold tgts at ht;rw [h.jump,kF ke,List.nil_append] at ht;by_cases hf:inT op faulting=true
  ·rw [kG hf] at ht;cases e:gs.getLast? with
   | none=>
    rw [show ((d,gs):Sta).2.getLast?=none from e] at ht;cases ht
   | some g=>
    rw [show ((d,gs):Sta).2.getLast?=some g from e] at ht;rw [kz.mp ht];exact hE g e
  ·rw [kF hf] at ht;cases ht
theorem Ty.row {δ:Int} {k k':Nat} {l:List Row} (x:Ty δ true k k' l) {op:Str} {a b:Int} (h:Zu op a b) (hd:a<=δ) (arg:V) (ln:Int):Ty (δ - a+b) true k k' (l++[⟨op,arg,ln⟩]):=by
 refine ⟨fun d gs hg=>?_,fun Γ hΓ=>?_⟩
 ·have hl:=hg.len;rw [ku,kL] at hl;obtain ⟨Γa,ca,hca,ha⟩:=x.go d gs ⟨hg.pos,by lia,hg.top⟩;have hca:ca=some (d+δ,gs):=by
   rcases hca with h | ⟨h,_⟩
   ·exact h
   ·cases h
  subst hca;refine ⟨Γa,some (d+(δ - a+b),gs),.inl rfl,fun Γ he hE=>?_⟩;rw [zB,ha Γ he hE];show My.chk Γ [⟨op,arg,ln⟩] (some (d+δ,gs))=_;rw [h.chk arg ln (by have:=hg.pos;lia) (fun g e=>by have:=hg.top g e;lia) (by lia) hE];congr 3
  lia
 ·rw [zB,x.off Γ hΓ];exact zO h.lab
theorem JF:Zu "push" 0 1:=⟨vV,vV,vV,vV,vV,vV,vV,vV⟩
theorem z1f:Zu "load" 0 1:=⟨vV,vV,vV,vV,vV,vV,vV,vV⟩
theorem Qs:∀op∈(["add","sub","mul","div","rest","less","same"]:List Str),Zu op 2 1:=by
 intro op h;simp only [kJ,kC,or_false] at h;rcases h with rfl | rfl | rfl | rfl | rfl | rfl | rfl
 all_goals exact ⟨vV,vV,vV,vV,vV,vV,vV,vV⟩
theorem z3g:∀op∈(["neg","not"]:List Str),Zu op 1 1:=by
 intro op h;simp only [kJ,kC,or_false] at h;rcases h with rfl | rfl
 all_goals exact ⟨vV,vV,vV,vV,vV,vV,vV,vV⟩
theorem jm:∀op∈(["drop","tell","store"]:List Str),Zu op 1 0:=by
 intro op h;simp only [kJ,kC,or_false] at h;rcases h with rfl | rfl | rfl
 all_goals exact ⟨vV,vV,vV,vV,vV,vV,vV,vV⟩
theorem z4J:Zu "clear" 0 0:=⟨vV,vV,vV,vV,vV,vV,vV,vV⟩
structure Op (op:Str) (a b g:Int) (on jump leave fault:Bool):Prop where
 deep:inT op qO=false
 takes:tabI zN op=a
 pushes:tabI zU op=b
 gput:tabI zS op=g
 on:inT op qi= !on
 jump:inT op jumping=jump
 leave:inT op leaving=leave
 fault:inT op faulting=fault
theorem Op.asked {op:Str} {a b g:Int} {on j lv f:Bool} (h:Op op a b g on j lv f) (arg:V) (l:Int):qd ⟨op,arg,l⟩=a:=by
 unfold qd;rw [h.deep,kF ke];exact h.takes
theorem Op.next {op:Str} {a b g:Int} {on j lv f:Bool} (h:Op op a b g on j lv f) (arg:V) (l:Int) (s:Sta):QB ⟨op,arg,l⟩ s=if on=true then some (s.1 - a+b,zQ ⟨op,arg,l⟩ s.1 s.2 g) else none:=by
 unfold QB zJ;rw [h.on,h.takes,h.pushes,h.gput];cases on <;> rfl
theorem Op.tg {op:Str} {a b g:Int} {on j lv f:Bool} (h:Op op a b g on j lv f) {Γ:Int->Option Sta} {m:Int} {l:Int} {d:Int} {gs:List Gd} (hj:j=true->Γ m=some ((if lv=true then d else d - a+b),gs)) (hf:f=true->GEnv Γ gs):∀t∈tgts ⟨op,.int m,l⟩ (d,gs),Γ t.1=some t.2:=by
 intro t ht;unfold tgts zJ at ht;rw [h.jump,h.leave,h.fault,h.takes,h.pushes] at ht;rcases ya.mp ht with ht | ht
 ·cases j with
  | false=>cases ht
  | true=>
   rw [kG rfl] at ht;rw [kz.mp ht];exact hj rfl
 ·cases f with
  | false=>cases ht
  | true=>
   rw [kG rfl] at ht;cases e:gs.getLast? with
   | none=>rw [show ((d,gs):Sta).2.getLast?=none from e] at ht;cases ht
   | some g=>
    rw [show ((d,gs):Sta).2.getLast?=some g from e] at ht;rw [kz.mp ht];exact hf rfl g e
theorem z4Q:∀op∈(["ortrue","orfalse"]:List Str),Op op 1 0 0 true true true false/\op≠"label"/\op≠"endtry":=by
 intro op h;simp only [kJ,kC,or_false] at h;rcases h with rfl | rfl
 all_goals exact ⟨⟨vV,vV,vV,vV,vV,vV,vV,vV⟩,vV,vV⟩
theorem z4T:∀op∈(["iftrue","iffalse"]:List Str),Op op 1 0 0 true true false false/\op≠"label"/\op≠"endtry":=by
 intro op h;simp only [kJ,kC,or_false] at h;rcases h with rfl | rfl
 all_goals exact ⟨⟨vV,vV,vV,vV,vV,vV,vV,vV⟩,vV,vV⟩
theorem JL:Op "jump" 0 0 0 false true false false:=⟨vV,vV,vV,vV,vV,vV,vV,vV⟩
theorem z1N:Op "try" 0 0 1 true false false false:=⟨vV,vV,vV,vV,vV,vV,vV,vV⟩
theorem Zl:Op "endtry" 0 0 (-1) true false false false:=⟨vV,vV,vV,vV,vV,vV,vV,vV⟩
theorem ZX:Op "raise" 1 0 0 false false false true:=⟨vV,vV,vV,vV,vV,vV,vV,vV⟩
theorem Zk:Op "return" 1 0 0 false false false false:=⟨vV,vV,vV,vV,vV,vV,vV,vV⟩
theorem z1O:Op "label" 0 0 0 true false false false:=⟨vV,vV,vV,vV,vV,vV,vV,vV⟩
theorem gs0 (r:Row) (d:Int) (gs:List Gd):zQ r d gs 0=gs:=by unfold zQ;rw [kF (by decide),kF (by decide)]
section
variable {Γ:Int->Option Sta} {d m l:Int} {gs:List Gd}
theorem z4f {op:Str} (h:op∈(["ortrue","orfalse"]:List Str)) (h0:0<=d) (ht:∀g,gs.getLast?=some g->g.2<=d) (hz:gs.length<=1000) (hΓ:Γ m=some (d+1,gs)):chk Γ [⟨op,.int m,l⟩] (some (d+1,gs))=some (some (d,gs)):=by
 obtain ⟨o,h1,h2⟩:=z4Q op h;rw [Z1 h1 (jw (by rw [o.asked];lia) (fun g e=>by rw [o.asked];have:=ht g e;lia) h2 hz) (o.tg (fun _=>hΓ) nofun),o.next,kG rfl,gs0];congr 3
 show d+1 - 1+0=d;lia
theorem z20 {op:Str} (h:op∈(["iftrue","iffalse"]:List Str)) (h0:0<=d) (ht:∀g,gs.getLast?=some g->g.2<=d) (hz:gs.length<=1000) (hΓ:Γ m=some (d,gs)):chk Γ [⟨op,.int m,l⟩] (some (d+1,gs))=some (some (d,gs)):=by
 obtain ⟨o,h1,h2⟩:=z4T op h;have e:d+1 - 1+0=d:=by lia
 rw [Z1 h1 (jw (by rw [o.asked];lia) (fun g e=>by rw [o.asked];have:=ht g e;lia) h2 hz) (o.tg (fun _=>by rw [kF ke,e];exact hΓ) nofun),o.next,kG rfl,gs0];congr 3
theorem ZD (h0:0<=d) (ht:∀g,gs.getLast?=some g->g.2<=d) (hz:gs.length<=1000) (hΓ:Γ m=some (d,gs)):chk Γ [⟨"jump",.int m,l⟩] (some (d,gs))=some none:=by
 have e:d - 0+0=d:=by lia
 rw [Z1 (show ("jump":Str)≠"label" by trivial) (jw (by rw [JL.asked];lia) (fun g e=>by rw [JL.asked];have:=ht g e;lia) (show ("jump":Str)≠"endtry" by trivial) hz) (JL.tg (fun _=>by rw [kF ke,e];exact hΓ) nofun),JL.next];rfl
theorem z4e (h0:0<=d) (ht:∀g,gs.getLast?=some g->g.2<=d) (hz:gs.length<=1000):chk Γ [⟨"try",.int m,l⟩] (some (d,gs))=some (some (d,gs++[(m,d)])):=by
 rw [Z1 (show ("try":Str)≠"label" by trivial) (jw (by rw [z1N.asked];lia) (fun g e=>by rw [z1N.asked];have:=ht g e;lia) (show ("try":Str)≠"endtry" by trivial) hz) (z1N.tg nofun nofun),z1N.next,kG rfl];unfold zQ;rw [kG rfl];congr 3
 show d - 0+0=d;lia
theorem Jt {g:Gd} (h0:0<=d) (ht:g.2<=d) (hz:gs.length+1<=1000):chk Γ [⟨"endtry",.non,l⟩] (some (d,gs++[g]))=some (some (d,gs)):=by
 have hl:(gs++[g]).getLast?=some g:=by rw [List.getLast?_append];rfl
 have ho:jE ⟨"endtry",.non,l⟩ (d,gs++[g])=true:=by
  unfold jE ZN;have e1:decide (d < qd ⟨"endtry",.non,l⟩)=false:=km (by rw [Zl.asked];lia);have e2:qF ⟨"endtry",.non,l⟩ d (some g)=false:=by
   unfold qF;dsimp only;rw [Zl.asked];split
   ·rfl
   ·refine km ?_;split <;> split <;> lia
  show (!decide (d < qd ⟨"endtry",.non,l⟩)&& !(decide (("endtry":Str)="endtry")&&(gs++[g]).getLast?.isNone)&& !qF ⟨"endtry",.non,l⟩ d (gs++[g]).getLast?&&decide ((gs++[g]).length<=1000))=true;rw [hl,e1,e2,ko (show (gs++[g]).length<=1000 by rw [ku];exact hz)];rfl
 rw [Z1 (show ("endtry":Str)≠"label" by trivial) ho ?_,Zl.next,kG rfl]
 ·unfold zQ;rw [kF (by decide),kG rfl,kN];congr 3
  show d - 0+0=d;lia
 ·intro t ht;unfold tgts at ht;rw [Zl.jump,Zl.fault] at ht;cases ht
theorem z0P (h0:0<=d) (ht:∀g,gs.getLast?=some g->g.2<=d) (hz:gs.length<=1000) (hE:GEnv Γ gs):chk Γ [⟨"raise",.non,l⟩] (some (d+1,gs))=some none:=by
 rw [Z1 (show ("raise":Str)≠"label" by trivial) (jw (by rw [ZX.asked];lia) (fun g e=>by rw [ZX.asked];have:=ht g e;lia) (show ("raise":Str)≠"endtry" by trivial) hz) ?_,ZX.next]
 ·rfl
 ·intro t ht;unfold tgts at ht;rw [ZX.jump,ZX.fault,kF ke,kG rfl,List.nil_append] at ht;cases e:gs.getLast? with
  | none=>rw [show ((d+1,gs):Sta).2.getLast?=none from e] at ht;cases ht
  | some g=>
   rw [show ((d+1,gs):Sta).2.getLast?=some g from e] at ht;rw [kz.mp ht];exact hE g e
theorem z2E (h0:0<=d) (ht:∀g,gs.getLast?=some g->g.2<=d) (hz:gs.length<=1000):chk Γ [⟨"return",.non,l⟩] (some (d+1,gs))=some none:=by
 rw [Z1 (show ("return":Str)≠"label" by trivial) (jw (by rw [Zk.asked];lia) (fun g e=>by rw [Zk.asked];have:=ht g e;lia) (show ("return":Str)≠"endtry" by trivial) hz) ?_,Zk.next]
 ·rfl
 ·intro t ht;unfold tgts at ht;rw [Zk.jump,Zk.fault] at ht;cases ht
theorem qy {c:Option Sta} (h0:0<=d) (ht:∀g,gs.getLast?=some g->g.2<=d) (hz:gs.length<=1000) (hΓ:Γ m=some (d,gs)) (hc:c=none\/c=some (d,gs)):chk Γ [⟨"label",.int m,l⟩] c=some (some (d,gs)):=by
 have ho:jE ⟨"label",.int m,l⟩ (d,gs)=true:=jw (by rw [z1O.asked];lia) (fun g e=>by rw [z1O.asked];have:=ht g e;lia) (show ("label":Str)≠"endtry" by trivial) hz;rw [ZE,kG rfl,show Γ (argM (.int m))=some (d,gs) from hΓ];rcases hc with rfl | rfl
 ·dsimp only;rw [kG ho];rfl
 ·dsimp only;rw [kG ⟨rfl,ho⟩];rfl
theorem zR (hΓ:Γ m=none):chk Γ [⟨"label",.int m,l⟩] none=some none:=by
 rw [ZE,kG rfl,show Γ (argM (.int m))=none from hΓ];rfl
end
theorem Ty.sure {δ:Int} {k k':Nat} {l:List Row} (x:Ty δ true k k' l) {d:Int} {gs:List Gd} (hg:GOk d gs l.length):∃Γl:Int->Option Sta,∀Γ,Ext Γ Γl k k'->GEnv Γ gs->chk Γ l (some (d,gs))=some (some (d+δ,gs)):=by
 obtain ⟨Γl,c',h,q⟩:=x.go d gs hg;rcases h with h | ⟨h,_⟩
 ·rw [h] at q;exact ⟨Γl,q⟩
 ·cases h
theorem Ty.orv {k k1 k2:Nat} {l1 l2:List Row} (x:Ty 1 true (k+1) k1 l1) (y:Ty 1 true k1 k2 l2) (h1:k+1<=k1) (h2:k1<=k2) {op:Str} (ho:op∈(["ortrue","orfalse"]:List Str)) (a b:Int):
  Ty 1 true k k2 (l1++[⟨op,.int (k:Int),a⟩]++l2++[⟨"label",.int (k:Int),b⟩]):=by
 refine ⟨fun d gs hg=>?_,fun Γ hΓ=>?_⟩
 ·have hl:=hg.len;simp only [ku,kL] at hl;obtain ⟨Γ1,q1⟩:=x.sure (d:=d) (gs:=gs) ⟨hg.pos,by lia,hg.top⟩;obtain ⟨Γ2,q2⟩:=y.sure (d:=d) (gs:=gs) ⟨hg.pos,by lia,hg.top⟩;refine ⟨fun m=>if m=(k:Int) then some (d+1,gs) else if m < (k1:Int) then Γ1 m else Γ2 m,some (d+1,gs),.inl rfl,fun Γ he hE=>?_⟩;have ek:Γ (k:Int)=some (d+1,gs):=(he k (ki _) (by lia)).trans (kG rfl);have e1:Ext Γ Γ1 (k+1) k1:=fun m m1 m2=>(he m (by lia) (by lia)).trans ((kF (by lia)).trans (kG (by lia)))
  have e2:Ext Γ Γ2 k1 k2:=fun m m1 m2=>(he m (by lia) (by lia)).trans ((kF (by lia)).trans (kF (by lia)))
  have t1:∀g,gs.getLast?=some g->g.2<=d+1:=fun g e=>by have:=hg.top g e;lia
  rw [zB,zB,zB,q1 Γ e1 hE,kh,z4f ho hg.pos hg.top (by lia) ek,kh,q2 Γ e2 hE,kh];exact qy (by have:=hg.pos;lia) t1 (by lia) ek (.inr rfl)
 ·have ek:Γ (k:Int)=none:=hΓ k (ki _) (by lia);rw [zB,zB,zB,x.off Γ fun m m1 m2=>hΓ m (by lia) (by lia),kh,zO (z4Q op ho).2.1,kh,y.off Γ fun m m1 m2=>hΓ m (by lia) m2,kh];exact zR ek
theorem Ty.triedv {k k':Nat} {l:List Row} (x:Ty 1 true (k+2) k' l) (h1:k+2<=k') (a b c e f:Int):
  Ty 1 true k k' ([⟨"try",.int (k:Int),a⟩]++l++[⟨"endtry",.non,b⟩]++[⟨"jump",.int ((k+1:Nat):Int),c⟩]++[⟨"label",.int (k:Int),e⟩]++[⟨"label",.int ((k+1:Nat):Int),f⟩]):=by
 refine ⟨fun d gs hg=>?_,fun Γ hΓ=>?_⟩
 ·have hl:=hg.len;simp only [ku,kL] at hl;have hlast:(gs++[((k:Int),d)]).getLast?=some ((k:Int),d):=by rw [List.getLast?_append];rfl
  obtain ⟨Γ1,q1⟩:=x.sure (d:=d) (gs:=gs++[((k:Int),d)]) ⟨hg.pos,by rw [ku,kL];lia,fun g z=>by rw [hlast] at z;cases z;exact Int.le_refl _⟩;refine ⟨fun m=>if m=(k:Int) then some (d+1,gs) else if m=((k+1:Nat):Int) then some (d+1,gs) else Γ1 m,some (d+1,gs),.inl rfl,fun Γ he hE=>?_⟩;have ek:Γ (k:Int)=some (d+1,gs):=(he k (ki _) (by lia)).trans (kG rfl);have ek1:Γ ((k+1:Nat):Int)=some (d+1,gs):=(he (k+1) (by lia) (by lia)).trans ((kF (by lia)).trans (kG rfl));have e1:Ext Γ Γ1 (k+2) k':=fun m m1 m2=>(he m (by lia) m2).trans ((kF (by lia)).trans (kF (by lia)))
  have hE1:GEnv Γ (gs++[((k:Int),d)]):=fun g z=>by
   rw [hlast] at z;cases z;rw [kN];exact ek
  have t1:∀g,gs.getLast?=some g->g.2<=d+1:=fun g z=>by have:=hg.top g z;lia
  have p1:0<=d+1:=by have:=hg.pos;lia
  rw [zB,zB,zB,zB,zB,z4e hg.pos hg.top (by lia),kh,q1 Γ e1 hE1,kh,Jt p1 (by show d<=d+1;lia) (by lia),kh,ZD p1 t1 (by lia) ek1,kh,qy p1 t1 (by lia) ek (.inl rfl),kh];exact qy p1 t1 (by lia) ek1 (.inr rfl)
 ·have ek:Γ (k:Int)=none:=hΓ k (ki _) (by lia);have ek1:Γ ((k+1:Nat):Int)=none:=hΓ (k+1) (by lia) (by lia);rw [zB,zB,zB,zB,zB,zO (show ("try":Str)≠"label" by trivial),kh,x.off Γ fun m m1 m2=>hΓ m (by lia) m2,kh,zO (show ("endtry":Str)≠"label" by trivial),kh,zO (show ("jump":Str)≠"label" by trivial),kh,zR ek,kh];exact zR ek1
theorem Ty.round {k k1 k2:Nat} {l1 l2:List Row} {su:Bool} (x:Ty 1 true (k+2) k1 l1) (y:Ty 0 su k1 k2 l2) (h1:k+2<=k1) (h2:k1<=k2) (a b c e:Int):
  Ty 0 true k k2 ([⟨"label",.int (k:Int),a⟩]++l1++[⟨"iffalse",.int ((k+1:Nat):Int),b⟩]++l2++[⟨"jump",.int (k:Int),c⟩]++[⟨"label",.int ((k+1:Nat):Int),e⟩]):=by
 refine ⟨fun d gs hg=>?_,fun Γ hΓ=>?_⟩
 ·have hl:=hg.len;simp only [ku,kL] at hl;obtain ⟨Γ1,q1⟩:=x.sure (d:=d) (gs:=gs) ⟨hg.pos,by lia,hg.top⟩;obtain ⟨Γ2,c2,hc2,q2⟩:=y.go d gs ⟨hg.pos,by lia,hg.top⟩;refine ⟨fun m=>if m=(k:Int) then some (d,gs) else if m=((k+1:Nat):Int) then some (d,gs) else if m < (k1:Int) then Γ1 m else Γ2 m,some (d+0,gs),.inl rfl,fun Γ he hE=>?_⟩;have ek:Γ (k:Int)=some (d,gs):=(he k (ki _) (by lia)).trans (kG rfl);have ek1:Γ ((k+1:Nat):Int)=some (d,gs):=(he (k+1) (by lia) (by lia)).trans ((kF (by lia)).trans (kG rfl));have e1:Ext Γ Γ1 (k+2) k1:=fun m m1 m2=>(he m (by lia) (by lia)).trans ((kF (by lia)).trans ((kF (by lia)).trans (kG (by lia))))
  have e2:Ext Γ Γ2 k1 k2:=fun m m1 m2=>(he m (by lia) m2).trans ((kF (by lia)).trans ((kF (by lia)).trans (kF (by lia))))
  rw [zB,zB,zB,zB,zB,qy hg.pos hg.top (by lia) ek (.inr rfl),kh,q1 Γ e1 hE,kh,z20 vV hg.pos hg.top (by lia) ek1,kh,q2 Γ e2 hE,kh,vN];rcases hc2 with rfl | ⟨_,rfl⟩
  ·rw [vN,ZD hg.pos hg.top (by lia) ek,kh];exact qy hg.pos hg.top (by lia) ek1 (.inl rfl)
  ·rw [zO (show ("jump":Str)≠"label" by trivial),kh];exact qy hg.pos hg.top (by lia) ek1 (.inl rfl)
 ·have ek:Γ (k:Int)=none:=hΓ k (ki _) (by lia);have ek1:Γ ((k+1:Nat):Int)=none:=hΓ (k+1) (by lia) (by lia);rw [zB,zB,zB,zB,zB,zR ek,kh,x.off Γ fun m m1 m2=>hΓ m (by lia) (by lia),kh,zO (show ("iffalse":Str)≠"label" by trivial),kh,y.off Γ fun m m1 m2=>hΓ m (by lia) m2,kh,zO (show ("jump":Str)≠"label" by trivial),kh];exact zR ek1
theorem Ty.choice {k k1 k2 k3:Nat} {l1 l2 l3:List Row} {s2 s3:Bool} (x:Ty 1 true (k+2) k1 l1) (y:Ty 0 s2 k1 k2 l2) (z:Ty 0 s3 k2 k3 l3) (h1:k+2<=k1) (h2:k1<=k2) (h3:k2<=k3) {op:Str} (ho:op∈(["iftrue","iffalse"]:List Str)) (a b c e:Int):
  Ty 0 true k k3 (l1++[⟨op,.int (k:Int),a⟩]++l2++[⟨"jump",.int ((k+1:Nat):Int),b⟩]++[⟨"label",.int (k:Int),c⟩]++l3++[⟨"label",.int ((k+1:Nat):Int),e⟩]):=by
 refine ⟨fun d gs hg=>?_,fun Γ hΓ=>?_⟩
 ·have hl:=hg.len;simp only [ku,kL] at hl;obtain ⟨Γ1,q1⟩:=x.sure (d:=d) (gs:=gs) ⟨hg.pos,by lia,hg.top⟩;obtain ⟨Γ2,c2,hc2,q2⟩:=y.go d gs ⟨hg.pos,by lia,hg.top⟩;obtain ⟨Γ3,c3,hc3,q3⟩:=z.go d gs ⟨hg.pos,by lia,hg.top⟩;refine ⟨fun m=>if m=(k:Int) then some (d,gs) else if m=((k+1:Nat):Int) then some (d,gs) else if m < (k1:Int) then Γ1 m else if m < (k2:Int) then Γ2 m else Γ3 m,some (d+0,gs),.inl rfl,fun Γ he hE=>?_⟩;have ek:Γ (k:Int)=some (d,gs):=(he k (ki _) (by lia)).trans (kG rfl);have ek1:Γ ((k+1:Nat):Int)=some (d,gs):=(he (k+1) (by lia) (by lia)).trans ((kF (by lia)).trans (kG rfl));have e1:Ext Γ Γ1 (k+2) k1:=fun m m1 m2=>(he m (by lia) (by lia)).trans ((kF (by lia)).trans ((kF (by lia)).trans (kG (by lia))))
  have e2:Ext Γ Γ2 k1 k2:=fun m m1 m2=>(he m (by lia) (by lia)).trans ((kF (by lia)).trans ((kF (by lia)).trans ((kF (by lia)).trans (kG (by lia)))))
  have e3:Ext Γ Γ3 k2 k3:=fun m m1 m2=>(he m (by lia) (by lia)).trans ((kF (by lia)).trans ((kF (by lia)).trans ((kF (by lia)).trans (kF (by lia)))))
  have j:chk Γ [⟨"jump",.int ((k+1:Nat):Int),b⟩] c2=some none:=by
   rcases hc2 with rfl | ⟨_,rfl⟩
   ·rw [vN];exact ZD hg.pos hg.top (by lia) ek1
   ·exact zO (show ("jump":Str)≠"label" by trivial)
  rw [zB,zB,zB,zB,zB,zB,q1 Γ e1 hE,kh,z20 ho hg.pos hg.top (by lia) ek,kh,q2 Γ e2 hE,kh,j,kh,qy hg.pos hg.top (by lia) ek (.inl rfl),kh,q3 Γ e3 hE,kh,vN];refine qy hg.pos hg.top (by lia) ek1 ?_;rcases hc3 with rfl | ⟨_,rfl⟩
  ·exact .inr (by rw [vN])
  ·exact .inl rfl
 ·have ek:Γ (k:Int)=none:=hΓ k (ki _) (by lia);have ek1:Γ ((k+1:Nat):Int)=none:=hΓ (k+1) (by lia) (by lia);rw [zB,zB,zB,zB,zB,zB,x.off Γ fun m m1 m2=>hΓ m (by lia) (by lia),kh,zO (z4T op ho).2.1,kh,y.off Γ fun m m1 m2=>hΓ m (by lia) (by lia),kh,zO (show ("jump":Str)≠"label" by trivial),kh,zR ek,kh,z.off Γ fun m m1 m2=>hΓ m (by lia) m2,kh];exact zR ek1
theorem Ty.rais {k k':Nat} {l:List Row} (x:Ty 1 true k k' l) (a:Int):Ty 0 false k k' (l++[⟨"raise",.non,a⟩]):=by
 refine ⟨fun d gs hg=>?_,fun Γ hΓ=>?_⟩
 ·have hl:=hg.len;simp only [ku,kL] at hl;obtain ⟨Γ1,q1⟩:=x.sure (d:=d) (gs:=gs) ⟨hg.pos,by lia,hg.top⟩;refine ⟨Γ1,none,.inr ⟨rfl,rfl⟩,fun Γ he hE=>?_⟩;rw [zB,q1 Γ he hE,kh];exact z0P hg.pos hg.top (by lia) hE
 ·rw [zB,x.off Γ hΓ,kh];exact zO (show ("raise":Str)≠"label" by trivial)
theorem Ty.weak {δ:Int} {su:Bool} {k k':Nat} {l:List Row} (x:Ty δ su k k' l):Ty δ false k k' l:=by
 refine ⟨fun d gs hg=>?_,x.off⟩;obtain ⟨Γl,c',h,q⟩:=x.go d gs hg;refine ⟨Γl,c',?_,q⟩;rcases h with h | ⟨_,h⟩
 ·exact .inl h
 ·exact .inr ⟨rfl,h⟩
theorem z59 {Γ:Int->Option Sta} {op:Str} (h:op∈(["drop","tell","raise"]:List Str)) (ln:Int) {d:Int} {gs:List Gd} (h0:0<=d) (ht:∀g,gs.getLast?=some g->g.2<=d) (hz:gs.length<=1000) (hE:GEnv Γ gs):chk Γ [⟨op,.non,ln⟩] (some (d+1,gs))=some (if op="raise" then none else some (d,gs)):=by
 simp only [kJ,kC,or_false] at h;have e:d+1 - 1+0=d:=by lia
 rcases h with rfl | rfl | rfl
 ·rw [(jm "drop" vV).chk .non ln (by lia) (fun g z=>by have:=ht g z;lia) hz hE,e,kF vV]
 ·rw [(jm "tell" vV).chk .non ln (by lia) (fun g z=>by have:=ht g z;lia) hz hE,e,kF vV]
 ·rw [z0P h0 ht hz hE,kG rfl]
theorem Ty.tried {k k1 k2:Nat} {l1 l2:List Row} {s1 s2:Bool} (x:Ty 0 s1 (k+2) k1 l1) (y:Ty 0 s2 k1 k2 l2) (h1:k+2<=k1) (h2:k1<=k2) {op:Str} (ho:op∈(["drop","tell","raise"]:List Str)) (a b c e f g':Int):
  Ty 0 true k k2 ([⟨"try",.int (k:Int),a⟩]++l1++[⟨"endtry",.non,b⟩]++[⟨"jump",.int ((k+1:Nat):Int),c⟩]++[⟨"label",.int (k:Int),e⟩]++[⟨op,.non,f⟩]++l2++[⟨"label",.int ((k+1:Nat):Int),g'⟩]):=by
 have hopl:op≠"label":=by
  simp only [kJ,kC,or_false] at ho;rcases ho with rfl | rfl | rfl <;> decide+kernel
 refine ⟨fun d gs hg=>?_,fun Γ hΓ=>?_⟩
 ·have hl:=hg.len;simp only [ku,kL] at hl;have hlast:(gs++[((k:Int),d)]).getLast?=some ((k:Int),d):=by rw [List.getLast?_append];rfl
  obtain ⟨Γ1,c1,hc1,q1⟩:=x.go d (gs++[((k:Int),d)]) ⟨hg.pos,by rw [ku,kL];lia,fun g z=>by rw [hlast] at z;cases z;exact Int.le_refl _⟩;obtain ⟨Γ2,c2,hc2,q2⟩:=y.go d gs ⟨hg.pos,by lia,hg.top⟩;refine ⟨fun m=>if m=(k:Int) then some (d+1,gs) else if m=((k+1:Nat):Int) then some (d,gs) else if m < (k1:Int) then Γ1 m else if op="raise" then none else Γ2 m,some (d+0,gs),.inl rfl,fun Γ he hE=>?_⟩;have ek:Γ (k:Int)=some (d+1,gs):=(he k (ki _) (by lia)).trans (kG rfl);have ek1:Γ ((k+1:Nat):Int)=some (d,gs):=(he (k+1) (by lia) (by lia)).trans ((kF (by lia)).trans (kG rfl));have e1:Ext Γ Γ1 (k+2) k1:=fun m m1 m2=>(he m (by lia) (by lia)).trans ((kF (by lia)).trans ((kF (by lia)).trans (kG (by lia))))
  have e2:∀m:Nat,k1<=m->m < k2->Γ (m:Int)=if op="raise" then none else Γ2 (m:Int):=fun m m1 m2=>(he m (by lia) (by lia)).trans ((kF (by lia)).trans ((kF (by lia)).trans (kF (by lia))))
  have hE1:GEnv Γ (gs++[((k:Int),d)]):=fun g z=>by
   rw [hlast] at z;cases z;rw [kN];exact ek
  have t1:∀g,gs.getLast?=some g->g.2<=d+1:=fun g z=>by have:=hg.top g z;lia
  have p1:0<=d+1:=by have:=hg.pos;lia
  have j:(chk Γ [⟨"endtry",.non,b⟩] c1).bind (fun c'=>chk Γ [⟨"jump",.int ((k+1:Nat):Int),c⟩] c')=some none:=by
   rcases hc1 with rfl | ⟨_,rfl⟩
   ·rw [vN,Jt hg.pos (Int.le_refl d) (by lia),kh];exact ZD hg.pos hg.top (by lia) ek1
   ·rw [zO (show ("endtry":Str)≠"label" by trivial),kh];exact zO (show ("jump":Str)≠"label" by trivial)
  have z:(chk Γ [⟨op,.non,f⟩] (some (d+1,gs))).bind (fun c'=>chk Γ l2 c')=some (if op="raise" then none else c2):=by
   rw [z59 ho f hg.pos hg.top (by lia) hE,kh];by_cases hr:op="raise"
   ·rw [kG hr,kG hr];exact y.off Γ fun m m1 m2=>(e2 m m1 m2).trans (kG hr)
   ·rw [kF hr,kF hr];exact q2 Γ (fun m m1 m2=>(e2 m m1 m2).trans (kF hr)) hE
  have z2:(if op="raise" then none else c2)=none\/(if op="raise" then none else c2)=some (d,gs):=by
   by_cases hr:op="raise"
   ·rw [kG hr];exact .inl rfl
   ·rw [kF hr];rcases hc2 with rfl | ⟨_,rfl⟩
    ·exact .inr (by rw [vN])
    ·exact .inl rfl
  rw [zB,zB,zB,zB,zB,zB,zB,z4e hg.pos hg.top (by lia),kh,q1 Γ e1 hE1,kh,j,kh,qy p1 t1 (by lia) ek (.inl rfl),kh,z,kh,vN];exact qy hg.pos hg.top (by lia) ek1 z2
 ·have ek:Γ (k:Int)=none:=hΓ k (ki _) (by lia);have ek1:Γ ((k+1:Nat):Int)=none:=hΓ (k+1) (by lia) (by lia);rw [zB,zB,zB,zB,zB,zB,zB,zO (show ("try":Str)≠"label" by trivial),kh,x.off Γ fun m m1 m2=>hΓ m (by lia) (by lia),kh,zO (show ("endtry":Str)≠"label" by trivial),kh,zO (show ("jump":Str)≠"label" by trivial),kh,zR ek,kh,zO hopl,kh,y.off Γ fun m m1 m2=>hΓ m (by lia) m2,kh];exact zR ek1
structure Deep (op:Str) (b:Int):Prop where
 lab:op≠"label"
 et:op≠"endtry"
 deep:inT op qO=true
 takes:tabI zN op=0
 pushes:tabI zU op=b
 on:inT op qi=false
 jump:inT op jumping=false
 gput:tabI zS op=0
 fault:inT op faulting=false
theorem z7N:Deep "swap" 0:=⟨vV,vV,vV,vV,vV,vV,vV,vV,vV⟩
theorem z3Z:Deep "copy" 1:=⟨vV,vV,vV,vV,vV,vV,vV,vV,vV⟩
theorem Ty.deep {δ:Int} {k k':Nat} {l:List Row} (x:Ty δ true k k' l) {op:Str} {b:Int} (h:Deep op b) {n:Int} (hn:n<=δ) (ln:Int):Ty (δ+b) true k k' (l++[⟨op,.int n,ln⟩]):=by
 have ha:qd ⟨op,.int n,ln⟩=n:=by
  unfold qd;rw [h.deep,kG rfl]
 refine ⟨fun d gs hg=>?_,fun Γ hΓ=>?_⟩
 ·have hl:=hg.len;simp only [ku,kL] at hl;obtain ⟨Γ1,q1⟩:=x.sure (d:=d) (gs:=gs) ⟨hg.pos,by lia,hg.top⟩;refine ⟨Γ1,some (d+(δ+b),gs),.inl rfl,fun Γ he hE=>?_⟩;rw [zB,q1 Γ he hE,kh,Z1 h.lab (jw (by rw [ha];have:=hg.pos;lia) (fun g e=>by rw [ha];have:=hg.top g e;lia) h.et (by lia)) ?_]
  ·unfold QB zJ;rw [h.on,kF ke,h.takes,h.pushes,h.gput,gs0];congr 3
   show d+δ - 0+b=d+(δ+b);lia
  ·intro t ht;unfold tgts at ht;rw [h.jump,h.fault] at ht;cases ht
 ·rw [zB,x.off Γ hΓ,kh];exact zO h.lab
theorem Ty.whole {k k1 k2:Nat} {l1 l2:List Row} {su:Bool} (x:Ty 0 su k k1 l1) (y:Ty 1 true k1 k2 l2) (h1:k<=k1) (h2:k1<=k2) (a:Int) (hz:l1.length+l2.length<=998):
  ∃Γl:Int->Option Sta,∀Γ,Ext Γ Γl k k2->chk Γ (l1++l2++[⟨"return",.non,a⟩]) (some (0,[]))=some none:=by
 have xy:=x.app y h1 h2 (Int.le_refl 0);obtain ⟨Γl,c',hc,q⟩:=xy.go 0 [] ⟨Int.le_refl _,by simp only [ku,List.length_nil];lia,nofun⟩;refine ⟨Γl,fun Γ he=>?_⟩;rw [zB,q Γ he nofun,kh];rcases hc with rfl | ⟨_,rfl⟩
 ·rw [show (0:Int)+(0+1)=0+1 by decide];exact z2E (Int.le_refl 0) nofun (by decide)
 ·exact zO (show ("return":Str)≠"label" by trivial)
def Scr (K:kE) (H:Hp) (a:Addr) (xs:List V):Prop:=
 (∃o,H a=some (.frz o (.lst xs)))\/∃(o:Obj) (its:Array Value) (n:Nat),K.lookup a=some o/\o.cls=.type "list"/\o.dict=none/\o.data=.seq its n/\its.size<=sizeLine/\Vals xs its.toList
theorem Scr.sq {K:kE} {H:Hp} {a:Addr} {xs:List V} (h:Scr K H a xs):SqL K H a xs:=by
 rcases h with ⟨o,h⟩ | h
 ·exact .inl (.inr ⟨o,h⟩)
 ·exact .inr h
def zaB (H H':Hp) (t r m:Addr):Prop:=∀b o,H b=some o->b≠t->b≠r->b≠m->H' b=some o
theorem Scr.keep {K:kE} {H H':Hp} {a:Addr} {xs:List V} (h:Scr K H a xs) (k:∀o u,H a=some (.frz o u)->H' a=some (.frz o u)):Scr K H' a xs:=by
 rcases h with ⟨o,h⟩ | h
 ·exact .inl ⟨o,k _ _ h⟩
 ·exact .inr h
theorem Scr.keep1 {K:kE} {H H':Hp} {a t:Addr} {xs ys:List V} (h:Scr K H a xs) (k:jc H H' t) (ht:H t=some (.lst ys)):Scr K H' a xs:=h.keep fun o u e=>k _ _ e (zL e ht nofun)
noncomputable def qS (c:Nat) (cells:List Int):List V:=.int (c:Int) :: cells.map V.int
section
def z0k (K:kE):Sp:=fun vs H Q _=>∃(a t:Addr) (ns:List Int) (c:Nat) (cells:List Int) (many:Int),vs=[.ref a,.ref t,.int many]/\Scr K H a (ns.map V.int)/\ns.length<=1000/\cells.length=ns.length/\H t=some (.lst (qS c cells))/\c<=100000/\1<=many/\many<=1000/\
 ∀(i:Int) (cells':List Int) H',0<=i->i < many->cells'.length=ns.length->H' t=some (.lst (qS (c+1) cells'))->jc H H' t->Q (.int i) H'
theorem z3a:zr ["_law_script","_law_town_here","_law_many","_law_at","_law_left","_law_number"] ["_law_script","_law_town_here","_law_many"] (zh (top 106)):=fsM
theorem z5e {cells:List Int} {i:Int} (h0:0<=i) (h1:i < (cells.length:Int)) (c:Nat):∃z,atI (qS c cells) (1+i)=some (.int z):=by
 obtain ⟨j,rfl⟩:=yf h0;have hj:j < cells.length:=by lia
 have e:(1:Int)+(j:Int)=((j+1:Nat):Int):=by lia
 refine ⟨cells[j],?_⟩;rw [e];refine zy ?_;unfold qS;rw [List.getElem?_cons_succ,vh,kQ hj];rfl
theorem z2y {ns:List Int} {i:Int} (h0:0<=i) (h1:i < (ns.length:Int)):∃z,atI (ns.map V.int) i=some (.int z):=by
 obtain ⟨j,rfl⟩:=yf h0;have hj:j < ns.length:=by lia
 refine ⟨ns[j],zy ?_⟩;rw [vh,kQ hj];rfl
theorem z4B {c:Nat} {cells:List Int} {i:Int} (h0:0<=i) (h1:i < (cells.length:Int)) (z:Int):∃j cells',ixN (qS c cells).length (1+i)=some j/\(qS c cells).set j (.int z)=qS c cells'/\cells'.length=cells.length:=by
 obtain ⟨j,rfl⟩:=yf h0;refine ⟨j+1,cells.set j z,?_,?_,by simp⟩
 ·unfold ixN qS;rw [kG (by lia),kG (by simp;lia)];congr 1
  lia
 ·unfold qS;rw [List.set_cons_succ,List.map_set]
theorem ix0 {c:Nat} {cells:List Int}:ixN (qS c cells).length 0=some 0:=by
 unfold ixN qS;rw [kG (by decide),kG (by simp <;> lia)];rfl
theorem z7H (D:zx K mg "_law_draw" (top 106)) (G:Glo mg):FN P w K mg base 1 "_law_draw" Vd (z0k K):=by
 refine FN.o D z3a fun f cdv A vY s H vs Q E hr h=>?_
 obtain ⟨a,t,ns,c,cells,many,rfl,hS,hns,hcl,hT,hc,hm1,hm2,q⟩:=h;have hu:A.units+3 < cLine:=by have:=hr.units0;exact this
 refine ⟨_,z8 (jq (qa js (zZ zI (pv 1) zl (fun _ _=>rfl)) zl) (Qt (pv 1) zl jH))
  (z8 (zY (zt (z8Q (hr.units0)) (pv 0) (qe z7) (zA _))
   (zi (zu (qa QW (qa QX (qa z0r (qa z0r (zZ zI (pv 1) zl (fun _ _=>rfl)) (zZ zI (pv 1) zl (fun _ _=>rfl))) zl) zl) (pv 2)))) zE)
  (z8 (zK (i:=3) z3a.nd rfl (Or.inl rfl) (qa QW (zZ zI (pv 1) zl (fun _ _=>rfl)) (zH zW rfl G.len qA (z6 (pv 0) z7))))
  (z8 (zK (i:=4) z3a.nd rfl (Or.inl rfl) (zZ zI (pv 1) (qa js zl (pv 3)) (fun _ _=>rfl)))
  (z8 (zY (PW.pt (QP (zt zab (zZ zI (pv 0) (pv 3) (fun _ _=>rfl)) (qa z3n zl zl) (zA _)) (ZK (zt Jf (pv 4) zl (zA _)))))
   (z8 (jq (qa QX (pv 4) (pv 2)) (Qt (pv 1) (qa js zl (pv 3)) jH)) (zi (zu (qa QW (pv 4) (pv 2))))) zE)
  (z8 (zK (i:=5) z3a.nd rfl (Or.inl rfl) (qa QW (qa js (zZ zI (pv 0) (pv 3) (fun _ _=>rfl)) (qa z0r zl (zZ zI (pv 1) zl (fun _ _=>rfl)))) zl))
  (z8 (zK (i:=5) z3a.nd rfl (Or.inl rfl) (qa QW (qa z3n (pv 5) zl) zl))
  (zi (zu (qa QW (qa QX (qa QW (qa js (qa z0r (qa QX (pv 5) zl) zl) (pv 5)) zl) zl) (pv 2)))))))))),?_⟩
 symm
 have hmod:∀x:Int,0<=x % many/\x % many < many:=fun x=>⟨Int.emod_nonneg _ (by lia),Int.emod_lt_of_pos _ (by lia)⟩
 have cdm:CDiv 0 many:=⟨by lia,by lia⟩
 refine ⟨t,_,_,_,rfl,rfl,SqL.of hT,zy (j:=0) rfl,_,_,rfl,rfl,?_⟩;refine ⟨t,_,_,0,rfl,rfl,hT,ix0,?_⟩;have e1:(qS c cells).set 0 (V.int ((c:Int)+1))=qS (c+1) cells:=by
  unfold qS;rw [List.set_cons_zero];rfl
 rw [e1];generalize hH1:upd H t (.lst (qS (c+1) cells))=H1;have hT1:H1 t=some (.lst (qS (c+1) cells)):=by rw [<-hH1];exact zc
 have k1:jc H H1 t:=fun b o e hb=>by rw [<-hH1,zj hb];exact e
 have hS1:=hS.keep1 k1 hT;refine ⟨vW,fun p hp=>?_⟩;have s2:Same H1 (upd H1 p (.lst [])):=zo hp _;have hT2:=s2 _ _ hT1;have hS2:Scr K (upd H1 p (.lst [])) a (ns.map V.int):=hS1.keep fun o u e=>s2 _ _ e
 have k2:jc H (upd H1 p (.lst [])) t:=fun b o e hb=>s2 _ _ (k1 b o e hb)
 generalize hH2:upd H1 p (.lst [])=H2 at *;have hp2:H2 p=some (.lst []):=by rw [<-hH2];exact zc
 refine ⟨a,p,_,rfl,rfl,hS2.sq,SqL.of hp2,_,rfl,?_⟩;refine ite2 (fun ce=>?_) (fun ce=>?_)
 ·refine ⟨t,_,_,_,rfl,rfl,SqL.of hT2,zy (j:=0) rfl,t,_,_,_,rfl,rfl,SqL.of hT2,zy (j:=0) rfl,_,_,rfl,rfl,.inl ⟨by lia,by lia⟩,_,_,rfl,rfl,.inr ⟨by decide,by decide⟩,_,_,rfl,rfl,⟨by decide,by decide⟩,_,_,rfl,rfl,by lia,?_⟩;exact q _ cells H2 (hmod _).1 (hmod _).2 hcl hT2 k2
 ·have hne:ns≠[]:=fun z=>ce (by rw [z];rfl)
  have hpos:0 < ns.length:=List.length_pos_iff.mpr hne;refine ⟨t,_,_,_,rfl,rfl,SqL.of hT2,zy (j:=0) rfl,a,_,rfl,.inl hS2.sq,_,_,rfl,rfl,by rw [kq];lia,?_⟩;rw [kq];have a0:0<=((c+1:Nat):Int) % (ns.length:Int):=Int.emod_nonneg _ (by lia);have a1:((c+1:Nat):Int) % (ns.length:Int) < (ns.length:Int):=Int.emod_lt_of_pos _ (by lia);obtain ⟨z,hz⟩:=z5e (cells:=cells) a0 (by rw [hcl];exact a1) (c+1);obtain ⟨y,hy⟩:=z2y (ns:=ns) a0 a1;refine ⟨_,_,rfl,rfl,t,_,_,_,rfl,rfl,SqL.of hT2,hz,?_⟩;refine ⟨a,_,_,_,rfl,rfl,hS2.sq,hy,_,_,rfl,rfl,⟨by decide,by decide,by decide⟩,_,_,rfl,rfl,_,rfl,?_⟩;have rest:tSeq (tAsg (tOp (rI (fun _ j=>0 < j) fun i j=>.int (i % j)) (tOp (rI0 fun i j=>.int (i+j)) (tOp (rIxL K) (tVar 0) (tVar 3)) (tOp (rI CMul fun i j=>.int (i * j)) (tC (.int 104729)) (tOp (rIxL K) (tVar 1) (tC (.int 0))))) (tC (.int 4294967291))) (z0C 5))
    (tSeq (tAsg (tOp (rI (fun _ j=>0 < j) fun i j=>.int (i % j)) (tOp (rI CPow fun i j=>.int (i ^ j.toNat)) (tVar 5) (tC (.int 5))) (tC (.int 4294967279))) (z0C 5))
    (tRet (tOp (rI (fun _ j=>0 < j) fun i j=>.int (i % j)) (tOp (rI CDiv fun i j=>.int (i / j)) (tOp (rI (fun _ j=>0 < j) fun i j=>.int (i % j)) (tOp (rI0 fun i j=>.int (i+j)) (tOp (rI CMul fun i j=>.int (i * j)) (tOp (rI CDiv fun i j=>.int (i / j)) (tVar 5) (tC (.int 64))) (tC (.int 69621))) (tVar 5)) (tC (.int 4294967231))) (tC (.int 8))) (tVar 2))))
    { nx:=fun _ H'=>Q .non H',rt:=Q } [some (.ref a),some (.ref t),some (.int many),some (.int (((c+1:Nat):Int) % (ns.length:Int))),some (.int z),none] H2:=by
   refine ⟨a,_,_,_,rfl,rfl,hS2.sq,hy,t,_,_,_,rfl,rfl,SqL.of hT2,zy (j:=0) rfl,_,_,rfl,rfl,.inl ⟨by decide,by decide⟩,_,_,rfl,rfl,_,_,rfl,rfl,(by show (0:Int) < 4294967291;decide),?_⟩;have b0:0<=(y+104729 * ((c+1:Nat):Int)) % 4294967291:=Int.emod_nonneg _ (by decide);have b1:(y+104729 * ((c+1:Nat):Int)) % 4294967291 < 4294967291:=Int.emod_lt_of_pos _ (by decide);refine ⟨_,_,rfl,rfl,⟨by decide,by decide,?_⟩,_,_,rfl,rfl,(by show (0:Int) < 4294967279;decide),?_⟩
   ·show ((y+104729 * ((c+1:Nat):Int)) % 4294967291).natAbs < 2 ^ 64;lia
   refine ⟨_,_,rfl,rfl,⟨by decide,by decide⟩,_,_,rfl,rfl,.inr ⟨by decide,by decide⟩,_,_,rfl,rfl,_,_,rfl,rfl,(by show (0:Int) < 4294967231;decide),_,_,rfl,rfl,⟨by decide,by decide⟩,_,_,rfl,rfl,by lia,?_⟩;exact q _ cells H2 (hmod _).1 (hmod _).2 hcl hT2 k2
  refine ite2 (fun c1=>?_) (fun c1=>?_)
  ·refine ⟨_,_,rfl,rfl,_,rfl,?_⟩;refine ite2 (fun c2=>?_) (fun c2=>rest);obtain ⟨j,cells',hj,hset,hl'⟩:=z4B (c:=c+1) (cells:=cells) a0 (by rw [hcl];exact a1) (z / many);refine ⟨_,_,rfl,rfl,⟨by lia,by lia⟩,?_⟩;refine ⟨_,_,rfl,rfl,t,_,_,j,rfl,rfl,hT2,hj,?_⟩;rw [hset];refine ⟨_,_,rfl,rfl,by lia,?_⟩;exact q _ cells' _ (hmod _).1 (hmod _).2 (hl'.trans hcl) zc fun b o e hb=>by rw [zj hb];exact k2 b o e hb
  ·exact iteF rest
end
def FNd (P:Program) (w:World) (K:kE) (mg:Str->Option Value) (base:Heap) (k:Nat) (name:Str) (ps:List Str) (dvs:List V) (sp:Sp):Prop:=
 ∃f fd ds,mg name=some (.ref f)/\PySem.W.keepIn K (.ref f)=true/\Vals dvs ds/\Zy K fd ps ds/\FnOk P w K mg base CX0 k f fd ps sp
def z4p (K:kE) (mg:Str->Option Value) (name:Str) (st:Stmt):Prop:=
 ∃(f T:Addr) (oc kV doc pm cdv ct:Value) (od an:Option Addr) (osl:Array (Option Value)) (to:Obj) (n:Nat),mg name=some (.ref f)/\PySem.W.keepIn K (.ref f)=true/\
  K.lookup f=some ⟨oc,od,.func (PySem.W.fnOf name name (qr st) (zG st) (zh st) (.ref T) kV doc pm an cdv ct),osl⟩/\PySem.W.codeIn K cdv name=true/\K.lookup T=some to/\to.data=.seq #[Value.none] n
section
variable {X:Cx} {k:Nat} {name:Str} {ps:List Str} {dvs:List V} {sp:Sp} {p pos:Pos} {e:Expr} {es:List Expr} {t:TA}
theorem zF (F:FNd X.prog X.w X.K X.mg X.base k name ps dvs sp) (hr:Room k X.A) (hg:Gl X name) (ha:PA X (e :: es) t) (hdb:autoParam ((name == ("__debug__":Str))=false) aR._auto_2)
  (he:autoParam (starEach (e :: es) X.env=(false,eval e X.env) :: starEach es X.env) aR._auto_1) (hpl:autoParam ((backTo pos (starEach es X.env)).any (·.1)=false) aR._auto_1):
  PE X (.Call (.Name name p) (e :: es) [] pos) (z2Q sp dvs E0 t):=by
 obtain ⟨f,fd,ds,a,b,v,c,d⟩:=F;exact z1h d hr hg a b c v z0p ha hdb he hpl
end
section
def z0g:Sp:=fun vs H Q _=>∃(r:Addr) (op:Str) (x:V) (ys:List V),vs=[.ref r,.str op,x]/\H r=some (.lst ys)/\ys.length<=100000/\
 ∀a,H a=none->Q .non (upd (upd H a (.tup [.str op,x,.int (10+(ys.length:Int) / 2)])) r (.lst (ys++[.ref a])))
theorem za0:zr ["_law_rows","_law_op","_law_arg"] ["_law_rows","_law_op","_law_arg"] (zh (top 109)):=fsM
theorem JP {n:Nat} (h:n<=100000):n < sizeLine:=Nat.lt_of_le_of_lt h (by decide)
theorem z9h (D:z4p K mg "_law_put" (top 109)) (G:Glo mg):FNd P w K mg base 1 "_law_put" Vg [] z0g/\FNd P w K mg base 1 "_law_put" Vg [.non] z0g:=by
 obtain ⟨f,T,oc,kV,doc,pm,cdv,ct,od,an,osl,to,n,m,kp,lk,hcd,lT,hT⟩:=D;have ok:FnOk P w K mg base CX0 1 f (PySem.W.fnOf "_law_put" "_law_put" (qr (top 109)) (zG (top 109)) (zh (top 109)) (.ref T) kV doc pm an cdv ct) ["_law_rows","_law_op","_law_arg"] z0g:=by
  refine z7v lk hcd za0 (fun vs H Q E h=>by obtain ⟨r,op,x,ys,rfl,_⟩:=h;rfl) (fun A vY s H vs Q E hr h=>?_);obtain ⟨r,op,x,ys,rfl,hr1,hl,q⟩:=h;refine ⟨_,PSs.nox (zi (zp (jC (pv 0) (z6 (qb (z6 (pv 1) (z6 (pv 2) (z6 (qa js zl (qa QX (zH zW rfl G.len qA (z6 (pv 0) z7)) zl)) z7)))) z7)))),?_⟩;refine ⟨.inl ⟨rfl,_,SqL.of hr1⟩,r,_,rfl,.inl (SqL.of hr1),_,_,rfl,rfl,⟨by decide,by decide⟩,_,_,rfl,rfl,vW,fun a ha=>?_⟩;have nra:r≠a:=ze hr1 ha;exact ⟨r,ys,.ref a,rfl,rfl,by rw [zj nra];exact hr1,JP hl,q a ha⟩
 have b3:Zy K (PySem.W.fnOf "_law_put" "_law_put" (qr (top 109)) (zG (top 109)) (zh (top 109)) (.ref T) kV doc pm an cdv ct) ["_law_rows","_law_op","_law_arg"] []:=fun s us X hl=>by
  match us,hl with
  | [u1,u2,u3],_=>exact BindsTo.of_defaults (T:=T) (o:=to) (items:=#[Value.none]) rfl (X _ _ lT) hT rfl rfl
 have b2:Zy K (PySem.W.fnOf "_law_put" "_law_put" (qr (top 109)) (zG (top 109)) (zh (top 109)) (.ref T) kV doc pm an cdv ct) ["_law_rows","_law_op","_law_arg"] [.none]:=fun s us X hl=>by
  have hl':us.length=2:=by simpa using hl
  match us,hl' with
  | [u1,u2],_=>exact BindsTo.of_defaults (T:=T) (o:=to) (items:=#[Value.none]) rfl (X _ _ lT) hT rfl rfl
 exact ⟨⟨f,_,[],m,kp,.nil,b3,ok⟩,⟨f,_,[.none],m,kp,.cons rfl .nil,b2,ok⟩⟩
noncomputable def jV (k:Nat):List V:=(List.range k).map fun i:Nat=>V.int (i:Int)
theorem J1 (k:Nat):jV k++[.int (k:Int)]=jV (k+1):=by
 unfold jV;rw [List.range_succ,kP];rfl
theorem ZB (k:Nat):(jV k).length=k:=by unfold jV;simp
def spMk:Sp:=fun vs H Q _=>∃(m:Addr) (k:Nat),vs=[.ref m]/\H m=some (.lst (jV k))/\k<=100000/\Q (.int (k:Int)) (upd H m (.lst (jV (k+1))))
theorem z9Z:zr ["_law_marks"] ["_law_marks"] (zh (top 110)):=fsM
theorem zat (D:zx K mg "_law_mark" (top 110)) (G:Glo mg):FN P w K mg base 1 "_law_mark" ["_law_marks"] spMk:=by
 refine FN.o D z9Z fun f cdv A vY s H vs Q E hr h=>?_
 obtain ⟨m,k,rfl,hm,hk,q⟩:=h;refine ⟨_,z8 (zp (jC (pv 0) (z6 (zH zW rfl G.len qA (z6 (pv 0) z7)) z7)))
  (zi (zu (zZ zI (pv 0) (ZL jy zl) (fun _ _=>rfl)))),?_⟩
 symm
 refine ⟨.inl ⟨rfl,_,SqL.of hm⟩,m,_,rfl,.inl (SqL.of hm),m,_,_,rfl,rfl,hm,by rw [ZB];exact JP hk,?_⟩;rw [ZB,J1];refine ⟨1,rfl,m,_,_,.int (k:Int),rfl,rfl,SqL.of zc,?_,q⟩;rw [<-J1];exact z09 _ _
def z0h (K:kE):Sp:=fun vs H Q _=>∃(a t p:Addr) (ns:List Int) (c:Nat) (cells:List Int) (xs:List V),vs=[.ref a,.ref t,.ref p]/\Scr K H a (ns.map V.int)/\ns.length<=1000/\cells.length=ns.length/\H t=some (.lst (qS c cells))/\c<=100000/\H p=some (.lst xs)/\p≠t/\1<=xs.length/\xs.length<=1000/\
 ∀(v:V) (cells':List Int) H',v∈xs->cells'.length=ns.length->H' t=some (.lst (qS (c+1) cells'))->jc H H' t->Q v H'
theorem za2:zr ["_law_script","_law_town_here","_law_some"] ["_law_script","_law_town_here","_law_some"] (zh (top 107)):=fsM
theorem z7u (D:zx K mg "_law_pick" (top 107)) (G:Glo mg) (FD:FN P w K mg base 1 "_law_draw" Vd (z0k K)):FN P w K mg base 2 "_law_pick" ["_law_script","_law_town_here","_law_some"] (z0h K):=by
 refine FN.o D za2 fun f cdv A vY s H vs Q E hr h=>?_
 obtain ⟨a,t,p,ns,c,cells,xs,rfl,hS,hns,hcl,hT,hc,hp,hpt,hx1,hx2,q⟩:=h;refine ⟨_,zi (zu (zZ zI (pv 2) (zw FD hr rfl (z6 (pv 0) (z6 (pv 1) (z6 (zH zW rfl G.len qA (z6 (pv 2) z7)) z7)))) (fun _ _=>rfl))),?_⟩
 symm
 refine ⟨p,_,rfl,.inl (SqL.of hp),a,t,ns,c,cells,_,rfl,hS,hns,hcl,hT,hc,by lia,by lia,fun i cells' H' h0 h1 hl' hT' k'=>?_⟩;obtain ⟨j,rfl⟩:=yf h0;have hj:j < xs.length:=by lia
 exact ⟨p,_,_,xs[j],rfl,rfl,SqL.of (k' p _ hp hpt),zy (kQ hj),q _ cells' H' (List.getElem_mem hj) hl' hT' k'⟩
def z17 (K:kE):Sp:=fun vs H Q _=>∃(a t:Addr) (ns:List Int) (c:Nat) (cells:List Int),vs=[.ref a,.ref t]/\Scr K H a (ns.map V.int)/\ns.length<=1000/\cells.length=ns.length/\H t=some (.lst (qS c cells))/\c<=100000/\
 ∀(v:V) (cells':List Int) H',Zi v=true->okV v=true->cells'.length=ns.length->H' t=some (.lst (qS (c+1) cells'))->jc H H' t->Q v H'
theorem za1:zr ["_law_script","_law_town_here"] ["_law_script","_law_town_here"] (zh (top 108)):=fsM
theorem z0L:∀v∈([.int 0,.int 1,.int 2,.int 3,.int (-4),.int 7,.int (10 ^ (9:Int).toNat),.bl true,.bl false,.non,.str "Oops",.str "Zero"]:List V),Zi v=true/\okV v=true:=vV
theorem z5w (D:zx K mg "_law_const" (top 108)) (FP:FN P w K mg base 2 "_law_pick" ["_law_script","_law_town_here","_law_some"] (z0h K)):FN P w K mg base 3 "_law_const" Vc (z17 K):=by
 refine FN.o D za1 fun f cdv A vY s H vs Q E hr h=>?_
 obtain ⟨a,t,ns,c,cells,rfl,hS,hns,hcl,hT,hc,q⟩:=h;refine ⟨_,zi (zu (zw FP hr rfl (z6 (pv 0) (z6 (pv 1) (z6 (qe (z6 zl (z6 zl (z6 zl (z6 zl (z6 (ZL jy zl) (z6 zl (z6 (qa z3n zl zl) (z6 QT (z6 QT (z6 qk (z6 zq (z6 zq z7))))))))))))) z7))))),?_⟩
 symm
 refine ⟨4,rfl,_,_,rfl,rfl,⟨by decide,by decide,by decide⟩,vW,fun p hp=>?_⟩;have s1:=zo hp (.lst [.int 0,.int 1,.int 2,.int 3,.int (-4),.int 7,.int (10 ^ (9:Int).toNat),.bl true,.bl false,.non,.str "Oops",.str "Zero"]);refine ⟨a,t,p,ns,c,cells,_,rfl,hS.keep fun o u e=>s1 _ _ e,hns,hcl,s1 _ _ hT,hc,zc,(ze hT hp).symm,by show 1<=12;decide,by show 12<=1000;decide,fun v cells' H' hv hl' hT' k'=>?_⟩;exact q v cells' H' (z0L v hv).1 (z0L v hv).2 hl' hT' fun b o e hb=>k' b o (s1 _ _ e) hb
end
structure Pl where
 a:Addr
 t:Addr
 r:Addr
 m:Addr
 ns:List Int
structure GS (K:kE) (H:Hp) (p:Pl) (c:Nat) (rs:List Row) (k:Nat):Prop where
 scr:Scr K H p.a (p.ns.map V.int)
 nsl:p.ns.length<=1000
 town:∃cells:List Int,cells.length=p.ns.length/\H p.t=some (.lst (qS c cells))
 rows:∃as,H p.r=some (.lst (as.map V.ref))/\q0 H as rs
 marks:H p.m=some (.lst (jV k))
 tr:p.t≠p.r
 tm:p.t≠p.m
 rm:p.r≠p.m
structure Step (K:kE) (H H':Hp) (p:Pl) (c:Nat) (rs:List Row) (k:Nat) (c':Nat) (new:List Row) (k' B:Nat):Prop where
 gs:GS K H' p c' (rs++new) k'
 c1:c<=c'
 c2:c'<=c+B
 n:new.length<=B
 k1:k<=k'
 k2:k'<=k+B
 keep:zaB H H' p.t p.r p.m
section
variable {K:kE} {H H' H1 H2:Hp} {p:Pl} {c c1 c2 k k1 k2 B B1 B2:Nat} {rs n1 n2:List Row}
theorem Step.trans (s:Step K H H1 p c rs k c1 n1 k1 B1) (u:Step K H1 H2 p c1 (rs++n1) k1 c2 n2 k2 B2):Step K H H2 p c rs k c2 (n1++n2) k2 (B1+B2) where
 gs:=by have:=u.gs;rw [yd] at this;exact this
 c1:=kD s.c1 u.c1
 c2:=by have:=s.c2;have:=u.c2;lia
 n:=by have:=s.n;have:=u.n;rw [ku];lia
 k1:=kD s.k1 u.k1
 k2:=by have:=s.k2;have:=u.k2;lia
 keep:=fun b o e h1 h2 h3=>u.keep b o (s.keep b o e h1 h2 h3) h1 h2 h3
theorem Step.more (s:Step K H H1 p c rs k c1 n1 k1 B1) (h:B1<=B2):Step K H H1 p c rs k c1 n1 k1 B2:=
 ⟨s.gs,s.c1,by have:=s.c2;lia,by have:=s.n;lia,s.k1,by have:=s.k2;lia,s.keep⟩
theorem GS.refl (g:GS K H p c rs k):Step K H H p c rs k c [] k 0:=
 ⟨by rw [yc];exact g,ki _,ki _,ki _,ki _,ki _,fun _ _ e _ _ _=>e⟩
theorem GS.same (g:GS K H p c rs k) (s:Same H H'):GS K H' p c rs k:=by
 obtain ⟨cells,h1,h2⟩:=g.town;obtain ⟨as,h3,h4⟩:=g.rows;exact ⟨g.scr.keep fun _ _ e=>s _ _ e,g.nsl,⟨cells,h1,s _ _ h2⟩,⟨as,s _ _ h3,h4.same s⟩,s _ _ g.marks,g.tr,g.tm,g.rm⟩
theorem GS.draw (g:GS K H p c rs k) {cells':List Int} (hl:cells'.length=p.ns.length) (hT:H' p.t=some (.lst (qS (c+1) cells'))) (kp:jc H H' p.t):Step K H H' p c rs k (c+1) [] k 1:=by
 obtain ⟨cells,h1,h2⟩:=g.town;obtain ⟨as,h3,h4⟩:=g.rows;refine ⟨?_,by lia,by lia,by simp,ki _,by lia,fun b o e h1 _ _=>kp b o e h1⟩;rw [yc];exact ⟨g.scr.keep1 kp h2,g.nsl,⟨cells',hl,hT⟩,⟨as,kp _ _ h3 g.tr.symm,h4.keep fun b xs e=>kp b _ e (zL e h2 nofun)⟩,kp _ _ g.marks g.tm.symm,g.tr,g.tm,g.rm⟩
theorem GS.put (g:GS K H p c rs k) {x:Addr} (hx:H x=none) {op:Str} {v:V} {as:List Addr} (h3:H p.r=some (.lst (as.map V.ref))) (h4:q0 H as rs) {l:Int}:
  Step K H (upd (upd H x (.tup [.str op,v,.int l])) p.r (.lst (as.map V.ref++[.ref x]))) p c rs k c [⟨op,v,l⟩] k 1:=by
 obtain ⟨cells,h1,h2⟩:=g.town;have nr:∀b o,H b=some o->b≠x:=fun b o e=>ze e hx
 have kp:∀b o,H b=some o->b≠p.r->(upd (upd H x (.tup [.str op,v,.int l])) p.r (.lst (as.map V.ref++[.ref x]))) b=some o:=fun b o e hb=>by rw [zj hb,zj (nr b o e)];exact e
 have xr:x≠p.r:=(nr _ _ h3).symm;refine ⟨⟨g.scr.keep fun o u e=>kp _ _ e (zL e h3 nofun),g.nsl,⟨cells,h1,kp _ _ h2 g.tr⟩,⟨as++[x],by rw [kP];exact zc,?_⟩,kp _ _ g.marks g.rm.symm,g.tr,g.tm,g.rm⟩,ki _,by lia,by simp,ki _,by lia,fun b o e _ h2 _=>kp b o e h2⟩;refine q0.append (h4.keep fun b xs e=>kp b _ e (zL e h3 nofun)) (.cons ?_ .nil);rw [zj xr,zc];rfl
theorem GS.mk' (g:GS K H p c rs k):Step K H (upd H p.m (.lst (jV (k+1)))) p c rs k c [] (k+1) 1:=by
 obtain ⟨cells,h1,h2⟩:=g.town;obtain ⟨as,h3,h4⟩:=g.rows;have kp:∀b o,H b=some o->b≠p.m->(upd H p.m (.lst (jV (k+1)))) b=some o:=fun b o e hb=>by rw [zj hb];exact e
 refine ⟨?_,ki _,by lia,by simp,by lia,ki _,fun b o e _ _ h3=>kp b o e h3⟩;rw [yc];exact ⟨g.scr.keep fun o u e=>kp _ _ e (zL e g.marks nofun),g.nsl,⟨cells,h1,kp _ _ h2 g.tm⟩,⟨as,kp _ _ h3 g.rm,h4.keep fun b xs e=>kp b _ e (zL e g.marks nofun)⟩,zc,g.tr,g.tm,g.rm⟩
theorem jB (g:GS K H p c rs k) (hc:c<=100000) {many:Int} (h1:1<=many) (h2:many<=1000) {Q:VK} {E:XK} (h:∀i H',0<=i->i < many->Step K H H' p c rs k (c+1) [] k 1->Q (.int i) H'):z0k K [.ref p.a,.ref p.t,.int many] H Q E:=by
 obtain ⟨cells,e1,e2⟩:=g.town;exact ⟨p.a,p.t,p.ns,c,cells,many,rfl,g.scr,g.nsl,e1,e2,hc,h1,h2,fun i cells' H' a b l t kp=>h i H' a b (g.draw l t kp)⟩
theorem qU (g:GS K H p c rs k) (hc:c<=100000) {q:Addr} (hq:H q=none) {xs:List V} (h1:1<=xs.length) (h2:xs.length<=1000) {Q:VK} {E:XK} (h:∀v H',v∈xs->Step K H H' p c rs k (c+1) [] k 1->Q v H'):
  z0h K [.ref p.a,.ref p.t,.ref q] (upd H q (.lst xs)) Q E:=by
 have s1:=zo hq (.lst xs);have g1:=g.same s1;obtain ⟨cells,e1,e2⟩:=g1.town;obtain ⟨cells0,_,e20⟩:=g.town;exact ⟨p.a,p.t,q,p.ns,c,cells,xs,rfl,g1.scr,g1.nsl,e1,e2,hc,zc,(ze e20 hq).symm,h1,h2,fun v cells' H' hv l t kp=>h v H' hv (g.draw l t fun b o e hb=>kp b o (s1 _ _ e) hb)⟩
theorem QK (g:GS K H p c rs k) (hc:c<=100000) {Q:VK} {E:XK} (h:∀v H',Zi v=true->okV v=true->Step K H H' p c rs k (c+1) [] k 1->Q v H'):z17 K [.ref p.a,.ref p.t] H Q E:=by
 obtain ⟨cells,e1,e2⟩:=g.town;exact ⟨p.a,p.t,p.ns,c,cells,rfl,g.scr,g.nsl,e1,e2,hc,fun v cells' H' hv ho l t kp=>h v H' hv ho (g.draw l t kp)⟩
theorem qh (g:GS K H p c rs k) (hl:rs.length<=100000) {op:Str} {v:V} {Q:VK} {E:XK} (h:∀H',Step K H H' p c rs k c [⟨op,v,10+(rs.length:Int) / 2⟩] k 1->Q .non H'):z0g [.ref p.r,.str op,v] H Q E:=by
 obtain ⟨as,h3,h4⟩:=g.rows;have e:(as.map V.ref).length=rs.length:=by rw [kq];exact h4.len
 refine ⟨p.r,op,v,_,rfl,h3,by lia,fun x hx=>?_⟩;rw [e];exact h _ (g.put hx h3 h4)
theorem JC (g:GS K H p c rs k) (hk:k<=100000) {Q:VK} {E:XK} (h:∀H',Step K H H' p c rs k c [] (k+1) 1->Q (.int (k:Int)) H'):spMk [.ref p.m] H Q E:=⟨p.m,k,rfl,g.marks,hk,h _ g.mk'⟩
end
def PokR (op:Str) (v:V):Prop:=(op="push"->okV v=true)/\(op="store"\/op="load"->v∈([.str "a",.str "b",.str "c"]:List V))
def RowG (r:Row):Prop:=∃s,qg r.op=some s/\0<=r.line/\r.line<=9999/\PokR r.op r.arg/\((s="mark"/\∃m:Nat,r.arg=.int (m:Int))\/(s≠"mark"/\jj s r.arg=true))
noncomputable def JV (m:Nat) (r:Row):Bool:=decide (r.op="label")&&decide (r.arg=.int (m:Int))
noncomputable def JU (m:Nat) (r:Row):Bool:=decide (qg r.op=some ("mark":Str))&&decide (r.op≠"label")&&decide (r.arg=.int (m:Int))
noncomputable def lab (m:Nat) (l:List Row):Nat:=l.countP (JV m)
noncomputable def use (m:Nat) (l:List Row):Nat:=l.countP (JU m)
theorem qc (m:Nat) (a b:List Row):lab m (a++b)=lab m a+lab m b:=List.countP_append
theorem Zd (m:Nat) (a b:List Row):use m (a++b)=use m a+use m b:=List.countP_append
structure Good (k k':Nat) (l:List Row):Prop where
 row:∀r∈l,RowG r
 lab1:∀m,lab m l<=1
 labI:∀m,lab m l≠0->k<=m/\m < k'
 useI:∀m,use m l≠0->lab m l≠0
 labA:∀m,k<=m->m < k'->lab m l≠0
theorem Good.nil (k:Nat):Good k k []:=⟨(fun _ h=>by cases h),fun _=>vi _,fun _ h=>vd rfl h,fun _ h=>vd rfl h,fun _ _ _=>by lia⟩
theorem Good.app {k k1 k2:Nat} {a b:List Row} (x:Good k k1 a) (y:Good k1 k2 b) (h1:k<=k1) (h2:k1<=k2):Good k k2 (a++b):=by
 refine ⟨fun r hr=>(ya.mp hr).elim (x.row r) (y.row r),fun m=>?_,fun m h=>?_,fun m h=>?_,fun m ha hb=>?_⟩
 ·have:=x.lab1 m;have:=y.lab1 m;have:=x.labI m;have:=y.labI m
  rw [qc];lia
 ·have:=x.labI m;have:=y.labI m
  rw [qc] at h;lia
 ·have:=x.useI m;have:=y.useI m
  rw [Zd] at h;rw [qc];lia
 ·have:=x.labA m;have:=y.labA m
  rw [qc];lia
def Bare (op:Str) (v:V):Prop:=∃s,qg op=some s/\s≠"mark"/\jj s v=true/\PokR op v
theorem Bare.noLab {op:Str} {v:V} (h:Bare op v) (m:Nat) (l:Int):lab m [⟨op,v,l⟩]=0:=by
 obtain ⟨s,hs,hm,_⟩:=h;have:op≠"label":=fun z=>hm (by rw [z,ZC] at hs;exact (kH hs).symm)
 unfold lab;rw [vL];have:JV m ⟨op,v,l⟩=false:=by unfold JV;simp [this]
 rw [this];rfl
theorem Bare.noUse {op:Str} {v:V} (h:Bare op v) (m:Nat) (l:Int):use m [⟨op,v,l⟩]=0:=by
 obtain ⟨s,hs,hm,_⟩:=h;unfold use;rw [vL];have:JU m ⟨op,v,l⟩=false:=by
  unfold JU;rw [hs];have:¬(some s=some ("mark":Str)):=fun z=>hm (kH z)
  simp [this]
 rw [this];rfl
theorem Bare.rowG {op:Str} {v:V} (h:Bare op v) {l:Int} (h0:0<=l) (h1:l<=9999):RowG ⟨op,v,l⟩:=by
 obtain ⟨s,hs,hm,hf,hp⟩:=h;exact ⟨s,hs,h0,h1,hp,.inr ⟨hm,hf⟩⟩
theorem Bare.good {op:Str} {v:V} (h:Bare op v) {l:Int} (h0:0<=l) (h1:l<=9999) (k:Nat):Good k k [⟨op,v,l⟩]:=
 ⟨fun r hr=>by rw [kz.mp hr];exact h.rowG h0 h1,fun m=>by rw [h.noLab];exact vi _,fun m z=>vd (h.noLab m l) z,fun m z=>vd (h.noUse m l) z,fun m _ _=>by lia⟩
def Uses (op:Str):Prop:=qg op=some ("mark":Str)/\op≠"label"
theorem Uses.noLab {op:Str} (h:Uses op) (m:Nat) (v:V) (l:Int):lab m [⟨op,v,l⟩]=0:=by
 unfold lab;rw [vL];have:JV m ⟨op,v,l⟩=false:=by unfold JV;simp [h.2]
 rw [this];rfl
noncomputable def ind (m j:Nat):Nat:=if m=j then 1 else 0
theorem zT (m j:Nat):(m=j/\ind m j=1)\/(m≠j/\ind m j=0):=by
 unfold ind;by_cases e:m=j <;> simp [e]
theorem Uses.use {op:Str} (h:Uses op) (m j:Nat) (l:Int):use m [⟨op,.int (j:Int),l⟩]=ind m j:=by
 unfold My.use ind;rw [vL];have:JU m ⟨op,.int (j:Int),l⟩=decide (m=j):=by
  unfold JU;rw [h.1];have:(V.int (j:Int)=V.int (m:Int))↔m=j:=⟨fun z=>by injection z with z;lia,fun z=>by rw [z]⟩
  simp [h.2,this]
 rw [this];by_cases e:m=j <;> simp [e]
theorem Uses.rowG {op:Str} (h:Uses op) {j:Nat} {l:Int} (h0:0<=l) (h1:l<=9999):RowG ⟨op,.int (j:Int),l⟩:=⟨"mark",h.1,h0,h1,⟨fun z=>vd (show qg "push"=some ("mark":Str) from (show op="push" from z)▸h.1) vV,fun z=>by rcases z with z | z;exact vd (show qg "store"=some ("mark":Str) from (show op="store" from z)▸h.1) vV;exact vd (show qg "load"=some ("mark":Str) from (show op="load" from z)▸h.1) vV⟩,.inl ⟨rfl,j,rfl⟩⟩
theorem qq (m j:Nat) (l:Int):lab m [⟨"label",.int (j:Int),l⟩]=ind m j:=by
 unfold lab ind;rw [vL];have:JV m ⟨"label",.int (j:Int),l⟩=decide (m=j):=by
  unfold JV;have:(V.int (j:Int)=V.int (m:Int))↔m=j:=⟨fun z=>by injection z with z;lia,fun z=>by rw [z]⟩
  simp [this]
 rw [this];by_cases e:m=j <;> simp [e]
theorem ZI (m:Nat) (v:V) (l:Int):use m [⟨"label",v,l⟩]=0:=by
 unfold use;rw [vL];have:JU m ⟨"label",v,l⟩=false:=by unfold JU;simp
 rw [this];rfl
theorem qJ {j:Nat} {l:Int} (h0:0<=l) (h1:l<=9999):RowG ⟨"label",.int (j:Int),l⟩:=⟨"mark",ZC,h0,h1,⟨fun z=>vd z (show ("label":Str)≠"push" by trivial),fun z=>by rcases z with z | z;exact vd z (show ("label":Str)≠"store" by trivial);exact vd z (show ("label":Str)≠"load" by trivial)⟩,.inl ⟨rfl,j,rfl⟩⟩
theorem Ty.cast {δ δ':Int} {su:Bool} {k k':Nat} {l:List Row} (x:Ty δ su k k' l) (h:δ=δ'):Ty δ' su k k' l:=h▸x
noncomputable def bV:Nat->Nat
 | 0=>3
 | d+1=>2 * bV d+25
theorem Jw:∀d,3<=bV d
 | 0=>ki _
 | d+1=>by have:=Jw d;show 3<=2 * bV d+25;lia
theorem qu (m:Nat):lab m []=0:=rfl
theorem Qd (m:Nat):use m []=0:=rfl
def AllG (l:List Row):Prop:=∀r∈l,RowG r
theorem AllG.nil:AllG []:=fun _ h=>by cases h
theorem AllG.app {a b:List Row} (x:AllG a) (y:AllG b):AllG (a++b):=fun r hr=>(ya.mp hr).elim (x r) (y r)
theorem AllG.one {r:Row} (h:RowG r):AllG [r]:=fun x hx=>by rw [kz.mp hx];exact h
theorem Qy:Uses "try":=⟨vV,vV⟩
theorem qt:Uses "jump":=⟨vV,vV⟩
theorem z0e:Uses "iffalse":=⟨vV,vV⟩
theorem z88:Uses "iftrue":=⟨vV,vV⟩
theorem z86:Uses "ortrue":=⟨vV,vV⟩
theorem z87:Uses "orfalse":=⟨vV,vV⟩
theorem jk {op:Str} (h:qg op=some ("none":Str)):Bare op .non:=⟨"none",h,vV,vV,fun _=>rfl,fun z=>by rcases z with z | z;exact vd (show qg "store"=some ("none":Str) from z▸h) vV;exact vd (show qg "load"=some ("none":Str) from z▸h) vV⟩
theorem QF:Bare "endtry" .non:=jk vV
theorem z25:Bare "drop" .non:=jk vV
theorem ZH:Bare "tell" .non:=jk vV
theorem z9H:Bare "same" .non:=jk vV
theorem z4l:Bare "raise" .non:=jk vV
theorem QM:Bare "return" .non:=jk vV
theorem Jv {v:V} (h:Zi v=true) (ho:okV v=true):Bare "push" v:=⟨"value",vV,vV,by unfold jj;rw [kG rfl];exact h,fun _=>ho,fun z=>by rcases z with z | z <;> exact vd z vV⟩
theorem z0X {v:V} (h:v∈([.str "a",.str "b",.str "c"]:List V)):Bare "load" v:=⟨"name",vV,vV,by revert v;decide+kernel,fun z=>vd z vV,fun _=>h⟩
theorem z7W {v:V} (h:v∈([.str "a",.str "b",.str "c"]:List V)):Bare "store" v:=⟨"name",vV,vV,by revert v;decide+kernel,fun z=>vd z vV,fun _=>h⟩
theorem z7X {v:V} (h:v∈([.str "b",.str "c"]:List V)):Bare "clear" v:=⟨"name",vV,vV,by revert v;decide+kernel,fun z=>vd z vV,fun z=>by rcases z with z | z <;> exact vd z vV⟩
theorem ZO {s:Str} {i lo hi:Int} (h:∀x,jj s x=qX x lo hi) (h0:lo<=i) (h1:i<=hi):jj s (.int i)=true:=by
 rw [h];show (decide (lo<=i)&&decide (i<=hi))=true;rw [ko h0,ko h1];rfl
theorem z9G {i:Int} (h0:2<=i) (h1:i<=9):Bare "swap" (.int i):=⟨"swapped",vV,vV,ZO (fun x=>by
 unfold jj;rw [kF vV,kF vV,kF vV,kG rfl];rfl) h0 h1,fun z=>vd z vV,fun z=>by rcases z with z | z <;> exact vd z vV⟩
theorem z6s {i:Int} (h0:1<=i) (h1:i<=9):Bare "copy" (.int i):=⟨"copied",vV,vV,ZO (fun x=>by
 unfold jj;rw [kF vV,kF vV,kG rfl];rfl) h0 h1,fun z=>vd z vV,fun z=>by rcases z with z | z <;> exact vd z vV⟩
section
variable {K:kE} {H H' H1 H2:Hp} {p:Pl} {c c1 c2 k k1 k2 B B1 B2:Nat} {rs n1 n2:List Row}
theorem Step.tick (s:Step K H H1 p c rs k c1 n1 k1 B1) (u:Step K H1 H2 p c1 (rs++n1) k1 c2 [] k2 B2):Step K H H2 p c rs k c2 n1 k2 (B1+B2):=by
 have:=s.trans u
 rw [yc] at this;exact this
theorem Step.len (s:Step K H H1 p c rs k c1 n1 k1 B1):(rs++n1).length<=rs.length+B1:=by
 have:=s.n
 rw [ku];lia
end
def qH (K:kE) (C:Int->Nat->Prop) (δ:Int) (su:Bool):Sp:=fun vs H Q _=>∃(p:Pl) (c:Nat) (rs:List Row) (k:Nat) (e:Int) (B:Nat),vs=[.ref p.a,.ref p.t,.ref p.r,.ref p.m,.int e]/\C e B/\GS K H p c rs k/\c+B<=15000/\rs.length+B<=15000/\k+B<=15000/\
 ∀c' new k' H',Step K H H' p c rs k c' new k' B->Good k k' new->Ty δ su k k' new->Q .non H'
theorem jz {K:kE} {C:Int->Nat->Prop} {δ:Int} {su:Bool} (vs:List V) (H:Hp) (Q:VK) (E:XK) (h:qH K C δ su vs H Q E):vs.length=5:=by
 obtain ⟨p,c,rs,k,e,B,rfl,_⟩:=h;rfl
def CV (n:Nat) (e:Int) (B:Nat):Prop:=∃d:Nat,e=(d:Int)/\d < n/\B=bV d
def CTV (n:Nat) (e:Int) (B:Nat):Prop:=∃d:Nat,e=(d:Int)+1/\d < n/\B=bV d+7
def CMV (n:Nat) (_:Int) (B:Nat):Prop:=0 < n/\B=30
noncomputable abbrev gps:List Str:=["_law_script","_law_town_here","_law_rows","_law_marks","_law_deep"]
theorem zP {n:Nat} (h:n<=15000):(0:Int)<=10+(n:Int) / 2/\10+(n:Int) / 2<=9999:=by lia
section
structure jG (P:Program) (w:World) (K:kE) (mg:Str->Option Value) (base:Heap):Prop where
 draw:FN P w K mg base 1 "_law_draw" Vd (z0k K)
 pick:FN P w K mg base 2 "_law_pick" ["_law_script","_law_town_here","_law_some"] (z0h K)
 const:FN P w K mg base 3 "_law_const" Vc (z17 K)
 put3:FNd P w K mg base 1 "_law_put" Vg [] z0g
 put2:FNd P w K mg base 1 "_law_put" Vg [.non] z0g
 mark:FN P w K mg base 1 "_law_mark" ["_law_marks"] spMk
theorem z6M:zr ["_law_script","_law_town_here","_law_rows","_law_marks","_law_deep","_law_mark_here","_law_end"] gps (zh (top 112)):=fsM
theorem la31 {k ka kb kc m a b c i j:Nat} (a1:a<=1) (aI:a≠0->k+1+1<=m/\m < ka) (b1:b<=1) (bI:b≠0->ka<=m/\m < kb) (c1:c<=1) (cI:c≠0->kb<=m/\m < kc) (hi:m=k/\i=1\/m≠k/\i=0) (hj:m=k+1/\j=1\/m≠k+1/\j=0) (ha:k+1+1<=ka) (hb:ka<=kb):0+a+b+i+c+j<=1:=by lia
theorem la32 {k ka kb kc m a b c i j:Nat} (h:0+a+b+i+c+j≠0) (aI:a≠0->k+1+1<=m/\m < ka) (bI:b≠0->ka<=m/\m < kb) (cI:c≠0->kb<=m/\m < kc) (hi:m=k/\i=1\/m≠k/\i=0) (hj:m=k+1/\j=1\/m≠k+1/\j=0) (ha:k+1+1<=ka) (hb:ka<=kb) (hc:kb<=kc):k<=m/\m < kc:=by lia
theorem la34 {k ka kb kc m a b c i j:Nat} (h1:k<=m) (h2:m < kc) (aA:k+1+1<=m->m < ka->a≠0) (bA:ka<=m->m < kb->b≠0) (cA:kb<=m->m < kc->c≠0) (hi:m=k/\i=1\/m≠k/\i=0) (hj:m=k+1/\j=1\/m≠k+1/\j=0):0+a+b+i+c+j≠0:=by lia
theorem zao {n:Nat} (D:zx K mg "_law_tried_value" (top 112)) (S:jG P w K mg base) (FV:FN P w K mg base (3+2 * n) "_law_value" gps (qH K (CV n) 1 true)):FN P w K mg base (4+2 * n) "_law_tried_value" gps (qH K (CTV n) 1 true):=by
 have:=FN.of (k:=3+2 * n) (sp:=qH K (CTV n) 1 true) (P:=P) (w:=w) (base:=base) D z6M (fun _ _ _ _ _ _=>zU5 fun _ _ _ _ _=>rfl) jz (fun f cdv A vY s H vs Q E hr h=>?_)
 ·exact this.mono (by lia)
 obtain ⟨p,c,rs,k,e,B,rfl,⟨d,he,hd,hB⟩,g,bc,br,bk,q⟩:=h;have hr1:=hr.mono (show 1<=3+2 * n by lia);refine ⟨_,z8 (zK (i:=5) z6M.nd rfl (Or.inl rfl) (zw S.mark hr1 rfl (z6 (pvX 3) z7)))
  (z8 (zK (i:=6) z6M.nd rfl (Or.inl rfl) (zw S.mark hr1 rfl (z6 (pvX 3) z7)))
  (z8 (zp (zF S.put3 hr1 rfl (z6 (pvX 2) (z6 zq (z6 (pvX 5) z7)))))
  (z8 (zp (zw FV hr rfl (z6 (pvX 0) (z6 (pvX 1) (z6 (pvX 2) (z6 (pvX 3) (z6 (qa jD (pvX 4) zl) z7)))))))
  (z8 (zp (zF S.put2 hr1 rfl (z6 (pvX 2) (z6 zq z7))))
  (z8 (zp (zF S.put3 hr1 rfl (z6 (pvX 2) (z6 zq (z6 (pvX 6) z7)))))
  (z8 (zp (zF S.put3 hr1 rfl (z6 (pvX 2) (z6 zq (z6 (pvX 5) z7)))))
  (zi (zp (zF S.put3 hr1 rfl (z6 (pvX 2) (z6 zq (z6 (pvX 6) z7)))))))))))),?_⟩
 symm
 refine ⟨_,rfl,JC g (by lia) fun H1 s1=>?_⟩;refine ⟨_,rfl,JC s1.gs (by lia) fun H2 s2=>?_⟩;have t2:=s1.trans s2;refine ⟨_,rfl,_,rfl,qh t2.gs (by have:=t2.n;rw [ku];lia) fun H3 s3=>?_⟩;have t3:=t2.trans s3;refine ⟨_,rfl,_,rfl,_,rfl,_,rfl,_,rfl,_,_,rfl,rfl,p,_,_,_,_,bV d,rfl,⟨d,(by show e - 1=_;lia),hd,rfl⟩,t3.gs,(by have:=t3.c2;lia),(by have:=t3.n;rw [ku];lia),(by have:=t3.k2;lia),fun c4 n4 k4 H4 s4 g4 y4=>?_⟩;have t4:=t3.trans s4;refine ⟨_,rfl,qh t4.gs (by have:=t4.n;rw [ku];lia) fun H5 s5=>?_⟩;have t5:=t4.trans s5;refine ⟨_,rfl,_,rfl,qh t5.gs (by have:=t5.n;rw [ku];lia) fun H6 s6=>?_⟩;have t6:=t5.trans s6;refine ⟨_,rfl,_,rfl,qh t6.gs (by have:=t6.n;rw [ku];lia) fun H7 s7=>?_⟩;have t7:=t6.trans s7;refine ⟨_,rfl,_,rfl,qh t7.gs (by have:=t7.n;rw [ku];lia) fun H8 s8=>?_⟩;have t8:=t7.trans s8;have L2:=zP (n:=(rs++([]++[])).length) (by simp;lia);have L4:=zP (kD t4.len (by lia));have L5:=zP (kD t5.len (by lia));have L6:=zP (kD t6.len (by lia));have L7:=zP (kD t7.len (by lia));refine q _ _ _ _ (t8.more (by lia)) ⟨(((((((AllG.nil.app AllG.nil).app (AllG.one (Qy.rowG L2.1 L2.2))).app g4.row).app (AllG.one (QF.rowG L4.1 L4.2))).app (AllG.one (qt.rowG L5.1 L5.2))).app (AllG.one (qJ L6.1 L6.2))).app (AllG.one (qJ L7.1 L7.2))),fun m=>?_,fun m h=>?_,fun m h=>?_,fun m ha hb=>?_⟩ (Ty.triedv y4 s4.k1 _ _ _ _ _)
 ·simp only [qc,qu,qq,Qy.noLab,QF.noLab,qt.noLab];exact la31 (b:=0) (c:=0) (kb:=k4) (kc:=k4) (g4.lab1 m) (g4.labI m) (vi 1) (fun z=>vd rfl z) (vi 1) (fun z=>vd rfl z) (zT m k) (zT m (k+1)) s4.k1 (ki _)
 ·simp only [qc,qu,qq,Qy.noLab,QF.noLab,qt.noLab] at h;exact la32 (b:=0) (c:=0) (kb:=k4) h (g4.labI m) (fun z=>vd rfl z) (fun z=>vd rfl z) (zT m k) (zT m (k+1)) s4.k1 (ki _) (ki _)
 ·simp only [Zd,Qd,ZI,Qy.use,QF.noUse,qt.use] at h;simp only [qc,qu,qq,Qy.noLab,QF.noLab,qt.noLab];have:=g4.useI m
  lia
 ·simp only [qc,qu,qq,Qy.noLab,QF.noLab,qt.noLab];exact la34 (b:=0) (c:=0) (kb:=k4) ha hb (g4.labA m) (fun x y=>vd y (Nat.not_lt.mpr x)) (fun x y=>vd y (Nat.not_lt.mpr x)) (zT m k) (zT m (k+1))
end
set_option maxHeartbeats 8000000
section
variable {k k1:Nat} {n1:List Row}
theorem Good.put (g:Good k k1 n1) (hk:k<=k1) {op:Str} {v:V} (h:Bare op v) {l:Int} (h0:0<=l) (h1:l<=9999):Good k k1 (n1++[⟨op,v,l⟩]):=g.app (h.good h0 h1 k1) hk (ki _)
end
section
theorem z39:zr ["_law_script","_law_town_here","_law_rows","_law_marks","_law_deep","_law_many","_law_k"] gps (zh (top 113)):=fsM
theorem z2g {v:V} (h:v∈([.str "drop",.str "tell",.str "same"]:List V)):∃op,v=.str op/\Bare op .non/\(Zu op 1 0\/Zu op 2 1):=by
 rcases kJ.mp h with e | h
 ·exact ⟨_,e,z25,.inl (jm _ (by simp))⟩
 ·rcases kJ.mp h with e | h
  ·exact ⟨_,e,ZH,.inl (jm _ (by simp))⟩
  ·exact ⟨_,kz.mp h,z9H,.inr (Qs _ (by simp))⟩
def MvI (K:kE) (H:Hp) (p:Pl) (c:Nat) (rs:List Row) (k:Nat) (e many:Int) (B:Nat) (δ:Int) (σ:L2.St) (H2:Hp):Prop:=∃v c' new k',σ=[some (.ref p.a),some (.ref p.t),some (.ref p.r),some (.ref p.m),some (.int e),some (.int many),v]/\Step K H H2 p c rs k c' new k' B/\Good k k' new/\Ty δ true k k' new
theorem z9k {n:Nat} (D:zx K mg "_law_moved_value" (top 113)) (G:Glo mg) (S:jG P w K mg base) (FV:FN P w K mg base (3+2 * n) "_law_value" gps (qH K (CV n) 1 true)):FN P w K mg base (4+2 * n) "_law_moved_value" gps (qH K (CMV n) 1 true):=by
 have:=FN.of (k:=3+2 * n) (sp:=qH K (CMV n) 1 true) (P:=P) (w:=w) (base:=base) D z39 (fun _ _ _ _ _ _=>zU5 fun _ _ _ _ _=>rfl) jz (fun f cdv A vY s H vs Q E hr h=>?_)
 ·exact this.mono (by lia)
 obtain ⟨p,c,rs,k,e,B,rfl,⟨hn,hB⟩,g,bc,br,bk,q⟩:=h;have hr1:=hr.mono (show 1<=3+2 * n by lia);have hr2:=hr.mono (show 2<=3+2 * n by lia);refine ⟨_,z8 (zK (i:=5) z39.nd rfl (Or.inl rfl) (qa js zl (zw S.draw hr1 rfl (z6 (pvX 0) (z6 (pvX 1) (z6 zl z7))))))
  (z8 (jI vn rfl (j5 rfl G.range (z6 (pvX 5) z7)) (zC (i:=6) z39.nd rfl (Or.inl rfl)) (zi (zp (zw FV hr rfl (z6 (pvX 0) (z6 (pvX 1) (z6 (pvX 2) (z6 (pvX 3) (z6 zl z7)))))))))
  (z8 (jI vn rfl (j5 rfl G.range (z6 (zw S.draw hr1 rfl (z6 (pvX 0) (z6 (pvX 1) (z6 zl z7)))) z7)) (zC (i:=6) z39.nd rfl (Or.inl rfl))
   (zi (zp (zF S.put3 hr1 rfl (z6 (pvX 2) (z6 zq (z6 (qa js zl (zw S.draw hr1 rfl (z6 (pvX 0) (z6 (pvX 1) (z6 (qa jD (pvX 5) zl) z7))))) z7)))))))
  (z8 (zY (zt qM (zw S.draw hr1 rfl (z6 (pvX 0) (z6 (pvX 1) (z6 zl z7)))) zl (zA _))
   (z8 (zp (zF S.put3 hr1 rfl (z6 (pvX 2) (z6 zq (z6 (qa js zl (zw S.draw hr1 rfl (z6 (pvX 0) (z6 (pvX 1) (z6 (pvX 5) z7))))) z7)))))
    (zi (zp (zF S.put2 hr1 rfl (z6 (pvX 2) (z6 zq z7)))))) zE)
  (zi (jI vn rfl (j5 rfl G.range (z6 (qa jD (pvX 5) zl) z7)) (zC (i:=6) z39.nd rfl (Or.inl rfl))
   (zi (zp (zF S.put2 hr1 rfl (z6 (pvX 2) (z6 (zw S.pick hr2 rfl (z6 (pvX 0) (z6 (pvX 1) (z6 (qe (z6 zq (z6 zq (z6 zq z7)))) z7)))) z7)))))))))),?_⟩
 symm
 refine ⟨_,rfl,_,rfl,jB g (by lia) (by decide) (by decide) fun i0 H1 i00 i01 s1=>?_⟩;refine ⟨_,_,rfl,rfl,?_⟩;have hm0:2<=2+i0/\2+i0<=4:=⟨by lia,by lia⟩
 show tSeq _ _ _ [some (.ref p.a),some (.ref p.t),some (.ref p.r),some (.ref p.m),some (.int e),some (.int (2+i0)),none] H1;generalize (2+i0:Int)=many at *;refine ⟨_,rfl,many,rfl,by lia,by lia,ji (lo:=0) (n:=many.toNat) (fun i=>MvI K H p c rs k e many (1+3 * i) (i:Int))
  ⟨none,_,_,_,rfl,s1,Good.nil k,Ty.nil k⟩ ?_ ?_⟩
 ·rintro i σ H2 hi ⟨v,c',new,k',rfl,st,gd,ty⟩;have l:=st.len;refine ⟨_,rfl,_,rfl,_,rfl,_,rfl,p,_,_,_,_,3,rfl,⟨0,rfl,hn,rfl⟩,st.gs,(by have:=st.c2;lia),(by lia),(by have:=st.k2;lia),fun c4 n4 k4 H4 s4 g4 y4=>?_⟩;exact ⟨_,c4,new++n4,k4,rfl,(st.trans s4).more (by lia),gd.app g4 st.k1 s4.k1,(ty.app y4 st.k1 s4.k1 (by lia)).cast (by lia)⟩
 rintro σ H2 ⟨v,c2,n2,k2,rfl,t2,g2,y2⟩;have y2:=y2.cast (show ((many.toNat:Nat):Int)=many by lia);have t2:=t2.more (show _<=13 by lia);have l2:=t2.len;refine ⟨_,rfl,_,rfl,jB t2.gs (kD t2.c2 (by lia)) (by decide) (by decide) fun j0 H3 j00 j01 s3=>?_⟩;have t3:=t2.tick s3;refine ⟨j0,rfl,by lia,by lia,ji (lo:=0) (n:=j0.toNat) (fun i=>MvI K H p c rs k e many (14+2 * i) many)
  ⟨v,_,_,_,rfl,t3,g2,y2⟩ ?_ ?_⟩
 ·rintro i σ H2 hi ⟨v,c',new,k',rfl,st,gd,ty⟩;have l:=st.len;refine ⟨_,rfl,_,rfl,_,rfl,_,rfl,_,_,rfl,rfl,jB st.gs (kD st.c2 (by lia)) (by show 1<=many - 1;lia) (by show many - 1<=1000;lia) fun x H4 x0 x1 s4=>?_⟩;have x1:x < many - 1:=x1;have t4:=st.tick s4;have l4:=t4.len;refine ⟨_,_,rfl,rfl,qh t4.gs (by lia) fun H5 s5=>?_⟩;have L:=zP (show (rs++new).length<=15000 by lia);exact ⟨_,_,_,_,rfl,(t4.trans s5).more (by lia),gd.put st.k1 (z9G (by lia) (by lia)) L.1 L.2,(ty.deep z7N (n:=2+x) (by lia) _).cast (by lia)⟩
 rintro σ H4 ⟨v4,c4,n4,k4,rfl,t4,g4,y4⟩;have t4:=t4.more (show _<=20 by lia);have l4:=t4.len;have last:∀{v5:Option V} {c5:Nat} {n5:List Row} {k5:Nat} {H5:Hp},Step K H H5 p c rs k c5 n5 k5 24->Good k k5 n5->Ty many true k k5 n5->
   tFor (z9b (jl (tOp (rI0 fun i j=>.int (i - j)) (z29 5) (tC (.int 1))) tNil)) (z0C 6) (z8f (z2Q z0g [.non] E0 (jl (z29 2) (jl (z2Q (z0h K) [] E0 (jl (z29 0) (jl (z29 1) (jl (tLst (jl (tC (.str "drop")) (jl (tC (.str "tell")) (jl (tC (.str "same")) tNil)))) tNil)))) tNil))))
    { nx:=fun _ H'=>Q .non H',rt:=Q } [some (.ref p.a),some (.ref p.t),some (.ref p.r),some (.ref p.m),some (.int e),some (.int many),v5] H5:=by
  intro v5 c5 n5 k5 H5 t5 g5 y5;refine ⟨_,rfl,_,_,rfl,rfl,many - 1,rfl,by lia,by lia,ji (lo:=0) (n:=(many - 1).toNat) (fun i=>MvI K H p c rs k e many (24+2 * i) (many - i))
   ⟨v5,_,_,_,rfl,t5,g5,y5.cast (by lia)⟩ ?_ ?_⟩
  ·rintro i σ H2 hi ⟨v,c',new,k',rfl,st,gd,ty⟩;have l:=st.len;refine ⟨_,rfl,_,rfl,_,rfl,vW,fun x hx=>?_⟩;refine qU st.gs (kD st.c2 (by lia)) hx (by show 1<=3;decide) (by show 3<=1000;decide) fun y H6 hy s6=>?_
   obtain ⟨op,rfl,hb,hpl⟩:=z2g hy;have t6:=st.tick s6;have l6:=t6.len;refine qh t6.gs (by lia) fun H7 s7=>?_
   have L:=zP (show (rs++new).length<=15000 by lia);exact ⟨_,_,_,_,rfl,(t6.trans s7).more (by lia),gd.put st.k1 hb L.1 L.2,hpl.elim (fun z=>(ty.row z (by lia) _ _).cast (by lia)) (fun z=>(ty.row z (by lia) _ _).cast (by lia))⟩
  ·rintro σ H2 ⟨v,c',new,k',rfl,st,gd,ty⟩;exact q _ _ _ _ (st.more (by lia)) gd (ty.cast (by lia))
 refine ⟨_,rfl,_,rfl,jB t4.gs (kD t4.c2 (by lia)) (by decide) (by decide) fun y0 H5 y00 y01 s5=>?_⟩;have t5:=t4.tick s5;have l5:=t5.len;refine ⟨rfl,_,rfl,?_⟩;refine ite2 (fun _=>?_) (fun _=>last (t5.more (by lia)) g4 y4);refine ⟨_,rfl,_,rfl,_,rfl,_,rfl,jB t5.gs (kD t5.c2 (by lia)) (by lia) (by lia) fun z H6 z0 z1 s6=>?_⟩;have t6:=t5.tick s6;have l6:=t6.len;refine ⟨_,_,rfl,rfl,qh t6.gs (by lia) fun H7 s7=>?_⟩;have t7:=t6.trans s7;have l7:=t7.len;refine ⟨_,rfl,qh t7.gs (by lia) fun H8 s8=>?_⟩;have L6:=zP (show (rs++n4).length<=15000 by lia);have L7:=zP (kD t7.len (show _<=15000 by lia));exact last ((t7.trans s8).more (by lia)) ((g4.put t4.k1 (z6s (by lia) (by lia)) L6.1 L6.2).put t4.k1 z25 L7.1 L7.2) (((y4.deep z3Z (n:=1+z) (by lia) _).row (jm _ (by simp)) (by lia) _ _).cast (by lia))
end
section
theorem z6N:zr ["_law_script","_law_town_here","_law_rows","_law_marks","_law_deep","_law_way","_law_mark_here"] gps (zh (top 111)):=fsM
theorem QR {v:V} {a b:Str} (h:v∈([.str a,.str b]:List V)) {R:Str->Prop} (ha:R a) (hb:R b):∃op,v=.str op/\R op/\op∈[a,b]:=by
 rcases kJ.mp h with e | h
 ·exact ⟨_,e,ha,by simp⟩
 ·exact ⟨_,kz.mp h,hb,by simp⟩
theorem z2f {v:V} (h:v∈([.str "add",.str "sub",.str "mul",.str "div",.str "rest",.str "less",.str "same"]:List V)):∃op,v=.str op/\Bare op .non/\Zu op 2 1:=by
 have all:∀v∈([.str "add",.str "sub",.str "mul",.str "div",.str "rest",.str "less",.str "same"]:List V),∃op,v=.str op/\qg op=some ("none":Str)/\Zu op 2 1:=by
  intro v h;simp only [kJ,kC,or_false] at h;rcases h with rfl | rfl | rfl | rfl | rfl | rfl | rfl
  all_goals exact ⟨_,rfl,vV,Qs _ (by simp)⟩
 obtain ⟨op,e,hs,hp⟩:=all v h;exact ⟨op,e,jk hs,hp⟩
theorem fn_v {n:Nat} (D:zx K mg "_law_value" (top 111)) (S:jG P w K mg base) (FV:FN P w K mg base (3+2 * n) "_law_value" gps (qH K (CV n) 1 true)) (FT:FN P w K mg base (4+2 * n) "_law_tried_value" gps (qH K (CTV n) 1 true))
  (FM:FN P w K mg base (4+2 * n) "_law_moved_value" gps (qH K (CMV n) 1 true)):FN P w K mg base (3+2 * (n+1)) "_law_value" gps (qH K (CV (n+1)) 1 true):=by
 have:=FN.of (k:=4+2 * n) (sp:=qH K (CV (n+1)) 1 true) (P:=P) (w:=w) (base:=base) D z6N (fun _ _ _ _ _ _=>zU5 fun _ _ _ _ _=>rfl) jz (fun f cdv A vY s H vs Q E hr h=>?_)
 ·exact this.mono (by lia)
 obtain ⟨p,c,rs,k,e,B,rfl,⟨d,he,hd,hB⟩,g,bc,br,bk,q⟩:=h;have hr1:=hr.mono (show 1<=4+2 * n by lia);have hr2:=hr.mono (show 2<=4+2 * n by lia);have hr3:=hr.mono (show 3<=4+2 * n by lia);have hrV:=hr.mono (show 3+2 * n<=4+2 * n by lia);have hb3:=Jw d;refine ⟨_,z8 (zK (i:=5) z6N.nd rfl (Or.inl rfl) (j6 (zt Jf (pvX 4) zl (zA _)) (zw S.draw hr1 rfl (z6 (pvX 0) (z6 (pvX 1) (z6 zl z7)))) (zw S.draw hr1 rfl (z6 (pvX 0) (z6 (pvX 1) (z6 zl z7))))))
  (zi (zY (zt Je (pvX 5) zl (zA _)) (zi (zp (zF S.put3 hr1 rfl (z6 (pvX 2) (z6 zq (z6 (zw S.const hr3 rfl (z6 (pvX 0) (z6 (pvX 1) z7))) z7))))))
  (zi (zY (zt Je (pvX 5) zl (zA _)) (zi (zp (zF S.put3 hr1 rfl (z6 (pvX 2) (z6 zq (z6 (zw S.pick hr2 rfl (z6 (pvX 0) (z6 (pvX 1) (z6 (qe (z6 zq (z6 zq (z6 zq z7)))) z7)))) z7))))))
  (zi (zY (zt Je (pvX 5) zl (zA _))
   (z8 (zp (zw FV hrV rfl (z6 (pvX 0) (z6 (pvX 1) (z6 (pvX 2) (z6 (pvX 3) (z6 (qa jD (pvX 4) zl) z7)))))))
   (z8 (zp (zw FV hrV rfl (z6 (pvX 0) (z6 (pvX 1) (z6 (pvX 2) (z6 (pvX 3) (z6 (qa jD (pvX 4) zl) z7)))))))
   (zi (zp (zF S.put2 hr1 rfl (z6 (pvX 2) (z6 (zw S.pick hr2 rfl (z6 (pvX 0) (z6 (pvX 1) (z6 (qe (z6 zq (z6 zq (z6 zq (z6 zq (z6 zq (z6 zq (z6 zq z7)))))))) z7)))) z7)))))))
  (zi (zY (zt qM (pvX 5) zl (zA _))
   (z8 (zp (zw FV hrV rfl (z6 (pvX 0) (z6 (pvX 1) (z6 (pvX 2) (z6 (pvX 3) (z6 (qa jD (pvX 4) zl) z7)))))))
   (zi (zp (zF S.put2 hr1 rfl (z6 (pvX 2) (z6 (zw S.pick hr2 rfl (z6 (pvX 0) (z6 (pvX 1) (z6 (qe (z6 zq (z6 zq z7))) z7)))) z7))))))
  (zi (zY (zt qM (pvX 5) zl (zA _))
   (z8 (zK (i:=6) z6N.nd rfl (Or.inl rfl) (zw S.mark hr1 rfl (z6 (pvX 3) z7)))
   (z8 (zp (zw FV hrV rfl (z6 (pvX 0) (z6 (pvX 1) (z6 (pvX 2) (z6 (pvX 3) (z6 (qa jD (pvX 4) zl) z7)))))))
   (z8 (zp (zF S.put3 hr1 rfl (z6 (pvX 2) (z6 (zw S.pick hr2 rfl (z6 (pvX 0) (z6 (pvX 1) (z6 (qe (z6 zq (z6 zq z7))) z7)))) (z6 (pvX 6) z7)))))
   (z8 (zp (zw FV hrV rfl (z6 (pvX 0) (z6 (pvX 1) (z6 (pvX 2) (z6 (pvX 3) (z6 (qa jD (pvX 4) zl) z7)))))))
   (zi (zp (zF S.put3 hr1 rfl (z6 (pvX 2) (z6 zq (z6 (pvX 6) z7))))))))))
  (zi (zY (zt qM (pvX 5) zl (zA _))
   (zi (zp (zw FT hr rfl (z6 (pvX 0) (z6 (pvX 1) (z6 (pvX 2) (z6 (pvX 3) (z6 (pvX 4) z7))))))))
   (zi (zp (zw FM hr rfl (z6 (pvX 0) (z6 (pvX 1) (z6 (pvX 2) (z6 (pvX 3) (z6 (pvX 4) z7)))))))))))))))))))) ,?_⟩
 symm
 refine ⟨_,rfl,_,_,rfl,rfl,_,rfl,?_⟩;refine ite2 (fun c0=>?_) (fun c0=>?_);all_goals
  refine ⟨_,rfl,_,rfl,jB g (by lia) (by decide) (by decide) fun i H1 i0 i1 s1=>?_⟩;have i12:i < 12:=by lia
  have i4:e<=0->i < 4:=fun z=>by
   first
    | exact i1
    | (have:=kI c0;lia)
  have l1:=s1.len;refine ⟨_,rfl,_,_,rfl,rfl,_,rfl,?_⟩;refine ite2 (fun c1=>?_) (fun c1=>?_)
  ·refine ⟨_,rfl,_,rfl,_,rfl,QK s1.gs (kD s1.c2 (by lia)) fun v H2 hv hvo s2=>?_⟩;have t2:=s1.tick s2;have l2:=t2.len;refine qh t2.gs (by lia) fun H3 s3=>?_
   have L:=zP (kD t2.len (show _<=15000 by lia));exact q _ _ _ _ ((t2.trans s3).more (by lia)) ((Good.nil k).put (ki _) (Jv hv hvo) L.1 L.2) (((Ty.nil k).row JF (by decide) _ _).cast (by decide))
  ·refine ⟨_,rfl,_,_,rfl,rfl,_,rfl,?_⟩;refine ite2 (fun c2=>?_) (fun c2=>?_)
   ·refine ⟨_,rfl,_,rfl,_,rfl,vW,fun x hx=>?_⟩;refine qU s1.gs (kD s1.c2 (by lia)) hx (by show 1<=3;decide) (by show 3<=1000;decide) fun v H2 hv s2=>?_
    have t2:=s1.tick s2;have l2:=t2.len;refine qh t2.gs (by lia) fun H3 s3=>?_
    have L:=zP (kD t2.len (show _<=15000 by lia));exact q _ _ _ _ ((t2.trans s3).more (by lia)) ((Good.nil k).put (ki _) (z0X hv) L.1 L.2) (((Ty.nil k).row z1f (by decide) _ _).cast (by decide))
   ·have c2:¬i < 4:=fun z=>c2 (ko z)
    have e0:¬e<=0:=fun z=>c2 (i4 z)
    obtain ⟨d',rfl⟩:∃d',d=d'+1:=⟨d - 1,by lia⟩
    have eB:bV (d'+1)=2 * bV d'+25:=rfl;have cv:CV n (e - 1) (bV d'):=⟨d',by lia,by lia,rfl⟩
    refine ⟨_,rfl,_,_,rfl,rfl,_,rfl,?_⟩;refine ite2 (fun c3=>?_) (fun c3=>?_)
    ·refine ⟨_,rfl,_,rfl,_,rfl,_,rfl,_,rfl,_,_,rfl,rfl,p,_,_,_,_,bV d',rfl,cv,s1.gs,(by have:=s1.c2;lia),(by lia),(by have:=s1.k2;lia),fun c4 n4 k4 H4 s4 g4 y4=>?_⟩;have t4:=s1.trans s4;have l4:=t4.len;refine ⟨_,rfl,_,rfl,_,rfl,_,rfl,_,rfl,_,_,rfl,rfl,p,_,_,_,_,bV d',rfl,cv,t4.gs,(by have:=t4.c2;lia),(by lia),(by have:=t4.k2;lia),fun c5 n5 k5 H5 s5 g5 y5=>?_⟩;have t5:=t4.trans s5;have l5:=t5.len;refine ⟨_,rfl,_,rfl,_,rfl,vW,fun x hx=>?_⟩;refine qU t5.gs (kD t5.c2 (by lia)) hx (by show 1<=7;decide) (by show 7<=1000;decide) fun v H6 hv s6=>?_
     obtain ⟨op,rfl,hb,hpl⟩:=z2f hv;have t6:=t5.tick s6;refine qh t6.gs (kD t6.len (by lia)) fun H7 s7=>?_
     have L:=zP (kD t6.len (show _<=15000 by lia));exact q _ _ _ _ ((t6.trans s7).more (by lia)) ((((Good.nil k).app g4 (ki _) s4.k1).app g5 s4.k1 s5.k1).put t5.k1 hb L.1 L.2) (((y4.app y5 s4.k1 s5.k1 (by decide)).row hpl (by decide) _ _).cast (by decide))
    ·refine ⟨_,rfl,rfl,_,rfl,?_⟩;refine ite2 (fun c4=>?_) (fun c4=>?_)
     ·refine ⟨_,rfl,_,rfl,_,rfl,_,rfl,_,rfl,_,_,rfl,rfl,p,_,_,_,_,bV d',rfl,cv,s1.gs,(by have:=s1.c2;lia),(by lia),(by have:=s1.k2;lia),fun c4 n4 k4 H4 s4 g4 y4=>?_⟩;have t4:=s1.trans s4;have l4:=t4.len;refine ⟨_,rfl,_,rfl,_,rfl,vW,fun x hx=>?_⟩;refine qU t4.gs (kD t4.c2 (by lia)) hx (by show 1<=2;decide) (by show 2<=1000;decide) fun v H6 hv s6=>?_
      obtain ⟨op,rfl,hb,hmem⟩:=QR hv (R:=fun op=>Bare op .non) (jk vV) (jk vV);have t6:=t4.tick s6;refine qh t6.gs (kD t6.len (by lia)) fun H7 s7=>?_
      have L:=zP (kD t6.len (show _<=15000 by lia));exact q _ _ _ _ ((t6.trans s7).more (by lia)) (((Good.nil k).app g4 (ki _) s4.k1).put t4.k1 hb L.1 L.2) ((y4.row (z3g _ hmem) (by decide) _ _).cast (by decide))
     ·refine ⟨_,rfl,rfl,_,rfl,?_⟩;refine ite2 (fun c5=>?_) (fun c5=>?_)
      ·refine ⟨_,rfl,JC s1.gs (kD s1.k2 (by lia)) fun H2 s2=>?_⟩;have t2:=s1.tick s2;refine ⟨_,rfl,_,rfl,_,rfl,_,rfl,_,rfl,_,_,rfl,rfl,p,_,_,_,_,bV d',rfl,cv,t2.gs,(kD (Nat.add_le_add_right t2.c2 _) (by lia)),(kD (Nat.add_le_add_right t2.len _) (by lia)),(kD (Nat.add_le_add_right t2.k2 _) (by lia)),fun c4 n4 k4 H4 s4 g4 y4=>?_⟩;have t4:=t2.trans s4;refine ⟨_,rfl,_,rfl,_,rfl,vW,fun x hx=>?_⟩;refine qU t4.gs (kD t4.c2 (by lia)) hx (by show 1<=2;decide) (by show 2<=1000;decide) fun v H5 hv s5=>?_
       obtain ⟨op,rfl,hb,hmem⟩:=QR hv (R:=Uses) z86 z87;have t5:=t4.tick s5;refine ⟨_,rfl,qh t5.gs (kD t5.len (by lia)) fun H6 s6=>?_⟩;have t6:=t5.trans s6;refine ⟨_,rfl,_,rfl,_,rfl,_,rfl,_,rfl,_,_,rfl,rfl,p,_,_,_,_,bV d',rfl,cv,t6.gs,(kD (Nat.add_le_add_right t6.c2 _) (by lia)),(kD (Nat.add_le_add_right t6.len _) (by lia)),(kD (Nat.add_le_add_right t6.k2 _) (by lia)),fun c7 n7 k7 H7 s7 g7 y7=>?_⟩;have t7:=t6.trans s7;refine ⟨_,rfl,_,rfl,qh t7.gs (kD t7.len (by lia)) fun H8 s8=>?_⟩;have L5:=zP (kD t5.len (show _<=15000 by lia));have L7:=zP (kD t7.len (show _<=15000 by lia));refine q _ _ _ _ ((t7.trans s8).more (by lia)) ⟨((((AllG.nil.app g4.row).app (AllG.one (hb.rowG L5.1 L5.2))).app g7.row).app (AllG.one (qJ L7.1 L7.2))),fun m=>?_,fun m h=>?_,fun m h=>?_,fun m ha hb'=>?_⟩ (Ty.orv y4 y7 s4.k1 s7.k1 hmem _ _)
       ·simp only [qc,qu,qq,hb.noLab];have:=g4.lab1 m;have:=g4.labI m;have:=g7.lab1 m;have:=g7.labI m;have:=zT m k;have:=s4.k1
        lia
       ·simp only [qc,qu,qq,hb.noLab] at h;have:=g4.labI m;have:=g7.labI m;have:=zT m k;have:=s4.k1;have:=s7.k1
        lia
       ·simp only [Zd,Qd,ZI,hb.use] at h;simp only [qc,qu,qq,hb.noLab];have:=g4.useI m;have:=g7.useI m
        lia
       ·simp only [qc,qu,qq,hb.noLab];have:=g4.labA m;have:=g7.labA m;have:=zT m k
        lia
      ·refine ⟨_,rfl,rfl,_,rfl,?_⟩;refine ite2 (fun c6=>?_) (fun c6=>?_)
       ·refine ⟨_,rfl,_,rfl,_,rfl,_,rfl,_,rfl,p,_,_,_,_,bV d'+7,rfl,⟨d',by lia,by lia,rfl⟩,s1.gs,(by have:=s1.c2;lia),(by lia),(by have:=s1.k2;lia),fun c4 n4 k4 H4 s4 g4 y4=>?_⟩;exact q _ _ _ _ ((s1.trans s4).more (by lia)) ((Good.nil k).app g4 (ki _) s4.k1) y4
       ·refine ⟨_,rfl,_,rfl,_,rfl,_,rfl,_,rfl,p,_,_,_,_,30,rfl,⟨by lia,rfl⟩,s1.gs,(by have:=s1.c2;have:=Jw d';lia),(by have:=Jw d';lia),(by have:=s1.k2;have:=Jw d';lia),fun c4 n4 k4 H4 s4 g4 y4=>?_⟩;exact q _ _ _ _ ((s1.trans s4).more (by have:=Jw d';lia)) ((Good.nil k).app g4 (ki _) s4.k1) y4
theorem z1W {name:Str} {st:Stmt} {k:Nat} {C:Int->Nat->Prop} {δ:Int} {su:Bool} (D:zx K mg name st) (hb:∀(kV doc pm:Value) (an:Option Addr) (cdv ct:Value) (us:List Value),us.length=gps.length->bindArgs (PySem.W.fnOf name name (qr st) (zG st) (zh st) .none kV doc pm an cdv ct) ⟨us,[]⟩=pure (gps.zip us))
  (no:∀e B,¬C e B):FN P w K mg base k name gps (qH K C δ su):=by
 obtain ⟨f,fd,F,m⟩:=D;have no':∀vs H Q E,¬qH K C δ su vs H Q E:=fun vs H Q E h=>by
  obtain ⟨_,_,_,_,e,B,_,hc,_⟩:=h;exact no e B hc
 exact ⟨f,fd,m,F.kp,F.binds hb,⟨fun vs H Q E h=>vd h (no' vs H Q E),fun A vY s H args us vs Q E _ _ _ _ h=>vd h (no' vs H Q E)⟩⟩
theorem z0E (DV:zx K mg "_law_value" (top 111)) (DT:zx K mg "_law_tried_value" (top 112)) (DM:zx K mg "_law_moved_value" (top 113)) (G:Glo mg) (S:jG P w K mg base):∀n,FN P w K mg base (3+2 * n) "_law_value" gps (qH K (CV n) 1 true)
 | 0=>z1W DV (fun _ _ _ _ _ _=>zU5 fun _ _ _ _ _=>rfl) fun e B ⟨d,_,h,_⟩=>vd h (Nat.not_lt_zero _)
 | n+1=>by
  have ih:=z0E DV DT DM G S n;exact fn_v DV S ih (zao DT S ih) (z9k DM G S ih)
end
noncomputable def bD:Nat->Nat
 | 0=>92
 | d+1=>2 * bD d+200
theorem z0Y:∀d,92<=bD d
 | 0=>ki _
 | d+1=>by have:=z0Y d;show 92<=2 * bD d+200;lia
def CD (n:Nat) (e:Int) (B:Nat):Prop:=∃d:Nat,e=(d:Int)/\d < n/\B=bD d
def CC (n:Nat) (e:Int) (B:Nat):Prop:=∃d:Nat,e=(d:Int)+1/\d < n/\B=2 * bD d+150
theorem Ty.choice0 {k k1 k2:Nat} {l1 l2:List Row} {s2:Bool} (x:Ty 1 true (k+2) k1 l1) (y:Ty 0 s2 k1 k2 l2) (h1:k+2<=k1) (h2:k1<=k2) {op:Str} (ho:op∈(["iftrue","iffalse"]:List Str)) (a b c e:Int):
  Ty 0 true k k2 (l1++[⟨op,.int (k:Int),a⟩]++l2++[⟨"jump",.int ((k+1:Nat):Int),b⟩]++[⟨"label",.int (k:Int),c⟩]++[⟨"label",.int ((k+1:Nat):Int),e⟩]):=by
 have:=Ty.choice x y (Ty.nil k2) h1 h2 (ki _) ho a b c e
 rw [yc] at this;exact this
theorem cv1:CV 3 1 31:=⟨1,rfl,by decide,rfl⟩
theorem cv2:CV 3 2 87:=⟨2,rfl,by decide,rfl⟩
theorem cv0:CV 3 0 3:=⟨0,rfl,by decide,rfl⟩
section
theorem z8w:zr ["_law_script","_law_town_here","_law_rows","_law_marks","_law_deep","_law_other","_law_end"] gps (zh (top 115)):=fsM
theorem z3R {n:Nat} (D:zx K mg "_law_choice" (top 115)) (S:jG P w K mg base) (FV:FN P w K mg base 9 "_law_value" gps (qH K (CV 3) 1 true)) (FD:FN P w K mg base (10+2 * n) "_law_deed" gps (qH K (CD n) 0 false)):FN P w K mg base (11+2 * n) "_law_choice" gps (qH K (CC n) 0 false):=by
 have:=FN.of (k:=10+2 * n) (sp:=qH K (CC n) 0 false) (P:=P) (w:=w) (base:=base) D z8w (fun _ _ _ _ _ _=>zU5 fun _ _ _ _ _=>rfl) jz (fun f cdv A vY s H vs Q E hr h=>?_)
 ·exact this.mono (by lia)
 obtain ⟨p,c,rs,k,e,B,rfl,⟨d,he,hd,hB⟩,g,bc,br,bk,q⟩:=h;have hr1:=hr.mono (show 1<=10+2 * n by lia);have hr2:=hr.mono (show 2<=10+2 * n by lia);have hr9:=hr.mono (show 9<=10+2 * n by lia);have bp:=z0Y d;have cd:CD n (e - 1) (bD d):=⟨d,by lia,hd,rfl⟩
 refine ⟨_,z8 (Qr (i:=5) (j:=6) rfl z8w.nd rfl rfl (by decide) rfl rfl (z6 (zw S.mark hr1 rfl (z6 (pvX 3) z7)) (z6 (zw S.mark hr1 rfl (z6 (pvX 3) z7)) z7)) rfl)
  (z8 (zp (zw FV hr9 rfl (z6 (pvX 0) (z6 (pvX 1) (z6 (pvX 2) (z6 (pvX 3) (z6 zl z7)))))))
  (z8 (zp (zF S.put3 hr1 rfl (z6 (pvX 2) (z6 (zw S.pick hr2 rfl (z6 (pvX 0) (z6 (pvX 1) (z6 (qe (z6 zq (z6 zq z7))) z7)))) (z6 (pvX 5) z7)))))
  (z8 (zp (zw FD hr rfl (z6 (pvX 0) (z6 (pvX 1) (z6 (pvX 2) (z6 (pvX 3) (z6 (qa jD (pvX 4) zl) z7)))))))
  (z8 (zp (zF S.put3 hr1 rfl (z6 (pvX 2) (z6 zq (z6 (pvX 6) z7)))))
  (z8 (zp (zF S.put3 hr1 rfl (z6 (pvX 2) (z6 zq (z6 (pvX 5) z7)))))
  (z8 (zY (zt qM (zw S.draw hr1 rfl (z6 (pvX 0) (z6 (pvX 1) (z6 zl z7)))) zl (zA _))
   (zi (zp (zw FD hr rfl (z6 (pvX 0) (z6 (pvX 1) (z6 (pvX 2) (z6 (pvX 3) (z6 (qa jD (pvX 4) zl) z7)))))))) zE)
  (zi (zp (zF S.put3 hr1 rfl (z6 (pvX 2) (z6 zq (z6 (pvX 6) z7)))))))))))) ,?_⟩
 symm
 refine ⟨_,rfl,JC g (by lia) fun H1 s1=>?_⟩;refine ⟨_,rfl,JC s1.gs (kD s1.k2 (by lia)) fun H2 s2=>?_⟩;refine ⟨_,_,rfl,?_⟩;have t2:=s1.tick s2;refine ⟨_,rfl,_,rfl,_,rfl,_,rfl,p,_,_,_,_,31,rfl,cv1,t2.gs,(kD (Nat.add_le_add_right t2.c2 _) (by lia)),(kD (Nat.add_le_add_right t2.len _) (by lia)),(kD (Nat.add_le_add_right t2.k2 _) (by lia)),fun c3 n3 k3 H3 s3 g3 y3=>?_⟩;have t3:=t2.trans s3;refine ⟨_,rfl,_,rfl,_,rfl,vW,fun x hx=>?_⟩;refine qU t3.gs (kD t3.c2 (by lia)) hx (by show 1<=2;decide) (by show 2<=1000;decide) fun v H4 hv s4=>?_
 obtain ⟨op,rfl,hb,hmem⟩:=QR hv (R:=Uses) z0e z88;have hmem:op∈(["iftrue","iffalse"]:List Str):=by
  rcases kJ.mp hmem with z | z
  ·rw [z];decide+kernel
  ·rw [kz.mp z];decide+kernel
 have t4:=t3.tick s4;refine ⟨_,rfl,qh t4.gs (kD t4.len (by lia)) fun H5 s5=>?_⟩;have t5:=t4.trans s5;refine ⟨_,rfl,_,rfl,_,rfl,_,rfl,_,rfl,_,_,rfl,rfl,p,_,_,_,_,bD d,rfl,cd,t5.gs,(kD (Nat.add_le_add_right t5.c2 _) (by lia)),(kD (Nat.add_le_add_right t5.len _) (by lia)),(kD (Nat.add_le_add_right t5.k2 _) (by lia)),fun c6 n6 k6 H6 s6 g6 y6=>?_⟩;have t6:=t5.trans s6;refine ⟨_,rfl,_,rfl,qh t6.gs (kD t6.len (by lia)) fun H7 s7=>?_⟩;have t7:=t6.trans s7;refine ⟨_,rfl,_,rfl,qh t7.gs (kD t7.len (by lia)) fun H8 s8=>?_⟩;have t8:=t7.trans s8;refine ⟨_,rfl,_,rfl,jB t8.gs (kD t8.c2 (by lia)) (by decide) (by decide) fun y0 H9 y00 y01 s9=>?_⟩;have t9:=t8.tick s9;have L4:=zP (kD t4.len (show _<=15000 by lia));have L6:=zP (kD t6.len (show _<=15000 by lia));have L7:=zP (kD t7.len (show _<=15000 by lia));have all9:=((((AllG.nil.app g3.row).app (AllG.one (hb.rowG (j:=k) L4.1 L4.2))).app g6.row).app (AllG.one (qt.rowG (j:=k+1) L6.1 L6.2))).app (AllG.one (qJ (j:=k) L7.1 L7.2));refine ⟨rfl,_,rfl,?_⟩;refine ite2 (fun _=>?_) (fun _=>?_)
 ·refine ⟨_,rfl,_,rfl,_,rfl,_,rfl,_,rfl,_,_,rfl,rfl,p,_,_,_,_,bD d,rfl,cd,t9.gs,(kD (Nat.add_le_add_right t9.c2 _) (by lia)),(kD (Nat.add_le_add_right t9.len _) (by lia)),(kD (Nat.add_le_add_right t9.k2 _) (by lia)),fun cA nA kA HA sA gA yA=>?_⟩;have tA:=t9.trans sA;refine ⟨_,rfl,_,rfl,qh tA.gs (kD tA.len (by lia)) fun HB sB=>?_⟩;have LA:=zP (kD tA.len (show _<=15000 by lia));refine q _ _ _ _ ((tA.trans sB).more (by lia)) ⟨(all9.app gA.row).app (AllG.one (qJ LA.1 LA.2)),fun m=>?_,fun m h=>?_,fun m h=>?_,fun m ha hb'=>?_⟩ (Ty.choice y3 y6 yA s3.k1 s6.k1 sA.k1 hmem _ _ _ _).weak
  ·simp only [qc,qu,qq,hb.noLab,qt.noLab];exact la31 (g3.lab1 m) (g3.labI m) (g6.lab1 m) (g6.labI m) (gA.lab1 m) (gA.labI m) (zT m k) (zT m (k+1)) s3.k1 s6.k1
  ·simp only [qc,qu,qq,hb.noLab,qt.noLab] at h;exact la32 h (g3.labI m) (g6.labI m) (gA.labI m) (zT m k) (zT m (k+1)) s3.k1 s6.k1 sA.k1
  ·simp only [Zd,Qd,ZI,hb.use,qt.use] at h;simp only [qc,qu,qq,hb.noLab,qt.noLab];have:=g3.useI m;have:=g6.useI m;have:=gA.useI m
   lia
  ·simp only [qc,qu,qq,hb.noLab,qt.noLab];exact la34 ha hb' (g3.labA m) (g6.labA m) (gA.labA m) (zT m k) (zT m (k+1))
 ·refine ⟨_,rfl,_,rfl,qh t9.gs (kD t9.len (by lia)) fun HB sB=>?_⟩;have LA:=zP (kD t9.len (show _<=15000 by lia));refine q _ _ _ _ ((t9.trans sB).more (by lia)) ⟨all9.app (AllG.one (qJ LA.1 LA.2)),fun m=>?_,fun m h=>?_,fun m h=>?_,fun m ha hb'=>?_⟩ (Ty.choice0 y3 y6 s3.k1 s6.k1 hmem _ _ _ _).weak
  ·simp only [qc,qu,qq,hb.noLab,qt.noLab];exact la31 (c:=0) (kc:=k6) (g3.lab1 m) (g3.labI m) (g6.lab1 m) (g6.labI m) (vi 1) (fun z=>vd rfl z) (zT m k) (zT m (k+1)) s3.k1 s6.k1
  ·simp only [qc,qu,qq,hb.noLab,qt.noLab] at h;exact la32 (c:=0) h (g3.labI m) (g6.labI m) (fun z=>vd rfl z) (zT m k) (zT m (k+1)) s3.k1 s6.k1 (ki _)
  ·simp only [Zd,Qd,ZI,hb.use,qt.use] at h;simp only [qc,qu,qq,hb.noLab,qt.noLab];have:=g3.useI m;have:=g6.useI m
   lia
  ·simp only [qc,qu,qq,hb.noLab,qt.noLab];exact la34 (c:=0) ha hb' (g3.labA m) (g6.labA m) (fun x y=>vd y (Nat.not_lt.mpr x)) (zT m k) (zT m (k+1))
theorem z8v:zr ["_law_script","_law_town_here","_law_rows","_law_marks","_law_deep","_law_begin","_law_end"] gps (zh (top 116)):=fsM
theorem z5j {n:Nat} (D:zx K mg "_law_round" (top 116)) (S:jG P w K mg base) (FV:FN P w K mg base 9 "_law_value" gps (qH K (CV 3) 1 true)) (FD:FN P w K mg base (10+2 * n) "_law_deed" gps (qH K (CD n) 0 false)):FN P w K mg base (11+2 * n) "_law_round" gps (qH K (CC n) 0 false):=by
 have:=FN.of (k:=10+2 * n) (sp:=qH K (CC n) 0 false) (P:=P) (w:=w) (base:=base) D z8v (fun _ _ _ _ _ _=>zU5 fun _ _ _ _ _=>rfl) jz (fun f cdv A vY s H vs Q E hr h=>?_)
 ·exact this.mono (by lia)
 obtain ⟨p,c,rs,k,e,B,rfl,⟨d,he,hd,hB⟩,g,bc,br,bk,q⟩:=h;have hr1:=hr.mono (show 1<=10+2 * n by lia);have hr9:=hr.mono (show 9<=10+2 * n by lia);have bp:=z0Y d;have cd:CD n (e - 1) (bD d):=⟨d,by lia,hd,rfl⟩
 refine ⟨_,z8 (Qr (i:=5) (j:=6) rfl z8v.nd rfl rfl (by decide) rfl rfl (z6 (zw S.mark hr1 rfl (z6 (pvX 3) z7)) (z6 (zw S.mark hr1 rfl (z6 (pvX 3) z7)) z7)) rfl)
  (z8 (zp (zF S.put3 hr1 rfl (z6 (pvX 2) (z6 zq (z6 (pvX 5) z7)))))
  (z8 (zp (zw FV hr9 rfl (z6 (pvX 0) (z6 (pvX 1) (z6 (pvX 2) (z6 (pvX 3) (z6 zl z7)))))))
  (z8 (zp (zF S.put3 hr1 rfl (z6 (pvX 2) (z6 zq (z6 (pvX 6) z7)))))
  (z8 (zp (zw FD hr rfl (z6 (pvX 0) (z6 (pvX 1) (z6 (pvX 2) (z6 (pvX 3) (z6 (qa jD (pvX 4) zl) z7)))))))
  (z8 (zp (zF S.put3 hr1 rfl (z6 (pvX 2) (z6 zq (z6 (pvX 5) z7)))))
  (zi (zp (zF S.put3 hr1 rfl (z6 (pvX 2) (z6 zq (z6 (pvX 6) z7))))))))))),?_⟩
 symm
 refine ⟨_,rfl,JC g (by lia) fun H1 s1=>?_⟩;refine ⟨_,rfl,JC s1.gs (kD s1.k2 (by lia)) fun H2 s2=>?_⟩;refine ⟨_,_,rfl,?_⟩;have t2:=s1.tick s2;refine ⟨_,rfl,_,rfl,qh t2.gs (kD t2.len (by lia)) fun H3 s3=>?_⟩;have t3:=t2.trans s3;refine ⟨_,rfl,_,rfl,_,rfl,_,rfl,p,_,_,_,_,31,rfl,cv1,t3.gs,(kD (Nat.add_le_add_right t3.c2 _) (by lia)),(kD (Nat.add_le_add_right t3.len _) (by lia)),(kD (Nat.add_le_add_right t3.k2 _) (by lia)),fun c4 n4 k4 H4 s4 g4 y4=>?_⟩;have t4:=t3.trans s4;refine ⟨_,rfl,_,rfl,qh t4.gs (kD t4.len (by lia)) fun H5 s5=>?_⟩;have t5:=t4.trans s5;refine ⟨_,rfl,_,rfl,_,rfl,_,rfl,_,rfl,_,_,rfl,rfl,p,_,_,_,_,bD d,rfl,cd,t5.gs,(kD (Nat.add_le_add_right t5.c2 _) (by lia)),(kD (Nat.add_le_add_right t5.len _) (by lia)),(kD (Nat.add_le_add_right t5.k2 _) (by lia)),fun c6 n6 k6 H6 s6 g6 y6=>?_⟩;have t6:=t5.trans s6;refine ⟨_,rfl,_,rfl,qh t6.gs (kD t6.len (by lia)) fun H7 s7=>?_⟩;have t7:=t6.trans s7;refine ⟨_,rfl,_,rfl,qh t7.gs (kD t7.len (by lia)) fun H8 s8=>?_⟩;have L2:=zP (kD t2.len (show _<=15000 by lia));have L4:=zP (kD t4.len (show _<=15000 by lia));have L6:=zP (kD t6.len (show _<=15000 by lia));have L7:=zP (kD t7.len (show _<=15000 by lia));refine q _ _ _ _ ((t7.trans s8).more (by lia)) ⟨((((((AllG.nil.app (AllG.one (qJ L2.1 L2.2))).app g4.row).app (AllG.one (z0e.rowG L4.1 L4.2))).app g6.row).app (AllG.one (qt.rowG L6.1 L6.2))).app (AllG.one (qJ L7.1 L7.2))),fun m=>?_,fun m h=>?_,fun m h=>?_,fun m ha hb'=>?_⟩ (Ty.round y4 y6 s4.k1 s6.k1 _ _ _ _).weak
 ·simp only [qc,qu,qq,z0e.noLab,qt.noLab];have:=g4.lab1 m;have:=g4.labI m;have:=g6.lab1 m;have:=g6.labI m;have:=zT m k;have:=zT m (k+1);have:=s4.k1
  lia
 ·simp only [qc,qu,qq,z0e.noLab,qt.noLab] at h;have:=g4.labI m;have:=g6.labI m;have:=zT m k;have:=zT m (k+1);have:=s4.k1;have:=s6.k1
  lia
 ·simp only [Zd,Qd,ZI,z0e.use,qt.use] at h;simp only [qc,qu,qq,z0e.noLab,qt.noLab];have:=g4.useI m;have:=g6.useI m
  lia
 ·simp only [qc,qu,qq,z0e.noLab,qt.noLab];have:=g4.labA m;have:=g6.labA m;have:=zT m k;have:=zT m (k+1)
  lia
theorem z8u:zr ["_law_script","_law_town_here","_law_rows","_law_marks","_law_deep","_law_hand","_law_end"] gps (zh (top 117)):=fsM
theorem z3h {v:V} (h:v∈([.str "drop",.str "tell",.str "raise"]:List V)):∃op,v=.str op/\Bare op .non/\op∈(["drop","tell","raise"]:List Str):=by
 rcases kJ.mp h with e | h
 ·exact ⟨_,e,z25,by simp⟩
 ·rcases kJ.mp h with e | h
  ·exact ⟨_,e,ZH,by simp⟩
  ·exact ⟨_,kz.mp h,z4l,by simp⟩
theorem z5h {n:Nat} (D:zx K mg "_law_tried" (top 117)) (S:jG P w K mg base) (FD:FN P w K mg base (10+2 * n) "_law_deed" gps (qH K (CD n) 0 false)):FN P w K mg base (11+2 * n) "_law_tried" gps (qH K (CC n) 0 false):=by
 have:=FN.of (k:=10+2 * n) (sp:=qH K (CC n) 0 false) (P:=P) (w:=w) (base:=base) D z8u (fun _ _ _ _ _ _=>zU5 fun _ _ _ _ _=>rfl) jz (fun f cdv A vY s H vs Q E hr h=>?_)
 ·exact this.mono (by lia)
 obtain ⟨p,c,rs,k,e,B,rfl,⟨d,he,hd,hB⟩,g,bc,br,bk,q⟩:=h;have hr1:=hr.mono (show 1<=10+2 * n by lia);have hr2:=hr.mono (show 2<=10+2 * n by lia);have bp:=z0Y d;have cd:CD n (e - 1) (bD d):=⟨d,by lia,hd,rfl⟩
 have cd0:CD n 0 92:=⟨0,rfl,by lia,rfl⟩
 refine ⟨_,z8 (Qr (i:=5) (j:=6) rfl z8u.nd rfl rfl (by decide) rfl rfl (z6 (zw S.mark hr1 rfl (z6 (pvX 3) z7)) (z6 (zw S.mark hr1 rfl (z6 (pvX 3) z7)) z7)) rfl)
  (z8 (zp (zF S.put3 hr1 rfl (z6 (pvX 2) (z6 zq (z6 (pvX 5) z7)))))
  (z8 (zp (zw FD hr rfl (z6 (pvX 0) (z6 (pvX 1) (z6 (pvX 2) (z6 (pvX 3) (z6 (qa jD (pvX 4) zl) z7)))))))
  (z8 (zp (zw FD hr rfl (z6 (pvX 0) (z6 (pvX 1) (z6 (pvX 2) (z6 (pvX 3) (z6 zl z7)))))))
  (z8 (zp (zF S.put2 hr1 rfl (z6 (pvX 2) (z6 zq z7))))
  (z8 (zp (zF S.put3 hr1 rfl (z6 (pvX 2) (z6 zq (z6 (pvX 6) z7)))))
  (z8 (zp (zF S.put3 hr1 rfl (z6 (pvX 2) (z6 zq (z6 (pvX 5) z7)))))
  (z8 (zp (zF S.put2 hr1 rfl (z6 (pvX 2) (z6 (zw S.pick hr2 rfl (z6 (pvX 0) (z6 (pvX 1) (z6 (qe (z6 zq (z6 zq (z6 zq z7)))) z7)))) z7))))
  (z8 (zp (zw FD hr rfl (z6 (pvX 0) (z6 (pvX 1) (z6 (pvX 2) (z6 (pvX 3) (z6 zl z7)))))))
  (zi (zp (zF S.put3 hr1 rfl (z6 (pvX 2) (z6 zq (z6 (pvX 6) z7)))))))))))))) ,?_⟩
 symm
 refine ⟨_,rfl,JC g (by lia) fun H1 s1=>?_⟩;refine ⟨_,rfl,JC s1.gs (kD s1.k2 (by lia)) fun H2 s2=>?_⟩;refine ⟨_,_,rfl,?_⟩;have t2:=s1.tick s2;refine ⟨_,rfl,_,rfl,qh t2.gs (kD t2.len (by lia)) fun H3 s3=>?_⟩;have t3:=t2.trans s3;refine ⟨_,rfl,_,rfl,_,rfl,_,rfl,_,rfl,_,_,rfl,rfl,p,_,_,_,_,bD d,rfl,cd,t3.gs,(kD (Nat.add_le_add_right t3.c2 _) (by lia)),(kD (Nat.add_le_add_right t3.len _) (by lia)),(kD (Nat.add_le_add_right t3.k2 _) (by lia)),fun c4 n4 k4 H4 s4 g4 y4=>?_⟩;have t4:=t3.trans s4;refine ⟨_,rfl,_,rfl,_,rfl,_,rfl,p,_,_,_,_,92,rfl,cd0,t4.gs,(kD (Nat.add_le_add_right t4.c2 _) (by lia)),(kD (Nat.add_le_add_right t4.len _) (by lia)),(kD (Nat.add_le_add_right t4.k2 _) (by lia)),fun c5 n5 k5 H5 s5 g5 y5=>?_⟩;have t5:=t4.trans s5;refine ⟨_,rfl,qh t5.gs (kD t5.len (by lia)) fun H6 s6=>?_⟩;have t6:=t5.trans s6;refine ⟨_,rfl,_,rfl,qh t6.gs (kD t6.len (by lia)) fun H7 s7=>?_⟩;have t7:=t6.trans s7;refine ⟨_,rfl,_,rfl,qh t7.gs (kD t7.len (by lia)) fun H8 s8=>?_⟩;have t8:=t7.trans s8;refine ⟨_,rfl,_,rfl,_,rfl,vW,fun x hx=>?_⟩;refine qU t8.gs (kD t8.c2 (by lia)) hx (by show 1<=3;decide) (by show 3<=1000;decide) fun v H9 hv s9=>?_
 obtain ⟨op,rfl,hb,hmem⟩:=z3h hv;have t9:=t8.tick s9;refine qh t9.gs (kD t9.len (by lia)) fun HA sA=>?_
 have tA:=t9.trans sA;refine ⟨_,rfl,_,rfl,_,rfl,_,rfl,p,_,_,_,_,92,rfl,cd0,tA.gs,(kD (Nat.add_le_add_right tA.c2 _) (by lia)),(kD (Nat.add_le_add_right tA.len _) (by lia)),(kD (Nat.add_le_add_right tA.k2 _) (by lia)),fun cB nB kB HB sB gB yB=>?_⟩;have tB:=tA.trans sB;refine ⟨_,rfl,_,rfl,qh tB.gs (kD tB.len (by lia)) fun HC sC=>?_⟩;have L2:=zP (kD t2.len (show _<=15000 by lia));have L5:=zP (kD t5.len (show _<=15000 by lia));have L6:=zP (kD t6.len (show _<=15000 by lia));have L7:=zP (kD t7.len (show _<=15000 by lia));have L9:=zP (kD t9.len (show _<=15000 by lia));have LB:=zP (kD tB.len (show _<=15000 by lia));refine q _ _ _ _ ((tB.trans sC).more (by lia)) ⟨(((((((((AllG.nil.app (AllG.one (Qy.rowG L2.1 L2.2))).app g4.row).app g5.row).app (AllG.one (QF.rowG L5.1 L5.2))).app (AllG.one (qt.rowG L6.1 L6.2))).app (AllG.one (qJ L7.1 L7.2))).app (AllG.one (hb.rowG L9.1 L9.2))).app gB.row).app (AllG.one (qJ LB.1 LB.2))),fun m=>?_,fun m h=>?_,fun m h=>?_,fun m ha hb'=>?_⟩ (by
  have yy:=fun a b c e f g=>(Ty.tried (y4.app y5 s4.k1 s5.k1 (by decide)) yB (kD s4.k1 s5.k1) sB.k1 hmem a b c e f g).weak
  simp only [<-yd] at yy;exact yy _ _ _ _ _ _)
 ·simp only [qc,qu,qq,Qy.noLab,qt.noLab,QF.noLab,hb.noLab];exact la31 (g4.lab1 m) (g4.labI m) (g5.lab1 m) (g5.labI m) (gB.lab1 m) (gB.labI m) (zT m k) (zT m (k+1)) s4.k1 s5.k1
 ·simp only [qc,qu,qq,Qy.noLab,qt.noLab,QF.noLab,hb.noLab] at h;exact la32 h (g4.labI m) (g5.labI m) (gB.labI m) (zT m k) (zT m (k+1)) s4.k1 s5.k1 sB.k1
 ·simp only [Zd,Qd,ZI,Qy.use,qt.use,QF.noUse,hb.noUse] at h;simp only [qc,qu,qq,Qy.noLab,qt.noLab,QF.noLab,hb.noLab];have:=g4.useI m;have:=g5.useI m;have:=gB.useI m
  lia
 ·simp only [qc,qu,qq,Qy.noLab,qt.noLab,QF.noLab,hb.noLab];exact la34 ha hb' (g4.labA m) (g5.labA m) (gB.labA m) (zT m k) (zT m (k+1))
end
section
theorem z8x:zr ["_law_script","_law_town_here","_law_rows","_law_marks","_law_deep","_law_way"] gps (zh (top 114)):=fsM
theorem z7J {n:Nat} (D:zx K mg "_law_deed" (top 114)) (S:jG P w K mg base) (FV:FN P w K mg base 9 "_law_value" gps (qH K (CV 3) 1 true)) (FC:FN P w K mg base (11+2 * n) "_law_choice" gps (qH K (CC n) 0 false)) (FR:FN P w K mg base (11+2 * n) "_law_round" gps (qH K (CC n) 0 false))
  (FT:FN P w K mg base (11+2 * n) "_law_tried" gps (qH K (CC n) 0 false)):FN P w K mg base (10+2 * (n+1)) "_law_deed" gps (qH K (CD (n+1)) 0 false):=by
 have:=FN.of (k:=11+2 * n) (sp:=qH K (CD (n+1)) 0 false) (P:=P) (w:=w) (base:=base) D z8x (fun _ _ _ _ _ _=>zU5 fun _ _ _ _ _=>rfl) jz (fun f cdv A vY s H vs Q E hr h=>?_)
 ·exact this.mono (by lia)
 obtain ⟨p,c,rs,k,e,B,rfl,⟨d,he,hd,hB⟩,g,bc,br,bk,q⟩:=h;have hr1:=hr.mono (show 1<=11+2 * n by lia);have hr2:=hr.mono (show 2<=11+2 * n by lia);have hr9:=hr.mono (show 9<=11+2 * n by lia);have hb3:=z0Y d;refine ⟨_,z8 (zK (i:=5) z8x.nd rfl (Or.inl rfl) (j6 (zt Jf (pvX 4) zl (zA _)) (zw S.draw hr1 rfl (z6 (pvX 0) (z6 (pvX 1) (z6 zl z7)))) (zw S.draw hr1 rfl (z6 (pvX 0) (z6 (pvX 1) (z6 zl z7))))))
  (zi (zY (zt Je (pvX 5) zl (zA _))
   (z8 (zp (zw FV hr9 rfl (z6 (pvX 0) (z6 (pvX 1) (z6 (pvX 2) (z6 (pvX 3) (z6 zl z7)))))))
    (zi (zp (zF S.put3 hr1 rfl (z6 (pvX 2) (z6 zq (z6 (zw S.pick hr2 rfl (z6 (pvX 0) (z6 (pvX 1) (z6 (qe (z6 zq (z6 zq (z6 zq z7)))) z7)))) z7)))))))
  (zi (zY (zt qM (pvX 5) zl (zA _))
   (z8 (zp (zw FV hr9 rfl (z6 (pvX 0) (z6 (pvX 1) (z6 (pvX 2) (z6 (pvX 3) (z6 zl z7)))))))
    (zi (zp (zF S.put2 hr1 rfl (z6 (pvX 2) (z6 zq z7))))))
  (zi (zY (zt qM (pvX 5) zl (zA _))
   (zi (zp (zF S.put3 hr1 rfl (z6 (pvX 2) (z6 zq (z6 (zw S.pick hr2 rfl (z6 (pvX 0) (z6 (pvX 1) (z6 (qe (z6 zq (z6 zq z7))) z7)))) z7))))))
  (zi (zY (zt Je (pvX 5) zl (zA _))
   (zi (zp (zw FC hr rfl (z6 (pvX 0) (z6 (pvX 1) (z6 (pvX 2) (z6 (pvX 3) (z6 (pvX 4) z7))))))))
  (zi (zY (zt Je (pvX 5) zl (zA _))
   (zi (zp (zw FR hr rfl (z6 (pvX 0) (z6 (pvX 1) (z6 (pvX 2) (z6 (pvX 3) (z6 (pvX 4) z7))))))))
  (zi (zY (zt qM (pvX 5) zl (zA _))
   (zi (zp (zw FT hr rfl (z6 (pvX 0) (z6 (pvX 1) (z6 (pvX 2) (z6 (pvX 3) (z6 (pvX 4) z7))))))))
   (z8 (zp (zw FV hr9 rfl (z6 (pvX 0) (z6 (pvX 1) (z6 (pvX 2) (z6 (pvX 3) (z6 zl z7)))))))
    (zi (zp (zF S.put2 hr1 rfl (z6 (pvX 2) (z6 zq z7)))))))))))))))))) ,?_⟩
 symm
 refine ⟨_,rfl,_,_,rfl,rfl,_,rfl,?_⟩;refine ite2 (fun c0=>?_) (fun c0=>?_);all_goals
  refine ⟨_,rfl,_,rfl,jB g (by lia) (by decide) (by decide) fun i H1 i0 i1 s1=>?_⟩;have i12:i < 10:=by lia
  have i4:e<=0->i < 4:=fun z=>by
   first
    | exact i1
    | (have:=kI c0;lia)
  have l1:=s1.len;refine ⟨_,rfl,_,_,rfl,rfl,_,rfl,?_⟩;refine ite2 (fun c1=>?_) (fun c1=>?_)
  ·refine ⟨_,rfl,_,rfl,_,rfl,_,rfl,p,_,_,_,_,31,rfl,cv1,s1.gs,(by have:=s1.c2;lia),(by lia),(by have:=s1.k2;lia),fun c4 n4 k4 H4 s4 g4 y4=>?_⟩;have t4:=s1.trans s4;refine ⟨_,rfl,_,rfl,_,rfl,vW,fun x hx=>?_⟩;refine qU t4.gs (kD t4.c2 (by lia)) hx (by show 1<=3;decide) (by show 3<=1000;decide) fun v H5 hv s5=>?_
   have t5:=t4.tick s5;refine qh t5.gs (kD t5.len (by lia)) fun H6 s6=>?_
   have L:=zP (kD t5.len (show _<=15000 by lia));exact q _ _ _ _ ((t5.trans s6).more (by lia)) (((Good.nil k).app g4 (ki _) s4.k1).put t4.k1 (z7W hv) L.1 L.2) ((y4.row (jm _ (by simp)) (by decide) _ _).cast (by decide)).weak
  ·refine ⟨_,rfl,rfl,_,rfl,?_⟩;refine ite2 (fun c2=>?_) (fun c2=>?_)
   ·refine ⟨_,rfl,_,rfl,_,rfl,_,rfl,p,_,_,_,_,87,rfl,cv2,s1.gs,(by have:=s1.c2;lia),(by lia),(by have:=s1.k2;lia),fun c4 n4 k4 H4 s4 g4 y4=>?_⟩;have t4:=s1.trans s4;refine ⟨_,rfl,qh t4.gs (kD t4.len (by lia)) fun H6 s6=>?_⟩;have L:=zP (kD t4.len (show _<=15000 by lia));exact q _ _ _ _ ((t4.trans s6).more (by lia)) (((Good.nil k).app g4 (ki _) s4.k1).put t4.k1 ZH L.1 L.2) ((y4.row (jm _ (by simp)) (by decide) _ _).cast (by decide)).weak
   ·refine ⟨_,rfl,rfl,_,rfl,?_⟩;refine ite2 (fun c3=>?_) (fun c3=>?_)
    ·refine ⟨_,rfl,_,rfl,_,rfl,vW,fun x hx=>?_⟩;refine qU s1.gs (kD s1.c2 (by lia)) hx (by show 1<=2;decide) (by show 2<=1000;decide) fun v H5 hv s5=>?_
     have t5:=s1.tick s5;refine qh t5.gs (kD t5.len (by lia)) fun H6 s6=>?_
     have L:=zP (kD t5.len (show _<=15000 by lia));exact q _ _ _ _ ((t5.trans s6).more (by lia)) ((Good.nil k).put (ki _) (z7X hv) L.1 L.2) (((Ty.nil k).row z4J (by decide) _ _).cast (by decide)).weak
    ·have d1:¬i < 2:=fun z=>c1 (ko z)
     have d2:¬i=2:=fun z=>c2 (by rw [z];rfl)
     have d3:¬i=3:=fun z=>c3 (by rw [z];rfl)
     have e0:¬e<=0:=fun z=>by have:=i4 z;lia
     obtain ⟨d',rfl⟩:∃d',d=d'+1:=⟨d - 1,by lia⟩
     have eB:bD (d'+1)=2 * bD d'+200:=rfl;have cc:CC n e (2 * bD d'+150):=⟨d',by lia,by lia,rfl⟩
     refine ⟨_,rfl,_,_,rfl,rfl,_,rfl,?_⟩;refine ite2 (fun c4=>?_) (fun c4=>?_)
     ·refine ⟨_,rfl,_,rfl,_,rfl,_,rfl,_,rfl,p,_,_,_,_,_,rfl,cc,s1.gs,(by have:=s1.c2;lia),(by lia),(by have:=s1.k2;lia),fun c4 n4 k4 H4 s4 g4 y4=>?_⟩;exact q _ _ _ _ ((s1.trans s4).more (by lia)) ((Good.nil k).app g4 (ki _) s4.k1) y4
     ·refine ⟨_,rfl,_,_,rfl,rfl,_,rfl,?_⟩;refine ite2 (fun c5=>?_) (fun c5=>?_)
      ·refine ⟨_,rfl,_,rfl,_,rfl,_,rfl,_,rfl,p,_,_,_,_,_,rfl,cc,s1.gs,(by have:=s1.c2;lia),(by lia),(by have:=s1.k2;lia),fun c4 n4 k4 H4 s4 g4 y4=>?_⟩;exact q _ _ _ _ ((s1.trans s4).more (by lia)) ((Good.nil k).app g4 (ki _) s4.k1) y4
      ·refine ⟨_,rfl,rfl,_,rfl,?_⟩;refine ite2 (fun c6=>?_) (fun c6=>?_)
       ·refine ⟨_,rfl,_,rfl,_,rfl,_,rfl,_,rfl,p,_,_,_,_,_,rfl,cc,s1.gs,(by have:=s1.c2;lia),(by lia),(by have:=s1.k2;lia),fun c4 n4 k4 H4 s4 g4 y4=>?_⟩;exact q _ _ _ _ ((s1.trans s4).more (by lia)) ((Good.nil k).app g4 (ki _) s4.k1) y4
       ·refine ⟨_,rfl,_,rfl,_,rfl,_,rfl,p,_,_,_,_,3,rfl,cv0,s1.gs,(by have:=s1.c2;lia),(by lia),(by have:=s1.k2;lia),fun c4 n4 k4 H4 s4 g4 y4=>?_⟩;have t4:=s1.trans s4;refine ⟨_,rfl,qh t4.gs (kD t4.len (by lia)) fun H6 s6=>?_⟩;have L:=zP (kD t4.len (show _<=15000 by lia));exact q _ _ _ _ ((t4.trans s6).more (by lia)) (((Good.nil k).app g4 (ki _) s4.k1).put t4.k1 z4l L.1 L.2) (Ty.rais y4 _)
theorem JX {k:Nat} {rs:List Row} (h:∃Γl:Int->Option Sta,∀Γ,Ext Γ Γl 0 k->chk Γ rs (some (0,[]))=some none):∃Γ:Int->Option Sta,(∀m,Γ m≠none->0<=m/\m < (k:Int))/\chk Γ rs (some (0,[]))=some none:=by
 obtain ⟨Γl,q⟩:=h;refine ⟨fun m=>if 0<=m/\m < (k:Int) then Γl m else none,fun m hm=>?_,q _ fun m _ hm=>kG ⟨by lia,by lia⟩⟩;by_cases z:0<=m/\m < (k:Int)
 ·exact z
 ·exact vd (kF z) hm
theorem z2K:∃Γ:Int->Option Sta,(∀m,Γ m≠none->0<=m/\m < ((0:Nat):Int))/\chk Γ [⟨"load",.str "a",7⟩,⟨"return",.non,8⟩] (some (0,[]))=some none:=
 JX ((Ty.nil 0).whole (((Ty.nil 0).row z1f (by decide) (.str "a") 7).cast (by decide)) (ki _) (ki _) 8 (by decide))
theorem z1X (DD:zx K mg "_law_deed" (top 114)) (DC:zx K mg "_law_choice" (top 115)) (DR:zx K mg "_law_round" (top 116)) (DT:zx K mg "_law_tried" (top 117)) (S:jG P w K mg base) (FV:FN P w K mg base 9 "_law_value" gps (qH K (CV 3) 1 true)):
  ∀n,FN P w K mg base (10+2 * n) "_law_deed" gps (qH K (CD n) 0 false)
 | 0=>z1W DD (fun _ _ _ _ _ _=>zU5 fun _ _ _ _ _=>rfl) fun e B ⟨d,_,h,_⟩=>vd h (Nat.not_lt_zero _)
 | n+1=>by
  have ih:=z1X DD DC DR DT S FV n;exact z7J DD S FV (z3R DC S FV ih) (z5j DR S FV ih) (z5h DT S ih)
def z0i (K:kE):Sp:=fun vs H Q _=>∃(a t:Addr) (ns:List Int) (c:Nat) (cells:List Int) (many:Int),vs=[.ref a,.ref t,.int many]/\Scr K H a (ns.map V.int)/\ns.length<=1000/\cells.length=ns.length/\H t=some (.lst (qS c cells))/\c<=100/\1<=many/\many<=12/\
 ∀(l:Addr) (as:List Addr) (rs:List Row) (k c':Nat) (cells':List Int) H',H' l=some (.lst (as.map V.ref))->q0 H' as rs->Good 0 k rs->(∃Γ:Int->Option Sta,(∀m,Γ m≠none->0<=m/\m < (k:Int))/\chk Γ rs (some (0,[]))=some none)->k<=90->1<=rs.length->rs.length<=140->l≠t->cells'.length=ns.length->H' t=some (.lst (qS c' cells'))->c'<=14000->jc H H' t->Q (.ref l) H'
theorem z4C:zr ["_law_script","_law_town_here","_law_many","_law_rows","_law_marks","_law_k"] ["_law_script","_law_town_here","_law_many"] (zh (top 118)):=fsM
theorem cd2:CD 3 2 968:=⟨2,rfl,by decide,rfl⟩
def LcI (K:kE) (H2:Hp) (p:Pl) (c:Nat) (many:Int) (i:Nat) (σ:L2.St) (H4:Hp):Prop:=∃v c' new k',σ=[some (.ref p.a),some (.ref p.t),some (.int many),some (.ref p.r),some (.ref p.m),v]/\Step K H2 H4 p c [] 0 c' new k' (1+968 * i)/\Good 0 k' new/\Ty 0 false 0 k' new
theorem z2B (D:zx K mg "_law_code" (top 118)) (G:Glo mg) (S:jG P w K mg base) (FV:FN P w K mg base 9 "_law_value" gps (qH K (CV 3) 1 true)) (FD:FN P w K mg base 16 "_law_deed" gps (qH K (CD 3) 0 false)):FN P w K mg base 17 "_law_code" Vd (z0i K):=by
 refine FN.o D z4C fun f cdv A vY s H vs Q E hr h=>?_
 obtain ⟨a,t,ns,c,cells,many,rfl,hS,hns,hcl,hT,hc,hm1,hm2,q⟩:=h;have hr1:=hr.mono (vV:1<=16);have hr9:=hr.mono (vV:9<=16);refine ⟨_,z8 (zK (i:=3) z4C.nd rfl (Or.inl rfl) (qe z7))
  (z8 (zK (i:=4) z4C.nd rfl (Or.inl rfl) (qe z7))
  (z8 (jI vn rfl (j5 rfl G.range (z6 (qa js zl (zw S.draw hr1 rfl (z6 (pvX 0) (z6 (pvX 1) (z6 (pvX 2) z7))))) z7)) (zC (i:=5) z4C.nd rfl (Or.inl rfl))
   (zi (zY (zt Je (zH zW rfl G.len qA (z6 (pvX 3) z7)) zl (zA _))
    (zi (zp (zw FD hr rfl (z6 (pvX 0) (z6 (pvX 1) (z6 (pvX 3) (z6 (pvX 4) (z6 zl z7)))))))) zE)))
  (z8 (zp (zw FV hr9 rfl (z6 (pvX 0) (z6 (pvX 1) (z6 (pvX 3) (z6 (pvX 4) (z6 zl z7)))))))
  (z8 (zp (zF S.put2 hr1 rfl (z6 (pvX 3) (z6 zq z7))))
  (z8 (zY (PW.pt (QA (zt Jf (zH zW rfl G.len qA (z6 (pvX 3) z7)) zl (zA _)) (Z5 (zt Jf (zH zW rfl G.len qA (z6 (pvX 4) z7)) zl (zA _)))))
   (zi (zu (qe (z6 (qb (z6 zq (z6 zq (z6 zl z7)))) (z6 (qb (z6 zq (z6 qk (z6 zl z7)))) z7))))) zE)
  (zi (zu (pvX 3)))))))),?_⟩
 symm
 refine ⟨vW,fun r hr0=>⟨vW,fun m hm0=>?_⟩⟩;have sr:Same H (upd H r (.lst [])):=zo hr0 _;have sm:Same (upd H r (.lst [])) (upd (upd H r (.lst [])) m (.lst [])):=zo hm0 _;have rm:r≠m:=ze (H:=upd H r (.lst [])) zc hm0;have tr:t≠r:=ze hT hr0;have tm:t≠m:=ze (sr _ _ hT) hm0;have s02:=sr.trans sm;generalize hH2:upd (upd H r (.lst [])) m (.lst [])=H2 at *;have hr2:H2 r=some (.lst []):=by rw [<-hH2,zj rm];exact zc
 have hm2':H2 m=some (.lst []):=by rw [<-hH2];exact zc
 have g:GS K H2 ⟨a,t,r,m,ns⟩ c [] 0:=⟨hS.keep fun o u e=>s02 _ _ e,hns,⟨cells,hcl,s02 _ _ hT⟩,⟨[],hr2,.nil⟩,hm2',tr,tm,rm⟩
 generalize hp:(⟨a,t,r,m,ns⟩:Pl)=p at *;have pa:p.a=a:=by rw [<-hp]
 have pt:p.t=t:=by rw [<-hp]
 have pr:p.r=r:=by rw [<-hp]
 have pm:p.m=m:=by rw [<-hp]
 have pn:p.ns=ns:=by rw [<-hp]
 subst pa pt pr pm pn;clear hp;refine ⟨_,rfl,_,rfl,_,rfl,jB g (by lia) (by lia) (by lia) fun j H3 j0 j1 s3=>?_⟩;refine ⟨_,_,rfl,rfl,1+j,rfl,by lia,by lia,ji (lo:=0) (n:=(1+j).toNat) (LcI K H2 p c many)
  ⟨none,_,_,_,rfl,s3,Good.nil 0,(Ty.nil 0).weak⟩ ?_ ?_⟩
 ·rintro i σ H4 hi ⟨v,c',new,k',rfl,st,gd,ty⟩;have hin:i < 12:=by lia
  have l:=st.len;obtain ⟨as,h3,h4⟩:=st.gs.rows;refine ⟨_,rfl,p.r,_,rfl,.inl (SqL.of h3),_,_,rfl,rfl,_,rfl,?_⟩;refine ite2 (fun c4=>?_) (fun c4=>?_)
  ·refine ⟨_,rfl,_,rfl,_,rfl,_,rfl,p,_,_,_,_,968,rfl,cd2,st.gs,(by have:=st.c2;lia),(by simp at l ⊢;lia),(by have:=st.k2;lia),fun c5 n5 k5 H5 s5 g5 y5=>?_⟩;exact ⟨_,c5,new++n5,k5,rfl,(st.trans s5).more (by lia),gd.app g5 (vi _) s5.k1,(ty.app y5 (vi _) s5.k1 (by decide)).cast (by decide)⟩
  ·exact ⟨_,c',new,k',rfl,st.more (by lia),gd,ty⟩
 rintro σ H4 ⟨v4,c4,n4,k4,rfl,t4,g4,y4⟩;have t4:=t4.more (show _<=11617 by lia);refine ⟨_,rfl,_,rfl,_,rfl,_,rfl,p,_,_,_,_,31,rfl,cv1,t4.gs,(by have:=t4.c2;lia),(by have:=t4.len;simp at this ⊢;lia),(by have:=t4.k2;lia),fun c5 n5 k5 H5 s5 g5 y5=>?_⟩;have t5:=t4.trans s5;refine ⟨_,rfl,qh t5.gs (by have:=t5.len;simp at this ⊢;lia) fun H6 s6=>?_⟩;have t6:=t5.trans s6;have L5:=zP (kD t5.len (show _<=15000 by simp));have g6:=(g4.app g5 (vi _) s5.k1).put (vi _) QM L5.1 L5.2;have cK:n4.length+n5.length<=998->∃Γ:Int->Option Sta,(∀m,Γ m≠none->0<=m/\m < (k5:Int))/\chk Γ (n4++n5++[(⟨Str.ofString "return",.non,10+(([]++(n4++n5):List Row).length:Int) / 2⟩:Row)]) (some (0,[]))=some none:=fun hz=>JX (y4.whole y5 (vi _) s5.k1 _ hz)
 have hlen:(n4++n5++[(⟨Str.ofString "return",.non,10+(([]++(n4++n5):List Row).length:Int) / 2⟩:Row)]).length=n4.length+n5.length+1:=by rw [ku,ku];rfl
 generalize hn:n4++n5++[(⟨Str.ofString "return",.non,10+(([]++(n4++n5):List Row).length:Int) / 2⟩:Row)]=nn at *;have hpos:1<=nn.length:=by rw [<-hn];simp only [ku,kX,List.length_nil,kL];lia
 obtain ⟨as,h3,h4⟩:=t6.gs.rows;have hal:(as.map V.ref).length=nn.length:=by rw [kq,h4.len];rfl
 obtain ⟨cells',hl',hT'⟩:=t6.gs.town;have hc6:=t6.c2;have kp:jc H H6 p.t:=fun b o e hb=>t6.keep b o (s02 _ _ e) hb (ze e hr0) (fun z=>by
  have:=sr _ _ e
  rw [z,hm0] at this;cases this)
 have two:∀H7,Same H6 H7->∀x y l,H7 x=some (.tup [.str "load",.str "a",.int 7])->H7 y=some (.tup [.str "return",.non,.int 8])->H7 l=some (.lst [.ref x,.ref y])->l≠p.t->Q (.ref l) H7:=fun H7 s7 x y l hx hy hl hlt=>by
  have b1:Bare "load" (.str "a"):=z0X (by simp);refine q l [x,y] [⟨"load",.str "a",7⟩,⟨"return",.non,8⟩] 0 _ cells' H7 hl (.cons hx (.cons hy .nil)) ?_ z2K (by decide) (by simp) (by simp) hlt hl' (s7 _ _ hT') (by lia) fun b o e hb=>s7 _ _ (kp b o e hb)
  exact (b1.good (by decide) (by decide) 0).put (ki _) QM (by decide) (by decide)
 have fin:nn.length<=140->k5<=90->Q (.ref p.r) H6:=fun h1 h2=>q p.r as nn k5 _ cells' H6 h3 h4 g6 (cK (by lia)) h2 hpos h1 g.tr.symm hl' hT' (by lia) kp
 refine ⟨_,rfl,p.r,_,rfl,.inl (SqL.of h3),_,_,rfl,rfl,_,rfl,?_⟩;have qW:tTup (jl (tC (.str "load")) (jl (tC (.str "a")) (jl (tC (.int 7)) tNil))) [some (.ref p.a),some (.ref p.t),some (.int many),some (.ref p.r),some (.ref p.m),v4] H6 (fun x H7=>tTup (jl (tC (.str "return")) (jl (tC .non) (jl (tC (.int 8)) tNil))) [some (.ref p.a),some (.ref p.t),some (.int many),some (.ref p.r),some (.ref p.m),v4] H7 fun y H8=>[x,y].length<=sizeLine/\∀l,H8 l=none->Q (.ref l) (upd H8 l (.lst [x,y]))):=by
  refine ⟨vW,fun x hx=>⟨vW,fun y hy=>⟨vW,fun l hl=>?_⟩⟩⟩;have sx:Same H6 (upd H6 x (.tup [.str "load",.str "a",.int 7])):=zo hx _;have sy:=zo hy (.tup [.str "return",.non,.int 8]);have sl:=zo hl (.lst [.ref x,.ref y]);refine two _ (sx.trans (sy.trans sl)) x y l (sl _ _ (sy _ _ zc)) (sl _ _ zc) zc ?_;exact (ze (sy _ _ (sx _ _ hT')) hl).symm
 refine ite2 (fun c1=>?_) (fun c1=>?_)
 ·exact iteT qW
 ·have hn1:nn.length<=140:=by
   rw [hal] at c1;have:¬((140:Int) < (nn.length:Int)):=fun z=>c1 (ko z)
   lia
  refine ⟨_,rfl,p.m,_,rfl,.inl (SqL.of t6.gs.marks),_,_,rfl,rfl,_,rfl,?_⟩;refine ite2 (fun c2=>qW) (fun c2=>?_);rw [ZB] at c2;have hk:k5<=90:=by
   have:¬((90:Int) < (k5:Int)):=fun z=>c2 (ko z)
   lia
  exact ⟨_,rfl,fin hn1 hk⟩
end
set_option autoImplicit false
set_option linter.unusedVariables false
theorem Q8 {p:Row->Bool}:∀(l:List Row) (i:Nat) (r:Row),l[i]?=some r->p r=true->l.countP p<=1->l.findIdx? p=some i
 | [],_,_,h,_,_=>by simp at h
 | x :: l,0,r,h,hp,_=>by
  have e:x=r:=by simpa using h
  rw [List.findIdx?_cons,e,kG hp]
 | x :: l,i+1,r,h,hp,hc=>by
  have h':l[i]?=some r:=by simpa using h
  have hm:=kM h';have hpos:0 < l.countP p:=List.countP_pos_iff.mpr ⟨r,hm,hp⟩;rw [List.countP_cons] at hc;have hx:¬p x=true:=fun e=>by rw [kG e] at hc;lia
  rw [kF hx] at hc;rw [List.findIdx?_cons,kF hx,Q8 l i r h' hp hc];rfl
theorem z0H {p:Row->Bool} {l:List Row} (h:l.countP p≠0):(l.findIdx? p).isSome=true:=by
 rw [List.findIdx?_isSome,List.any_eq_true];have:0 < l.countP p:=by lia
 obtain ⟨r,h1,h2⟩:=List.countP_pos_iff.mp this;exact ⟨r,h1,h2⟩
theorem Good.mark {k:Nat} {rs:List Row} (g:Good 0 k rs) {r:Row} (hr:r∈rs) (hs:qg r.op=some ("mark":Str)) {m:Nat} (hm:r.arg=.int (m:Int)):lab m rs≠0:=by
 by_cases c:r.op="label"
 ·have:0 < rs.countP (JV m):=List.countP_pos_iff.mpr ⟨r,hr,by unfold JV;rw [ko c,ko hm];rfl⟩
  unfold lab;lia
 ·refine g.useI m ?_;have:0 < rs.countP (JU m):=List.countP_pos_iff.mpr ⟨r,hr,by unfold JU;rw [ko hs,ko c,ko hm];rfl⟩
  unfold use;lia
theorem Good.push {k:Nat} {rs:List Row} (g:Good 0 k rs):∀r∈rs,r.op="push"->okV r.arg=true:=fun r hr=>by
 obtain ⟨_,_,_,_,h,_⟩:=g.row r hr;exact h.1
theorem Good.named {k:Nat} {rs:List Row} (g:Good 0 k rs):∀r∈rs,r.op="store"\/r.op="load"->r.arg∈([.str "a",.str "b",.str "c"]:List V):=fun r hr=>by
 obtain ⟨_,_,_,_,h,_⟩:=g.row r hr;exact h.2
theorem Good.typed {k:Nat} {rs:List Row} (g:Good 0 k rs) (h:∃Γ:Int->Option Sta,(∀m,Γ m≠none->0<=m/\m < (k:Int))/\chk Γ rs (some (0,[]))=some none):∃S,jb rs S:=by
 obtain ⟨Γ,h1,h2⟩:=h;refine ⟨_,z4t (fun m s e=>?_) h2⟩;obtain ⟨a,b⟩:=h1 m (by rw [e];nofun);obtain ⟨j,rfl⟩:=yf a;exact z0H (g.labA j (vi _) (by lia))
theorem Good.code {k:Nat} {rs:List Row} (g:Good 0 k rs) (hk:k<=90) (h1:1<=rs.length) (h2:rs.length<=150):Code rs:=by
 refine ⟨fun r hr=>?_,fun i r hi=>?_,h1,h2⟩
 ·obtain ⟨s,hs,l0,l1,_,h⟩:=g.row r hr;have hf:jj s r.arg=true:=by
   rcases h with ⟨rfl,m,hm⟩ | ⟨_,hf⟩
   ·have:=(g.labI m (g.mark hr hs hm)).2
    rw [hm];exact ZO (lo:=0) (hi:=99) (fun x=>by rfl) (by lia) (by lia)
   ·exact hf
  show rowV r.op r.arg (.int r.line)=true;unfold rowV ZS;rw [hs];show (true&&jj s r.arg&&qX (.int r.line) 0 9999)=true;rw [hf];show qX (.int r.line) 0 9999=true;show (decide (0<=r.line)&&decide (r.line<=9999))=true;rw [ko l0,ko l1];rfl
 ·have hr:=kM hi;obtain ⟨s,hs,l0,l1,_,h⟩:=g.row r hr;unfold jW;by_cases c:r.op="label"
  ·rw [kG c];have e:s="mark":=by
    rw [c,ZC] at hs;exact (kH hs).symm
   rcases h with ⟨_,m,hm⟩ | ⟨hn,_⟩
   ·rw [hm];show decide (zM rs (m:Int)=some i)=true;exact ko (Q8 rs i r hi (by show (decide (r.op="label")&&decide (r.arg=.int (m:Int)))=true;rw [ko c,ko hm];rfl) (g.lab1 m))
   ·exact vd e hn
  ·rw [kF c];by_cases c2:qg r.op=some ("mark":Str)
   ·rw [kG c2];have e:s="mark":=by
     rw [c2] at hs;exact (kH hs).symm
    rcases h with ⟨_,m,hm⟩ | ⟨hn,_⟩
    ·rw [hm];exact z0H (g.mark hr c2 hm)
    ·exact vd e hn
   ·rw [kF c2]
end My
set_option maxHeartbeats 4000000
namespace L2
section
variable {X:Cx} {vX:List (Addr × Obj)} {σ:St} {H:Hp} {s:Shared}
end
end L2
namespace L2
section
variable {X:Cx}
end
end L2
set_option maxHeartbeats 8000000
namespace My
open L2
variable {P:Program} {w:World} {K:kE} {mg:Str->Option Value} {base:Heap}
section
def z5X (K:kE):Sp:=fun vs H Q _=>∃(a:Addr) (ns:List Int),vs=[.ref a]/\Scr K H a (ns.map V.int)/\ns.length<=1000/\∀t H',Same H H'->H t=none->H' t=some (.lst (qS 0 ns))->Q (.ref t) H'
theorem za3:zr ["_law_script"] ["_law_script"] (zh (top 105)):=fsM
theorem z7i (D:zx K mg "_law_town" (top 105)) (G:Glo mg):FN P w K mg base 1 "_law_town" ["_law_script"] (z5X K):=by
 refine FN.o D za3 fun f cdv A vY s H vs Q E hr h=>?_
 obtain ⟨a,ns,rfl,hS,hn,q⟩:=h;refine ⟨_,zi (zu (qa z3q (qe (z6 zl z7)) (jg jL rfl G.list Zq (z6 (pvX 0) z7)))),?_⟩
 symm
 refine ⟨vW,fun p hp=>?_⟩;have sp:=zo hp (.lst [.int 0]);refine ⟨_,rfl,a,ns.map V.int,rfl,.inl (hS.keep fun o u e=>sp _ _ e).sq,fun l hl=>?_⟩;have sl:=zo hl (.lst (ns.map V.int));have npl:p≠l:=ze (H:=upd H p (.lst [.int 0])) zc hl;refine ⟨p,l,[.int 0],ns.map V.int,rfl,rfl,sl _ _ zc,zc,?_,fun t ht=>?_⟩
 ·rw [kq,sizeLine_eq];show 1+ns.length<=_;lia
 ·have st:=zo ht (.lst ([.int 0]++ns.map V.int));refine q t _ ((sp.trans sl).trans st) ?_ zc;cases e:H t with
  | none=>rfl
  | some o=>rw [(sp.trans sl) _ _ e] at ht;cases ht
theorem z3r {v:V} (h:okV v=true):Ji v 1000000000000000000=true:=by
 unfold Ji;cases v with
 | non=>rfl
 | bl b=>rfl
 | int i=>
  have hb:big i=false:=by simpa [okV] using h
  have h1:¬1000000000000000000 < i.natAbs:=of_decide_eq_false hb;have:qX (.int i) (-1000000000000000000) 1000000000000000000=true:=by
   show (decide (-1000000000000000000<=i)&&decide (i<=1000000000000000000))=true;rw [ko (by lia),ko (by lia)];rfl
  rw [this];simp
 | str z=>
  rw [(Qk z (kI h)).2];simp
 | _=>cases h
structure Zw (n:Nat) (kvs:List (Key × V)):Prop where
 len:kvs.length<=n
 all:∀q∈kvs,(∃nm:Str,q.1=Sum.inr nm/\nm∈(["a","b","c"]:List Str))/\okV q.2=true
theorem J8:∀nm∈(["a","b","c"]:List Str),nm.length<=4/\QZ (.str nm)=true:=vV
theorem Zw.names {kvs:List (Key × V)} (h:Zw 3 kvs):z0a kvs:=by
 refine ⟨by have:=h.len;lia,fun p hp=>?_⟩;obtain ⟨⟨nm,e,hn⟩,hv⟩:=h.all p hp;obtain ⟨h1,h2⟩:=J8 nm hn;exact ⟨nm,e,by rw [sizeLine_eq];lia,h2,ZJ (jY hv),z3r hv⟩
theorem Zw.put {n:Nat} {kvs:List (Key × V)} (h:Zw n kvs) {nm:Str} (hn:nm∈(["a","b","c"]:List Str)) {v:V} (hv:okV v=true):Zw (n+1) (putK kvs (Sum.inr nm) v):=by
 refine ⟨by have:=(z3b (kvs:=kvs) (k:=(Sum.inr nm:Key)) (v:=v) (fun q hq=>(h.all q hq).2) hv).2;have:=h.len;lia,fun q hq=>⟨?_,(z3b (fun q hq=>(h.all q hq).2) hv).1 q hq⟩⟩;unfold putK at hq;split at hq
 ·obtain ⟨p,hp,rfl⟩:=yl.mp hq;split
  ·exact (h.all p hp).1
  ·exact (h.all p hp).1
 ·rcases ya.mp hq with z | z
  ·exact (h.all q z).1
  ·rw [kz.mp z];exact ⟨nm,rfl,hn⟩
def z32 (K:kE):Sp:=fun vs H Q _=>∃(a t:Addr) (ns:List Int) (c:Nat) (cells:List Int),vs=[.ref a,.ref t]/\Scr K H a (ns.map V.int)/\ns.length<=1000/\cells.length=ns.length/\H t=some (.lst (qS c cells))/\c<=90000/\
 ∀(d:Addr) (kvs:List (Key × V)) (c':Nat) (cells':List Int) H',H' d=some (.dK kvs)->Zw 3 kvs->cells'.length=ns.length->H' t=some (.lst (qS c' cells'))->c'<=c+6->jc H H' t->Q (.ref d) H'
theorem z6L:zr ["_law_script","_law_town_here","_law_found","_law_name"] ["_law_script","_law_town_here"] (zh (top 119)):=fsM
theorem z5t (D:zx K mg "_law_given" (top 119)) (S:jG P w K mg base):FN P w K mg base 4 "_law_given" Vc (z32 K):=by
 refine FN.o D z6L fun f cdv A vY s H vs Q E hr h=>?_
 obtain ⟨a,t,ns,c,cells,rfl,hS,hns,hcl,hT,hc,q⟩:=h;have hr1:=hr.mono (vV:1<=3);have hu:=Ql hr;refine ⟨_,z8 (zK (i:=2) z6L.nd rfl (Or.inl rfl) z1J)
  (z8 (jI vn rfl (z3i (qb (z6 zq (z6 zq (z6 zq z7))))) (zC (i:=3) z6L.nd rfl (Or.inl rfl))
   (zi (zY (zt Jf (zw S.draw hr1 rfl (z6 (pvX 0) (z6 (pvX 1) (z6 zl z7)))) zl (zA _))
    (zi (z1c hu (pvX 2) (pvX 3) (zw S.const hr rfl (z6 (pvX 0) (z6 (pvX 1) z7))) rfl)) zE)))
  (zi (zu (pvX 2)))),?_⟩
 symm
 refine fun d hd=>⟨vW,fun tp htp=>?_⟩
 have s1:=zo hd (.dK []);have s2:=zo htp (.tup [.str "a",.str "b",.str "c"]);have s12:=s1.trans s2;have hd2:upd (upd H d (.dK [])) tp (.tup [.str "a",.str "b",.str "c"]) d=some (.dK []):=s2 _ _ zc;have hp2:upd (upd H d (.dK [])) tp (.tup [.str "a",.str "b",.str "c"]) tp=some (.tup [.str "a",.str "b",.str "c"]):=zc;have ndt:d≠t:=(ze hT hd).symm;have ndp:d≠tp:=zL hd2 hp2 nofun;generalize upd (upd H d (.dK [])) tp (.tup [.str "a",.str "b",.str "c"])=H0 at *;refine ⟨tp,rfl,⟨_,SqT.of hp2⟩,z7f (K:=K) (a:=tp) (xs:=[.str "a",.str "b",.str "c"]) (fun i σ H2=>∃(v:Option V) (kvs:List (Key × V)) (c2:Nat) (cells2:List Int),σ=[some (.ref a),some (.ref t),some (.ref d),v]/\H2 d=some (.dK kvs)/\Zw i kvs/\cells2.length=ns.length/\H2 t=some (.lst (qS c2 cells2))/\c2<=c+2 * i/\jc H H2 t/\H2 tp=some (.tup [.str "a",.str "b",.str "c"]))
  ⟨none,[],c,cells,rfl,hd2,⟨ki _,fun _ h=>by cases h⟩,hcl,s12 _ _ hT,by lia,fun b o e _=>s12 _ _ e,hp2⟩ (fun i σ H2 _ zz=>by obtain ⟨_,_,_,_,_,_,_,_,_,_,_,e⟩:=zz;exact SqT.of e) ?_ ?_⟩
 ·rintro i x σ H2 hi ⟨v,kvs,c2,cells2,rfl,e1,e2,e3,e4,e5,e6,e7⟩;have hx:∃nm:Str,x=.str nm/\nm∈(["a","b","c"]:List Str):=by
   have:=kM hi
   simp only [kJ,kC,or_false] at this;rcases this with z | z | z
   all_goals exact ⟨_,z,by simp⟩
  obtain ⟨nm,rfl,hnm⟩:=hx;have hi3:i < 3:=(kj.mp hi).1;have hS2:Scr K H2 a (ns.map V.int):=hS.keep1 e6 hT;refine ⟨_,rfl,_,rfl,a,t,ns,c2,cells2,3,rfl,hS2,hns,e3,e4,by lia,by decide,by decide,fun j cells3 H3 j0 j1 l3 t3 k3=>?_⟩;have hd3:=k3 _ _ e1 ndt;have hp3:=k3 _ _ e7 (zL e7 e4 nofun);have k03:jc H H3 t:=fun b o e hb=>k3 b o (e6 b o e hb) hb
  refine ⟨_,_,rfl,rfl,_,rfl,?_⟩;refine ite2 (fun _=>?_) (fun _=>?_)
  ·have hS3:Scr K H3 a (ns.map V.int):=hS2.keep1 k3 e4;refine ⟨_,rfl,_,rfl,a,t,ns,c2+1,cells3,rfl,hS3,hns,l3,t3,by lia,fun v4 cells4 H4 pv4 ov4 l4 t4 k4=>?_⟩;have hd4:=k4 _ _ hd3 ndt;have hp4:=k4 _ _ hp3 (zL hp3 t3 nofun);refine ⟨_,rfl,_,rfl,d,_,rfl,DPut.k (k:=Sum.inr nm) hd4 (JP (by have:=e2.len;lia)),?_⟩;refine ⟨_,_,c2+1+1,cells4,rfl,zc,e2.put hnm ov4,l4,by rw [zj ndt.symm];exact t4,by lia,fun b o e hb=>?_,by rw [zj ndp.symm];exact hp4⟩;have:b≠d:=ze e hd
   rw [zj this];exact k4 b o (k03 b o e hb) hb
  ·exact ⟨_,kvs,c2+1,cells3,rfl,hd3,⟨by have:=e2.len;lia,e2.all⟩,l3,t3,by lia,k03,hp3⟩
 ·rintro σ H2 ⟨v,kvs,c2,cells2,rfl,e1,e2,e3,e4,e5,e6,e7⟩;exact ⟨_,rfl,q d kvs c2 cells2 H2 e1 e2 e3 e4 (by have:([.str "a",.str "b",.str "c"]:List V).length=3:=rfl;lia) e6⟩
end
theorem z6j:∀op∈(["iftrue","iffalse"]:List Str),Uses op:=by
 intro op h;rcases kJ.mp h with z | z
 ·rw [z];exact z88
 ·rw [kz.mp z];exact z0e
theorem z6h:∀op∈(["ortrue","orfalse"]:List Str),Uses op:=by
 intro op h;rcases kJ.mp h with z | z
 ·rw [z];exact z86
 ·rw [kz.mp z];exact z87
theorem JG {v:V} {a b:Str} (h:v∈([.str a,.str b]:List V)):∃op,v=.str op/\op∈[a,b]:=by
 rcases kJ.mp h with z | z
 ·exact ⟨a,z,by simp⟩
 ·exact ⟨b,kz.mp z,by simp⟩
noncomputable def hops (k:Nat) (o1 o2 o3 o4:Str) (x:V) (l:Nat->Int):List Row:=
 [⟨"load",.str "b",l 0⟩]++[⟨o1,.int ((k+4:Nat):Int),l 1⟩]++[⟨"label",.int ((k+4:Nat):Int),l 2⟩]++[⟨"load",.str "a",l 3⟩]++[⟨o2,.int (k:Int),l 4⟩]++[⟨"load",.str "b",l 5⟩]++[⟨"label",.int (k:Int),l 6⟩]++[⟨o3,.int ((k+1:Nat):Int),l 7⟩]++[⟨"push",x,l 8⟩]++[⟨"label",.int ((k+1:Nat):Int),l 9⟩]++[⟨o4,.int ((k+2:Nat):Int),l 10⟩]++[⟨"push",.int 5,l 11⟩]++[⟨"tell",.non,l 12⟩]++[⟨"jump",.int ((k+2:Nat):Int),l 13⟩]++[⟨"label",.int ((k+2:Nat):Int),l 14⟩]++[⟨"jump",.int ((k+3:Nat):Int),l 15⟩]++[⟨"push",.int 6,l 16⟩]++[⟨"tell",.non,l 17⟩]++[⟨"label",.int ((k+3:Nat):Int),l 18⟩]
theorem Ty.hops {k:Nat} {o1 o2 o3 o4:Str} (h1:o1∈(["iftrue","iffalse"]:List Str)) (h2:o2∈(["ortrue","orfalse"]:List Str)) (h3:o3∈(["ortrue","orfalse"]:List Str)) (h4:o4∈(["iftrue","iffalse"]:List Str)) (x:V) (l:Nat->Int):
  Ty 0 true k (k+5) (My.hops k o1 o2 o3 o4 x l):=by
 have ld:=show ("load":Str)≠"label" by trivial
 have pu:=show ("push":Str)≠"label" by trivial
 have te:=show ("tell":Str)≠"label" by trivial
 have ju:=show ("jump":Str)≠"label" by trivial
 unfold My.hops;refine ⟨fun d gs hg=>?_,fun Γ hΓ=>?_⟩
 ·have hl:=hg.len;simp only [ku,kL] at hl;have hz:gs.length<=1000:=by lia
  refine ⟨fun m=>if m=(k:Int)\/m=((k+1:Nat):Int) then some (d+1,gs) else some (d,gs),some (d+0,gs),.inl rfl,fun Γ he hE=>?_⟩;have e0:Γ (k:Int)=some (d+1,gs):=(he k (ki _) (by lia)).trans (kG (.inl rfl));have e1:Γ ((k+1:Nat):Int)=some (d+1,gs):=(he (k+1) (by lia) (by lia)).trans (kG (.inr rfl));have e2:Γ ((k+2:Nat):Int)=some (d,gs):=(he (k+2) (by lia) (by lia)).trans (kF (by lia));have e3:Γ ((k+3:Nat):Int)=some (d,gs):=(he (k+3) (by lia) (by lia)).trans (kF (by lia));have e4:Γ ((k+4:Nat):Int)=some (d,gs):=(he (k+4) (by lia) (by lia)).trans (kF (by lia));have p0:=hg.pos;have p1:0<=d+1:=by lia
  have t1:∀g,gs.getLast?=some g->g.2<=d+1:=fun g e=>by have:=hg.top g e;lia
  have dz:d - 0+1=d+1:=by lia
  have dm:d+1 - 1+0=d:=by lia
  have L:∀(v:V) (n:Int),chk Γ [⟨"load",v,n⟩] (some (d,gs))=some (some (d+1,gs)):=fun v n=>by
   rw [z1f.chk v n p0 (fun g e=>by have:=hg.top g e;lia) hz hE,dz]
  have U:∀(v:V) (n:Int),chk Γ [⟨"push",v,n⟩] (some (d,gs))=some (some (d+1,gs)):=fun v n=>by
   rw [JF.chk v n p0 (fun g e=>by have:=hg.top g e;lia) hz hE,dz]
  have T:∀(n:Int),chk Γ [⟨"tell",.non,n⟩] (some (d+1,gs))=some (some (d,gs)):=fun n=>by
   rw [(jm "tell" (by simp)).chk .non n (by lia) (fun g e=>by have:=hg.top g e;lia) hz hE,dm]
  simp only [zB,L,U,T,kh,z20 h1 p0 hg.top hz e4,qy p0 hg.top hz e4 (.inr rfl),z4f h2 p0 hg.top hz e0,qy p1 t1 hz e0 (.inr rfl),z4f h3 p0 hg.top hz e1,qy p1 t1 hz e1 (.inr rfl),z20 h4 p0 hg.top hz e2,ZD p0 hg.top hz e2,qy p0 hg.top hz e2 (.inl rfl),ZD p0 hg.top hz e3];rw [zO pu,kh,zO te,kh,qy p0 hg.top hz e3 (.inl rfl),vN]
 ·have e0:Γ (k:Int)=none:=hΓ k (ki _) (by lia);have e1:Γ ((k+1:Nat):Int)=none:=hΓ (k+1) (by lia) (by lia);have e2:Γ ((k+2:Nat):Int)=none:=hΓ (k+2) (by lia) (by lia);have e3:Γ ((k+3:Nat):Int)=none:=hΓ (k+3) (by lia) (by lia);have e4:Γ ((k+4:Nat):Int)=none:=hΓ (k+4) (by lia) (by lia);have L:∀(v:V) (n:Int),chk Γ [⟨"load",v,n⟩] none=some none:=fun v n=>zO ld
  have U:∀(v:V) (n:Int),chk Γ [⟨"push",v,n⟩] none=some none:=fun v n=>zO pu
  have T:∀(v:V) (n:Int),chk Γ [⟨"tell",v,n⟩] none=some none:=fun v n=>zO te
  have J:∀(v:V) (n:Int),chk Γ [⟨"jump",v,n⟩] none=some none:=fun v n=>zO ju
  have O1:∀(v:V) (n:Int),chk Γ [⟨o1,v,n⟩] none=some none:=fun v n=>zO (z4T o1 h1).2.1
  have O2:∀(v:V) (n:Int),chk Γ [⟨o2,v,n⟩] none=some none:=fun v n=>zO (z4Q o2 h2).2.1
  have O3:∀(v:V) (n:Int),chk Γ [⟨o3,v,n⟩] none=some none:=fun v n=>zO (z4Q o3 h3).2.1
  have O4:∀(v:V) (n:Int),chk Γ [⟨o4,v,n⟩] none=some none:=fun v n=>zO (z4T o4 h4).2.1
  simp only [zB,L,U,T,J,O1,O2,O3,O4,kh,zR e0,zR e1,zR e2,zR e3,zR e4]
theorem Good.hops {k:Nat} {o1 o2 o3 o4:Str} (h1:o1∈(["iftrue","iffalse"]:List Str)) (h2:o2∈(["ortrue","orfalse"]:List Str)) (h3:o3∈(["ortrue","orfalse"]:List Str)) (h4:o4∈(["iftrue","iffalse"]:List Str)) {x:V} (hx:Bare "push" x) {l:Nat->Int} (hl:∀i,0<=l i/\l i<=9999):
  Good k (k+5) (My.hops k o1 o2 o3 o4 x l):=by
 have u1:=z6j o1 h1;have u2:=z6h o2 h2;have u3:=z6h o3 h3;have u4:=z6j o4 h4;have b5:Bare "push" (.int 5):=Jv vV vV;have b6:Bare "push" (.int 6):=Jv vV vV;have ba:Bare "load" (.str "a"):=z0X (by simp);have bb:Bare "load" (.str "b"):=z0X (by simp);have nl:∀m,lab m (My.hops k o1 o2 o3 o4 x l)=ind m (k+4)+ind m k+ind m (k+1)+ind m (k+2)+ind m (k+3):=fun m=>by
  unfold My.hops;simp only [qc,qq,u1.noLab,u2.noLab,u3.noLab,u4.noLab,qt.noLab,hx.noLab,b5.noLab,b6.noLab,ba.noLab,bb.noLab,ZH.noLab];lia
 have nu:∀m,use m (My.hops k o1 o2 o3 o4 x l)=ind m (k+4)+ind m k+ind m (k+1)+ind m (k+2)+ind m (k+2)+ind m (k+3):=fun m=>by
  unfold My.hops;simp only [Zd,ZI,u1.use,u2.use,u3.use,u4.use,qt.use,hx.noUse,b5.noUse,b6.noUse,ba.noUse,bb.noUse,ZH.noUse];lia
 have L:=fun i=>(hl i).1
 have M:=fun i=>(hl i).2
 refine ⟨?_,fun m=>?_,fun m h=>?_,fun m h=>?_,fun m ha hb=>?_⟩
 ·unfold My.hops;have A:∀{r:Row},RowG r->AllG [r]:=fun h=>AllG.one h
  exact ((((((((((((((((((A (bb.rowG (L 0) (M 0))).app (A (u1.rowG (L 1) (M 1)))).app (A (qJ (L 2) (M 2)))).app (A (ba.rowG (L 3) (M 3)))).app (A (u2.rowG (L 4) (M 4)))).app (A (bb.rowG (L 5) (M 5)))).app (A (qJ (L 6) (M 6)))).app (A (u3.rowG (L 7) (M 7)))).app (A (hx.rowG (L 8) (M 8)))).app (A (qJ (L 9) (M 9)))).app (A (u4.rowG (L 10) (M 10)))).app (A (b5.rowG (L 11) (M 11)))).app (A (ZH.rowG (L 12) (M 12)))).app (A (qt.rowG (L 13) (M 13)))).app (A (qJ (L 14) (M 14)))).app (A (qt.rowG (L 15) (M 15)))).app (A (b6.rowG (L 16) (M 16)))).app (A (ZH.rowG (L 17) (M 17)))).app (A (qJ (L 18) (M 18)))
 ·rw [nl];have:=zT m k;have:=zT m (k+1);have:=zT m (k+2);have:=zT m (k+3);have:=zT m (k+4)
  lia
 ·rw [nl] at h;have:=zT m k;have:=zT m (k+1);have:=zT m (k+2);have:=zT m (k+3);have:=zT m (k+4)
  lia
 ·rw [nu] at h;rw [nl];lia
 ·rw [nl];have:=zT m k;have:=zT m (k+1);have:=zT m (k+2);have:=zT m (k+3);have:=zT m (k+4)
  lia
theorem z48 {n:Nat} {g:TG} {tc:TT} {te:TE} {R:Hp->Prop} {H:Hp} {l:Addr} {σ0:L2.St} (Pv:Nat->List V->L2.St->Hp->Prop) (h0:Pv 0 [] σ0 (upd H l (.lst [])))
  (hs:∀(i:Nat) ys σ H,i < n->Pv i ys σ H->g (.int (i:Int)) σ H fun σ2 H4=>tc σ2 H4 fun b H5=>if b=true then te σ2 H5 fun v H6=>H6 l=some (.lst ys)/\ys.length < sizeLine/\∃m',m' < n - i/\m'=n - (i+1)/\i+1<=n/\Pv (i+1) (ys++[v]) σ2 (upd H6 l (.lst (ys++[v])))
   else ∃m',m' < n - i/\m'=n - (i+1)/\i+1<=n/\Pv (i+1) ys σ2 H5) (hd:∀ys σ H,Pv n ys σ H->R H):
  ∃W:Nat->Nat->List V->L2.St->Hp->Prop,(∃m,W 0 m [] σ0 (upd H l (.lst [])))/\∀i m ys σ' H2,W i m ys σ' H2->
   ((Itr 0 n).stop i H2/\R H2)\/((Itr 0 n).go i H2/\∀x H3,(Itr 0 n).yld i H2 x H3->g x σ' H3 fun σ2 H4=>tc σ2 H4 fun b H5=>if b=true then te σ2 H5 fun v H6=>H6 l=some (.lst ys)/\ys.length < sizeLine/\∃m',m' < m/\W (i+1) m' (ys++[v]) σ2 (upd H6 l (.lst (ys++[v])))
    else ∃m',m' < m/\W (i+1) m' ys σ2 H5):=by
 refine ⟨fun i m ys σ H=>m=n - i/\i<=n/\Pv i ys σ H,⟨n,by simp,vi _,h0⟩,?_⟩;rintro i m ys σ H ⟨rfl,hi,p⟩;by_cases hlt:i < n
 ·refine .inr ⟨hlt,fun x H' y=>?_⟩;obtain ⟨e,e2⟩:=y;subst e;have e2:x=.int (i:Int):=by rw [e2,Int.zero_add]
  subst e2;exact hs i ys σ _ hlt p
 ·have e:i=n:=by lia
  subst e;exact .inl ⟨ki _,hd ys σ H p⟩
theorem jK {i:Nat} {x:V} {σ:L2.St} {H:Hp} {Q:L2.St->Hp->Prop} (h:Q (σ.set i (some x)) H):z0C i x σ H Q:=h
theorem z52 {L:List Int} (h:∀x∈L,0<=x/\x<=9999) (i:Nat):0<=L.getD i 10/\L.getD i 10<=9999:=by
 rw [List.getD_eq_getElem?_getD];cases e:L[i]? with
 | none=>exact ⟨by decide,by decide⟩
 | some x=>exact h x (kM e)
theorem z94:∀x∈([]:List Int),0<=x/\x<=9999:=fun _ h=>by cases h
theorem qI {x:Int} {L:List Int} (h:0<=x/\x<=9999) (hL:∀y∈L,0<=y/\y<=9999):∀y∈x :: L,0<=y/\y<=9999:=fun y hy=>(kJ.mp hy).elim (fun e=>by rw [e];exact h) (hL y)
section
variable {K:kE} {H H' H1 H2:Hp} {p:Pl} {c c1 c2 k k1 k2 B B1 B2:Nat} {rs n1 n2:List Row}
theorem qf (g:GS K H p c rs k) (hl:rs.length<=15000) {op:Str} {v:V} {Q:VK} {E:XK} (h:∀H' ln,0<=ln/\ln<=9999->Step K H H' p c rs k c [⟨op,v,ln⟩] k 1->Q .non H'):z0g [.ref p.r,.str op,v] H Q E:=
 qh g (by lia) fun H' s=>h H' _ (zP hl) s
theorem GS.marked (g:GS K H p c rs k) (kp:∀b o,H b=some o->b≠p.m->H' b=some o) (hm:H' p.m=some (.lst (jV k1))):GS K H' p c rs k1:=by
 obtain ⟨cells,h1,h2⟩:=g.town;obtain ⟨as,h3,h4⟩:=g.rows;exact ⟨g.scr.keep fun o u e=>kp _ _ e (zL e g.marks nofun),g.nsl,⟨cells,h1,kp _ _ h2 g.tm⟩,⟨as,kp _ _ h3 g.rm,h4.keep fun b xs e=>kp b _ e (zL e g.marks nofun)⟩,hm,g.tr,g.tm,g.rm⟩
theorem GS.mks (g:GS K H p c rs k) (kp:∀b o,H b=some o->b≠p.m->H' b=some o) {n:Nat} (hm:H' p.m=some (.lst (jV (k+n)))):Step K H H' p c rs k c [] (k+n) n:=by
 refine ⟨?_,ki _,by lia,by simp,by lia,ki _,fun b o e _ _ h3=>kp b o e h3⟩;rw [yc];exact g.marked kp hm
end
theorem Step.fit {K:kE} {H H':Hp} {p:Pl} {c c' k k' B M:Nat} {rs new:List Row} (s:Step K H H' p c rs k c' new k' B) (h:rs.length+M<=15000) (hB:B<=M):(rs++new).length<=15000:=by
 have:=s.n
 rw [ku];lia
theorem Step.fitc {K:kE} {H H':Hp} {p:Pl} {c c' k k' B M:Nat} {rs new:List Row} (s:Step K H H' p c rs k c' new k' B) (h:c+M<=15000) (hB:B<=M):c'<=100000:=by
 have:=s.c2
 lia
theorem z1b {X:Cx} {l:List Stmt} {t:TS} (h:PSs X l t):∃T,PSs X l T/\∀D σ H,t D σ H->T D σ H:=⟨t,h,fun _ _ _ h=>h⟩
def z63 (K:kE):Sp:=fun vs H Q _=>∃(p:Pl) (c:Nat) (rs:List Row) (k:Nat),vs=[.ref p.a,.ref p.t,.ref p.r,.ref p.m]/\GS K H p c rs k/\c+30<=15000/\rs.length+30<=15000/\k+30<=15000/\
 ∀c' new k' H',Step K H H' p c rs k c' new k' 30->Good k k' new->Ty 0 true k k' new->Q .non H'
theorem z8t:zr ["_law_script","_law_town_here","_law_rows","_law_marks","_law_some"] ["_law_script","_law_town_here","_law_rows","_law_marks"] (zh (top 121)):=fsM
noncomputable def z7T:Scope:=(((cpX ((zG (top 121)).getD 0 (.Pass ⟨0,0,0,0⟩))).bind cpS).getD (zh (top 121)))
noncomputable def z7U (L:Addr):List (Str × Addr):=[("_law_marks",L+1)]
noncomputable def zac:List (Str × NameKind):=[(".0",.local),("_law_k",.local),("_law_mark",.globalImplicit),("_law_marks",.cell)]
noncomputable def N121:List Str:=["_law_k","_law_marks"]
theorem zad:N121.Nodup:=vV
theorem zaz {f:Addr} {cdv:Value} {A:Around} {vY:List Env} {s:Shared} {H:Hp} {E:XK}:
  qz (cxOf CX0 P w K mg base ["_law_script","_law_town_here","_law_rows","_law_marks","_law_some"] "_law_hops" (zh (top 121)) f cdv A vY s H E).nox N121 1 [3] z7T (z7U s.heap.objs.size):=
 qz.mk3 (nm:=zac) (ks:=(z7U 0).map Prod.fst) rfl rfl ⟨vV,vV⟩ rfl rfl rfl vV rfl rfl rfl rfl
section
theorem z7E (D:zx K mg "_law_hops" (top 121)) (G:Glo mg) (S:jG P w K mg base):FN P w K mg base 4 "_law_hops" ["_law_script","_law_town_here","_law_rows","_law_marks"] (z63 K):=by
 refine FN.o D z8t fun f cdv A vY s H vs Q E hr h=>?_
 obtain ⟨p,c,rs,k,rfl,g,bc,br,bk,q⟩:=h;have hr1:=hr.mono (vV:1<=3);have hr2:=hr.mono (vV:2<=3);obtain ⟨T2,hT2,bT2⟩:=z1b (X:=(cxOf CX0 P w K mg base ["_law_script","_law_town_here","_law_rows","_law_marks","_law_some"] "_law_hops" (zh (top 121)) f cdv A vY s H E).nox) (l:=(zG (top 121)).drop 17) (z8 (zp (zF S.put3 hr1 rfl (z6 (pvX 2) (z6 zq (z6 zl z7)))))
  (z8 (zp (zF S.put2 hr1 rfl (z6 (pvX 2) (z6 zq z7))))
  (zi (zp (zF S.put3 hr1 rfl (z6 (pvX 2) (z6 zq (z6 (zZ zI (pvX 4) zl (fun _ _=>rfl)) z7))))))))
 obtain ⟨T1,hT1,bT1⟩:=z1b (X:=(cxOf CX0 P w K mg base ["_law_script","_law_town_here","_law_rows","_law_marks","_law_some"] "_law_hops" (zh (top 121)) f cdv A vY s H E).nox) (l:=(zG (top 121)).drop 12) (z8 (zp (zF S.put3 hr1 rfl (z6 (pvX 2) (z6 zq (z6 zl z7)))))
  (z8 (zp (zF S.put2 hr1 rfl (z6 (pvX 2) (z6 zq z7))))
  (z8 (zp (zF S.put3 hr1 rfl (z6 (pvX 2) (z6 zq (z6 (zZ zI (pvX 4) zl (fun _ _=>rfl)) z7)))))
  (z8 (zp (zF S.put3 hr1 rfl (z6 (pvX 2) (z6 zq (z6 (zZ zI (pvX 4) zl (fun _ _=>rfl)) z7)))))
  (z8 (zp (zF S.put3 hr1 rfl (z6 (pvX 2) (z6 zq (z6 (zZ zI (pvX 4) zl (fun _ _=>rfl)) z7))))) hT2)))))
 obtain ⟨T0,hT0,bT0⟩:=z1b (X:=(cxOf CX0 P w K mg base ["_law_script","_law_town_here","_law_rows","_law_marks","_law_some"] "_law_hops" (zh (top 121)) f cdv A vY s H E).nox) (l:=(zG (top 121)).drop 6) (z8 (zp (zF S.put3 hr1 rfl (z6 (pvX 2) (z6 zq (z6 zq z7)))))
  (z8 (zp (zF S.put3 hr1 rfl (z6 (pvX 2) (z6 zq (z6 (zZ zI (pvX 4) zl (fun _ _=>rfl)) z7)))))
  (z8 (zp (zF S.put3 hr1 rfl (z6 (pvX 2) (z6 (zw S.pick hr2 rfl (z6 (pvX 0) (z6 (pvX 1) (z6 (qe (z6 zq (z6 zq z7))) z7)))) (z6 (zZ zI (pvX 4) zl (fun _ _=>rfl)) z7)))))
  (z8 (zp (zF S.put3 hr1 rfl (z6 (pvX 2) (z6 zq (z6 (zw S.const hr rfl (z6 (pvX 0) (z6 (pvX 1) z7))) z7)))))
  (z8 (zp (zF S.put3 hr1 rfl (z6 (pvX 2) (z6 zq (z6 (zZ zI (pvX 4) zl (fun _ _=>rfl)) z7)))))
  (z8 (zp (zF S.put3 hr1 rfl (z6 (pvX 2) (z6 (zw S.pick hr2 rfl (z6 (pvX 0) (z6 (pvX 1) (z6 (qe (z6 zq (z6 zq z7))) z7)))) (z6 (zZ zI (pvX 4) zl (fun _ _=>rfl)) z7))))) hT1))))))
 refine ⟨_,z8 (QQ (i:=4) (N:=N121) (nt:=1) (ix:=[3]) (cl:=z7U s.heap.objs.size) rfl z8t.nd rfl (Or.inl rfl) zaz (j5 rfl G.range (z6 zl z7))
   (fun _ _ _ _=>zC (i:=0) zad rfl (Or.inl rfl)) (fun _ _ _ _=>Zj) (fun _ _ _ _=>zw S.mark hr1 rfl (z6 (pvX 1) z7)))
  (z8 (zp (zF S.put3 hr1 rfl (z6 (pvX 2) (z6 zq (z6 zq z7)))))
  (z8 (zp (zF S.put3 hr1 rfl (z6 (pvX 2) (z6 (zw S.pick hr2 rfl (z6 (pvX 0) (z6 (pvX 1) (z6 (qe (z6 zq (z6 zq z7))) z7)))) (z6 (zZ zI (pvX 4) zl (fun _ _=>rfl)) z7)))))
  (z8 (zp (zF S.put3 hr1 rfl (z6 (pvX 2) (z6 zq (z6 (zZ zI (pvX 4) zl (fun _ _=>rfl)) z7)))))
  (z8 (zp (zF S.put3 hr1 rfl (z6 (pvX 2) (z6 zq (z6 zq z7)))))
  (z8 (zp (zF S.put3 hr1 rfl (z6 (pvX 2) (z6 (zw S.pick hr2 rfl (z6 (pvX 0) (z6 (pvX 1) (z6 (qe (z6 zq (z6 zq z7))) z7)))) (z6 (zZ zI (pvX 4) zl (fun _ _=>rfl)) z7))))) hT0))))),?_⟩
 symm
 refine ⟨5,rfl,by decide,by decide,fun nl hnl=>z48 (n:=5) (fun i ys σ H2=>(∃x:Option V,σ=[x,some (.ref p.m)])/\ys=(List.range i).map (fun j=>V.int ((k+j:Nat):Int))/\(∀b o,H b=some o->b≠p.m->H2 b=some o)/\H2 p.m=some (.lst (jV (k+i)))/\H2 nl=some (.lst ys)) ⟨⟨none,rfl⟩,rfl,fun b o e _=>zo hnl _ _ _ e,zo hnl _ _ _ g.marks,zc⟩ ?_ ?_⟩
 ·rintro i ys σ H2 hi ⟨⟨x,rfl⟩,rfl,kp,hm,hn⟩;have mn:p.m≠nl:=ze g.marks hnl;refine jK ?_;refine Zf ?_;refine ⟨_,rfl,p.m,k+i,rfl,hm,by lia,?_⟩;refine ⟨by rw [zj mn.symm];exact hn,?_,5 - (i+1),by lia,rfl,by lia,⟨_,rfl⟩,?_,fun b o e hb=>?_,?_,zc⟩
  ·rw [kq,List.length_range];exact qL (by lia)
  ·rw [List.range_succ,kP];rfl
  ·rw [zj (ze e hnl),zj hb];exact kp b o e hb
  ·rw [zj mn,zc];rfl
 ·rintro ys σ H1 ⟨_,rfl,kp,hm,hn⟩;have t0:=g.mks kp hm;have nt:nl≠p.t:=by
   obtain ⟨cells,_,h2⟩:=g.town;exact (ze h2 hnl).symm
  have nr:nl≠p.r:=by
   obtain ⟨as,h3,_⟩:=g.rows;exact (ze h3 hnl).symm
  have nm:nl≠p.m:=(ze g.marks hnl).symm;have hn:H1 nl=some (.lst [.int (k:Int),.int ((k+1:Nat):Int),.int ((k+2:Nat):Int),.int ((k+3:Nat):Int),.int ((k+4:Nat):Int)]):=hn;clear hm kp hnl g;have g0:=t0.gs;refine ⟨_,rfl,qf t0.gs (t0.fit br (by decide)) fun G0 n0 b0 s0=>?_⟩;have t1:=t0.trans s0;have k0:=s0.keep nl _ hn nt nr nm;refine ⟨_,rfl,_,rfl,_,rfl,vW,fun x1 hx1=>?_⟩;refine qU t1.gs (t1.fitc bc (by decide)) hx1 (by show 1<=2;decide) (by show 2<=1000;decide) fun v1 D1 hv1 d1=>?_
  obtain ⟨o1,rfl,mo1⟩:=JG hv1;have u1:=t1.tick d1;have k0d1:=d1.keep nl _ k0 nt nr nm;refine ⟨_,rfl,nl,_,_,_,rfl,rfl,SqL.of k0d1,zy (j:=4) rfl,qf u1.gs (u1.fit br (by decide)) fun G1 n1 b1 s1=>?_⟩;have t2:=u1.trans s1;have k1:=s1.keep nl _ k0d1 nt nr nm;refine ⟨_,rfl,_,rfl,nl,_,_,_,rfl,rfl,SqL.of k1,zy (j:=4) rfl,qf t2.gs (t2.fit br (by decide)) fun G2 n2 b2 s2=>?_⟩;have t3:=t2.trans s2;have k2:=s2.keep nl _ k1 nt nr nm;refine ⟨_,rfl,qf t3.gs (t3.fit br (by decide)) fun G3 n3 b3 s3=>?_⟩;have t4:=t3.trans s3;have k3:=s3.keep nl _ k2 nt nr nm;refine ⟨_,rfl,_,rfl,_,rfl,vW,fun x4 hx4=>?_⟩;refine qU t4.gs (t4.fitc bc (by decide)) hx4 (by show 1<=2;decide) (by show 2<=1000;decide) fun v4 D4 hv4 d4=>?_
  obtain ⟨o2,rfl,mo2⟩:=JG hv4;have u4:=t4.tick d4;have k3d4:=d4.keep nl _ k3 nt nr nm;refine ⟨_,rfl,nl,_,_,_,rfl,rfl,SqL.of k3d4,zy (j:=0) rfl,qf u4.gs (u4.fit br (by decide)) fun G4 n4 b4 s4=>?_⟩;have t5:=u4.trans s4;have k4:=s4.keep nl _ k3d4 nt nr nm;refine bT0 _ _ _ ?_;refine ⟨_,rfl,qf t5.gs (t5.fit br (by decide)) fun G5 n5 b5 s5=>?_⟩;have t6:=t5.trans s5;have k5:=s5.keep nl _ k4 nt nr nm;refine ⟨_,rfl,_,rfl,nl,_,_,_,rfl,rfl,SqL.of k5,zy (j:=0) rfl,qf t6.gs (t6.fit br (by decide)) fun G6 n6 b6 s6=>?_⟩;have t7:=t6.trans s6;have k6:=s6.keep nl _ k5 nt nr nm;refine ⟨_,rfl,_,rfl,_,rfl,vW,fun x7 hx7=>?_⟩;refine qU t7.gs (t7.fitc bc (by decide)) hx7 (by show 1<=2;decide) (by show 2<=1000;decide) fun v7 D7 hv7 d7=>?_
  obtain ⟨o3,rfl,mo3⟩:=JG hv7;have u7:=t7.tick d7;have k6d7:=d7.keep nl _ k6 nt nr nm;refine ⟨_,rfl,nl,_,_,_,rfl,rfl,SqL.of k6d7,zy (j:=1) rfl,qf u7.gs (u7.fit br (by decide)) fun G7 n7 b7 s7=>?_⟩;have t8:=u7.trans s7;have k7:=s7.keep nl _ k6d7 nt nr nm;refine ⟨_,rfl,_,rfl,_,rfl,QK t8.gs (t8.fitc bc (by decide)) fun v D8 hv ho d8=>?_⟩;have u8:=t8.tick d8;have k7d8:=d8.keep nl _ k7 nt nr nm;refine qf u8.gs (u8.fit br (by decide)) fun G8 n8 b8 s8=>?_
  have t9:=u8.trans s8;have k8:=s8.keep nl _ k7d8 nt nr nm;refine ⟨_,rfl,_,rfl,nl,_,_,_,rfl,rfl,SqL.of k8,zy (j:=1) rfl,qf t9.gs (t9.fit br (by decide)) fun G9 n9 b9 s9=>?_⟩;have t10:=t9.trans s9;have k9:=s9.keep nl _ k8 nt nr nm;refine ⟨_,rfl,_,rfl,_,rfl,vW,fun x10 hx10=>?_⟩;refine qU t10.gs (t10.fitc bc (by decide)) hx10 (by show 1<=2;decide) (by show 2<=1000;decide) fun v10 D10 hv10 d10=>?_
  obtain ⟨o4,rfl,mo4⟩:=JG hv10;have u10:=t10.tick d10;have k9d10:=d10.keep nl _ k9 nt nr nm;refine ⟨_,rfl,nl,_,_,_,rfl,rfl,SqL.of k9d10,zy (j:=2) rfl,qf u10.gs (u10.fit br (by decide)) fun G10 n10 b10 s10=>?_⟩;have t11:=u10.trans s10;have k10:=s10.keep nl _ k9d10 nt nr nm;refine bT1 _ _ _ ?_;refine ⟨_,rfl,qf t11.gs (t11.fit br (by decide)) fun G11 n11 b11 s11=>?_⟩;have t12:=t11.trans s11;have k11:=s11.keep nl _ k10 nt nr nm;refine ⟨_,rfl,qf t12.gs (t12.fit br (by decide)) fun G12 n12 b12 s12=>?_⟩;have t13:=t12.trans s12;have k12:=s12.keep nl _ k11 nt nr nm;refine ⟨_,rfl,_,rfl,nl,_,_,_,rfl,rfl,SqL.of k12,zy (j:=2) rfl,qf t13.gs (t13.fit br (by decide)) fun G13 n13 b13 s13=>?_⟩;have t14:=t13.trans s13;have k13:=s13.keep nl _ k12 nt nr nm;refine ⟨_,rfl,_,rfl,nl,_,_,_,rfl,rfl,SqL.of k13,zy (j:=2) rfl,qf t14.gs (t14.fit br (by decide)) fun G14 n14 b14 s14=>?_⟩;have t15:=t14.trans s14;have k14:=s14.keep nl _ k13 nt nr nm;refine ⟨_,rfl,_,rfl,nl,_,_,_,rfl,rfl,SqL.of k14,zy (j:=3) rfl,qf t15.gs (t15.fit br (by decide)) fun G15 n15 b15 s15=>?_⟩;have t16:=t15.trans s15;have k15:=s15.keep nl _ k14 nt nr nm;refine bT2 _ _ _ ?_;refine ⟨_,rfl,qf t16.gs (t16.fit br (by decide)) fun G16 n16 b16 s16=>?_⟩;have t17:=t16.trans s16;have k16:=s16.keep nl _ k15 nt nr nm;refine ⟨_,rfl,qf t17.gs (t17.fit br (by decide)) fun G17 n17 b17 s17=>?_⟩;have t18:=t17.trans s17;have k17:=s17.keep nl _ k16 nt nr nm;refine ⟨_,rfl,_,rfl,nl,_,_,_,rfl,rfl,SqL.of k17,zy (j:=3) rfl,qf t18.gs (t18.fit br (by decide)) fun G18 n18 b18 s18=>?_⟩;have t19:=t18.trans s18;have k18:=s18.keep nl _ k17 nt nr nm;have hl:=z52 (qI b0 (qI b1 (qI b2 (qI b3 (qI b4 (qI b5 (qI b6 (qI b7 (qI b8 (qI b9 (qI b10 (qI b11 (qI b12 (qI b13 (qI b14 (qI b15 (qI b16 (qI b17 (qI b18 z94)))))))))))))))))));have GG:=Good.hops (k:=k) mo1 mo2 mo3 mo4 (Jv hv ho) hl;have TT:=Ty.hops (k:=k) mo1 mo2 mo3 mo4 v (fun i=>[n0,n1,n2,n3,n4,n5,n6,n7,n8,n9,n10,n11,n12,n13,n14,n15,n16,n17,n18].getD i 10);clear hl;unfold My.hops at GG TT;simp only [List.getD_cons_zero,List.getD_cons_succ] at GG TT;exact q _ _ _ _ (t19.more (by lia)) GG TT
end
theorem cd1:CD 3 1 384:=⟨1,rfl,by decide,rfl⟩
theorem cmv3 (e:Int):CMV 3 e 30:=⟨by decide,rfl⟩
theorem z4K {v:V} (h:v∈([.str "add",.str "sub",.str "mul",.str "div",.str "less",.str "same"]:List V)):∃op,v=.str op/\Bare op .non/\Zu op 2 1:=by
 simp only [kJ,kC,or_false] at h;rcases h with rfl | rfl | rfl | rfl | rfl | rfl
 ·exact ⟨"add",rfl,jk vV,Qs _ (by simp)⟩
 ·exact ⟨"sub",rfl,jk vV,Qs _ (by simp)⟩
 ·exact ⟨"mul",rfl,jk vV,Qs _ (by simp)⟩
 ·exact ⟨"div",rfl,jk vV,Qs _ (by simp)⟩
 ·exact ⟨"less",rfl,jk vV,Qs _ (by simp)⟩
 ·exact ⟨"same",rfl,jk vV,Qs _ (by simp)⟩
theorem z6S {v:V} (h:v∈([.str "neg",.str "not"]:List V)):∃op,v=.str op/\Bare op .non/\Zu op 1 1:=by
 simp only [kJ,kC,or_false] at h;rcases h with rfl | rfl
 ·exact ⟨"neg",rfl,jk vV,z3g _ (by simp)⟩
 ·exact ⟨"not",rfl,jk vV,z3g _ (by simp)⟩
def z33 (K:kE):Sp:=fun vs H Q _=>∃(a t:Addr) (ns:List Int) (c:Nat) (cells:List Int),vs=[.ref a,.ref t]/\Scr K H a (ns.map V.int)/\ns.length<=1000/\cells.length=ns.length/\H t=some (.lst (qS c cells))/\c<=90/\
 ∀(l:Addr) (as:List Addr) (rs:List Row) (k c':Nat) (cells':List Int) H',H' l=some (.lst (as.map V.ref))->q0 H' as rs->Good 0 k rs->(∃Γ:Int->Option Sta,(∀m,Γ m≠none->0<=m/\m < (k:Int))/\chk Γ rs (some (0,[]))=some none)->k<=90->1<=rs.length->rs.length<=140->l≠t->cells'.length=ns.length->H' t=some (.lst (qS c' cells'))->c'<=14000->jc H H' t->Q (.ref l) H'
theorem z19:zr ["_law_script","_law_town_here","_law_rows","_law_marks","_law_k","_law_way","_law_j"] ["_law_script","_law_town_here"] (zh (top 120)):=fsM
section
def DsO (K:kE) (H2:Hp) (p:Pl) (c:Nat) (i:Nat) (σ:L2.St) (H4:Hp):Prop:=∃v w z c' new k',σ=[some (.ref p.a),some (.ref p.t),some (.ref p.r),some (.ref p.m),v,w,z]/\Step K H2 H4 p c [] 0 c' new k' (1+390 * i)/\Good 0 k' new/\Ty 0 false 0 k' new
def DsI (K:kE) (H5:Hp) (p:Pl) (c:Nat) (rs:List Row) (k':Nat) (B:Nat) (δ:Int) (σ:L2.St) (H6:Hp):Prop:=∃v w z c6 n6,σ=[some (.ref p.a),some (.ref p.t),some (.ref p.r),some (.ref p.m),v,w,z]/\Step K H5 H6 p c rs k' c6 n6 k' B/\Good k' k' n6/\Ty δ true k' k' n6
theorem z5v (D:zx K mg "_law_dense" (top 120)) (G:Glo mg) (S:jG P w K mg base) (FV:FN P w K mg base 9 "_law_value" gps (qH K (CV 3) 1 true)) (FM:FN P w K mg base 10 "_law_moved_value" gps (qH K (CMV 3) 1 true)) (FD:FN P w K mg base 16 "_law_deed" gps (qH K (CD 3) 0 false))
  (FH:FN P w K mg base 4 "_law_hops" ["_law_script","_law_town_here","_law_rows","_law_marks"] (z63 K)):FN P w K mg base 17 "_law_dense" Vc (z33 K):=by
 refine FN.o D z19 fun f cdv A vY s H vs Q E hr h=>?_
 obtain ⟨a,t,ns,c,cells,rfl,hS,hns,hcl,hT,hc,q⟩:=h;have hr1:=hr.mono (vV:1<=16);have hr2:=hr.mono (vV:2<=16);have hr3:=hr.mono (vV:3<=16);have hr4:=hr.mono (vV:4<=16);have hr9:=hr.mono (vV:9<=16);have hr10:=hr.mono (vV:10<=16);refine ⟨_,(z8 (zK (i:=2) z19.nd rfl (Or.inl rfl) (qe z7))
  (z8 (zK (i:=3) z19.nd rfl (Or.inl rfl) (qe z7))
  (z8 (jI vn rfl (j5 rfl G.range (z6 (qa js zl (zw S.draw hr1 rfl (z6 (pvX 0) (z6 (pvX 1) (z6 zl z7))))) z7)) (zC (i:=4) z19.nd rfl (Or.inl rfl)) (z8 (zK (i:=5) z19.nd rfl (Or.inl rfl) (zw S.draw hr1 rfl (z6 (pvX 0) (z6 (pvX 1) (z6 zl z7)))))
  (zi (zY (zt qM (pvX 5) zl (zA _)) (z8 (zp (zw FM hr10 rfl (z6 (pvX 0) (z6 (pvX 1) (z6 (pvX 2) (z6 (pvX 3) (z6 zl z7)))))))
  (zi (zp (zF S.put2 hr1 rfl (z6 (pvX 2) (z6 zq z7)))))) (zi (zY (zt qM (pvX 5) zl (zA _)) (z8 (jI vn rfl (j5 rfl G.range (z6 zl z7)) (zC (i:=6) z19.nd rfl (Or.inl rfl)) (zi (zp (zF S.put3 hr1 rfl (z6 (pvX 2) (z6 zq (z6 (zw S.const hr3 rfl (z6 (pvX 0) (z6 (pvX 1) z7))) z7)))))))
  (z8 (jI vn rfl (j5 rfl G.range (z6 zl z7)) (zC (i:=6) z19.nd rfl (Or.inl rfl)) (zi (zp (zF S.put2 hr1 rfl (z6 (pvX 2) (z6 (zw S.pick hr2 rfl (z6 (pvX 0) (z6 (pvX 1) (z6 (qe (z6 zq (z6 zq (z6 zq (z6 zq (z6 zq (z6 zq z7))))))) z7)))) z7))))))
  (zi (zp (zF S.put2 hr1 rfl (z6 (pvX 2) (z6 zq z7))))))) (zi (zY (zt qM (pvX 5) zl (zA _)) (zi (zp (zw FH hr4 rfl (z6 (pvX 0) (z6 (pvX 1) (z6 (pvX 2) (z6 (pvX 3) z7))))))) (zi (zY (zt qM (pvX 5) zl (zA _)) (z8 (zp (zF S.put3 hr1 rfl (z6 (pvX 2) (z6 zq (z6 (zw S.const hr3 rfl (z6 (pvX 0) (z6 (pvX 1) z7))) z7)))))
  (z8 (zp (zF S.put2 hr1 rfl (z6 (pvX 2) (z6 (zw S.pick hr2 rfl (z6 (pvX 0) (z6 (pvX 1) (z6 (qe (z6 zq (z6 zq z7))) z7)))) z7))))
  (z8 (zp (zF S.put3 hr1 rfl (z6 (pvX 2) (z6 zq (z6 zl z7)))))
  (z8 (zp (zF S.put2 hr1 rfl (z6 (pvX 2) (z6 zq z7))))
  (zi (zp (zF S.put2 hr1 rfl (z6 (pvX 2) (z6 zq z7))))))))) (zi (zp (zw FD hr rfl (z6 (pvX 0) (z6 (pvX 1) (z6 (pvX 2) (z6 (pvX 3) (z6 zl z7))))))))))))))))))
  (z8 (zp (zw FV hr9 rfl (z6 (pvX 0) (z6 (pvX 1) (z6 (pvX 2) (z6 (pvX 3) (z6 zl z7)))))))
  (z8 (zp (zF S.put2 hr1 rfl (z6 (pvX 2) (z6 zq z7))))
  (z8 (zY (PW.pt (QA (zt Jf (zH zW rfl G.len qA (z6 (pvX 2) z7)) zl (zA _)) (Z5 (zt Jf (zH zW rfl G.len qA (z6 (pvX 3) z7)) zl (zA _))))) (zi (zu (qe (z6 (qb (z6 zq (z6 zq (z6 zl z7)))) (z6 (qb (z6 zq (z6 qk (z6 zl z7)))) z7))))) zE)
  (zi (zu (pvX 2))))))))),?_⟩
 symm
 refine ⟨vW,fun r hr0=>⟨vW,fun m hm0=>?_⟩⟩;have sr:Same H (upd H r (.lst [])):=zo hr0 _;have sm:Same (upd H r (.lst [])) (upd (upd H r (.lst [])) m (.lst [])):=zo hm0 _;have rm:r≠m:=ze (H:=upd H r (.lst [])) zc hm0;have tr:t≠r:=ze hT hr0;have tm:t≠m:=ze (sr _ _ hT) hm0;have s02:=sr.trans sm;generalize hH2:upd (upd H r (.lst [])) m (.lst [])=H2 at *;have hr2':H2 r=some (.lst []):=by rw [<-hH2,zj rm];exact zc
 have hm2':H2 m=some (.lst []):=by rw [<-hH2];exact zc
 have g:GS K H2 ⟨a,t,r,m,ns⟩ c [] 0:=⟨hS.keep fun o u e=>s02 _ _ e,hns,⟨cells,hcl,s02 _ _ hT⟩,⟨[],hr2',.nil⟩,hm2',tr,tm,rm⟩
 generalize hp:(⟨a,t,r,m,ns⟩:Pl)=p at *;have pa:p.a=a:=by rw [<-hp]
 have pt:p.t=t:=by rw [<-hp]
 have pr:p.r=r:=by rw [<-hp]
 have pm:p.m=m:=by rw [<-hp]
 have pn:p.ns=ns:=by rw [<-hp]
 subst pa pt pr pm pn;clear hp;refine ⟨_,rfl,_,rfl,jB g (by lia) (by decide) (by decide) fun j H3 j0 j1 s3=>?_⟩;refine ⟨_,_,rfl,rfl,1+j,rfl,by lia,by lia,ji (lo:=0) (n:=(1+j).toNat) (DsO K H2 p c)
  ⟨none,none,none,_,_,_,rfl,s3,Good.nil 0,(Ty.nil 0).weak⟩ ?_ ?_⟩
 ·rintro i σ H4 hi ⟨v,w0,z0,c',new,k',rfl,st,gd,ty⟩;have hin:i < 5:=by lia
  have l:=st.len;have lc:=st.c2;have lk:=st.k2;rw [List.length_nil] at l;refine ⟨_,rfl,_,rfl,jB st.gs (by lia) (by decide) (by decide) fun y H5 y0 y1 s5=>?_⟩;have t5:=st.tick s5;have fin:∀{v1 w1 z1:Option V} {c6:Nat} {n6:List Row} {k6 B:Nat} {su:Bool} {H6:Hp},B<=385->Step K H5 H6 p (c'+1) ([]++new) k' c6 n6 k6 B->Good k' k6 n6->Ty 0 su k' k6 n6->
    DsO K H2 p c (i+1) [some (V.ref p.a),some (.ref p.t),some (.ref p.r),some (.ref p.m),v1,w1,z1] H6:=fun {v1 w1 z1 c6 n6 k6 B su H6} hB s6 g6 y6=>
   ⟨v1,w1,z1,c6,new++n6,k6,rfl,(t5.trans s6).more (by lia),gd.app g6 (vi _) s6.k1,((ty.app y6 (vi _) s6.k1 (by decide)).cast (by decide))⟩
  have lz:([]++new:List Row).length<=2000:=by rw [List.nil_append];simp at l;lia
  have ck:c'<=2100:=by lia
  have kk:k'<=2000:=by lia
  refine ⟨_,rfl,rfl,_,rfl,?_⟩;refine ite2 (fun _=>?_) (fun _=>?_)
  ·refine ⟨_,rfl,_,rfl,_,rfl,_,rfl,p,_,_,_,_,30,rfl,cmv3 _,t5.gs,(by lia),(by lia),(by lia),fun c6 n6 k6 H6 s6 g6 y6=>?_⟩;have l6:=s6.len;refine ⟨_,rfl,qf s6.gs (by lia) fun H7 ln b7 s7=>?_⟩;exact fin (B:=31) (by lia) (s6.trans s7) (g6.put s6.k1 ZH b7.1 b7.2) ((y6.row (jm _ (by simp)) (by decide) _ _).cast (by decide))
  ·refine ⟨_,rfl,rfl,_,rfl,?_⟩;refine ite2 (fun _=>?_) (fun _=>?_)
   ·refine ⟨3,rfl,by decide,by decide,ji (lo:=0) (n:=3) (fun i1=>DsI K H5 p (c'+1) ([]++new) k' (2 * i1) (i1:Int))
     ⟨_,_,_,_,_,rfl,t5.gs.refl,Good.nil k',Ty.nil k'⟩ ?_ ?_⟩
    ·rintro i1 σ H6 hi1 ⟨v,w,z,c6,n6,rfl,s6,g6,y6⟩;have l6:=s6.len;have lc6:=s6.c2;refine ⟨_,rfl,_,rfl,_,rfl,QK s6.gs (by lia) fun v7 H7 hv ho s7=>?_⟩;have t7:=s6.tick s7;have l7:=t7.len;refine qf t7.gs (by lia) fun H8 ln b8 s8=>?_
     exact ⟨_,_,_,_,_,rfl,(t7.trans s8).more (by lia),g6.put (ki _) (Jv hv ho) b8.1 b8.2,(y6.row JF (by lia) _ _).cast (by push_cast;lia)⟩
    rintro σ H6 ⟨v,w,z,c6,n6,rfl,s6,g6,y6⟩;refine ⟨2,rfl,by decide,by decide,ji (lo:=0) (n:=2) (fun i1=>DsI K H5 p (c'+1) ([]++new) k' (6+2 * i1) (3 - (i1:Int)))
     ⟨_,_,_,_,_,rfl,s6,g6,y6.cast (by decide)⟩ ?_ ?_⟩
    ·rintro i1 σ H6 hi1 ⟨v,w,z,c6,n6,rfl,s6,g6,y6⟩;have l6:=s6.len;have lc6:=s6.c2;refine ⟨_,rfl,_,rfl,_,rfl,vW,fun x hx=>?_⟩;refine qU s6.gs (by lia) hx (by show 1<=6;decide) (by show 6<=1000;decide) fun v7 H7 hv s7=>?_
     obtain ⟨op,rfl,hb,hpl⟩:=z4K hv;have t7:=s6.tick s7;have l7:=t7.len;refine qf t7.gs (by lia) fun H8 ln b8 s8=>?_
     exact ⟨_,_,_,_,_,rfl,(t7.trans s8).more (by lia),g6.put (ki _) hb b8.1 b8.2,(y6.row hpl (by lia) _ _).cast (by push_cast;lia)⟩
    rintro σ H7 ⟨v,w,z,c7,n7,rfl,s7,g7,y7⟩;have l7:=s7.len;refine ⟨_,rfl,qf s7.gs (by lia) fun H8 ln b8 s8=>?_⟩;exact fin (B:=11) (by lia) (s7.trans s8) (g7.put (ki _) ZH b8.1 b8.2) ((y7.row (jm _ (by simp)) (by decide) _ _).cast (by decide))
   ·refine ⟨_,rfl,rfl,_,rfl,?_⟩;refine ite2 (fun _=>?_) (fun _=>?_)
    ·refine ⟨_,rfl,_,rfl,_,rfl,_,rfl,p,_,_,_,rfl,t5.gs,(by lia),(by lia),(by lia),fun c6 n6 k6 H6 s6 g6 y6=>?_⟩;exact fin (B:=30) (by lia) s6 g6 y6
    ·refine ⟨_,rfl,rfl,_,rfl,?_⟩;refine ite2 (fun _=>?_) (fun _=>?_)
     ·refine ⟨_,rfl,_,rfl,_,rfl,QK t5.gs (by lia) fun v7 H7 hv ho s7=>?_⟩;have t7:=s7;have l7:=t7.len;refine qf t7.gs (by lia) fun H8 ln8 b8 s8=>?_
      have t8:=t7.trans s8;have l8:=t8.len;refine ⟨_,rfl,_,rfl,_,rfl,vW,fun x hx=>?_⟩;refine qU t8.gs (by have:=t8.c2;lia) hx (by show 1<=2;decide) (by show 2<=1000;decide) fun v9 H9 hv9 s9=>?_
      obtain ⟨op,rfl,hb,hpl⟩:=z6S hv9;have t9:=t8.tick s9;have l9:=t9.len;refine qf t9.gs (by lia) fun HA lnA bA sA=>?_
      have tA:=t9.trans sA;have lA:=tA.len;refine ⟨_,rfl,qf tA.gs (by lia) fun HB lnB bB sB=>?_⟩;have tB:=tA.trans sB;have lB:=tB.len;refine ⟨_,rfl,qf tB.gs (by lia) fun HC lnC bC sC=>?_⟩;have tC:=tB.trans sC;have lC:=tC.len;refine ⟨_,rfl,qf tC.gs (by lia) fun HD lnD bD' sD=>?_⟩;refine fin (B:=385) (su:=true) (by lia) ((tC.trans sD).more (by lia)) ((((((Good.nil k').put (ki _) (Jv hv ho) b8.1 b8.2).put (ki _) hb bA.1 bA.2).put (ki _) (z6s (by decide) (by decide)) bB.1 bB.2).put (ki _) z25 bC.1 bC.2).put (ki _) ZH bD'.1 bD'.2) ?_;have y1:Ty 1 true k' k' _:=((Ty.nil k').row JF (by decide) v7 ln8).cast (by decide);have y2:Ty 1 true k' k' _:=(y1.row hpl (by decide) .non lnA).cast (by decide);have y3:Ty 2 true k' k' _:=(y2.deep z3Z (n:=1) (by decide) lnB).cast (by decide);have y4:Ty 1 true k' k' _:=(y3.row (jm "drop" (by simp)) (by decide) .non lnC).cast (by decide);exact (y4.row (jm "tell" (by simp)) (by decide) .non lnD).cast (by decide)
     ·refine ⟨_,rfl,_,rfl,_,rfl,_,rfl,p,_,_,_,_,384,rfl,cd1,t5.gs,(by lia),(by lia),(by lia),fun c6 n6 k6 H6 s6 g6 y6=>?_⟩;exact fin (B:=384) (by lia) s6 g6 y6
 rintro σ H4 ⟨v4,w4,z4,c4,n4,k4,rfl,t4,g4,y4⟩;have t4:=t4.more (show _<=2000 by lia);refine ⟨_,rfl,_,rfl,_,rfl,_,rfl,p,_,_,_,_,3,rfl,cv0,t4.gs,(by have:=t4.c2;lia),(by have:=t4.len;simp at this ⊢;lia),(by have:=t4.k2;lia),fun c5 n5 k5 H5 s5 g5 y5=>?_⟩;have t5:=t4.trans s5;refine ⟨_,rfl,qh t5.gs (by have:=t5.len;simp at this ⊢;lia) fun H6 s6=>?_⟩;have t6:=t5.trans s6;have L5:=zP (kD t5.len (show _<=15000 by simp));have g6:=(g4.app g5 (vi _) s5.k1).put (vi _) QM L5.1 L5.2;have cK:n4.length+n5.length<=998->∃Γ:Int->Option Sta,(∀m,Γ m≠none->0<=m/\m < (k5:Int))/\chk Γ (n4++n5++[(⟨Str.ofString "return",.non,10+(([]++(n4++n5):List Row).length:Int) / 2⟩:Row)]) (some (0,[]))=some none:=fun hz=>JX (y4.whole y5 (vi _) s5.k1 _ hz)
 have hlen:(n4++n5++[(⟨Str.ofString "return",.non,10+(([]++(n4++n5):List Row).length:Int) / 2⟩:Row)]).length=n4.length+n5.length+1:=by rw [ku,ku];rfl
 generalize hn:n4++n5++[(⟨Str.ofString "return",.non,10+(([]++(n4++n5):List Row).length:Int) / 2⟩:Row)]=nn at *;have hpos:1<=nn.length:=by rw [<-hn];simp only [ku,kX,List.length_nil,kL];lia
 obtain ⟨as,h3,h4⟩:=t6.gs.rows;have hal:(as.map V.ref).length=nn.length:=by rw [kq,h4.len];rfl
 obtain ⟨cells',hl',hT'⟩:=t6.gs.town;have hc6:=t6.c2;have kp:jc H H6 p.t:=fun b o e hb=>t6.keep b o (s02 _ _ e) hb (ze e hr0) (fun z=>by
  have:=sr _ _ e
  rw [z,hm0] at this;cases this)
 have two:∀H7,Same H6 H7->∀x y l,H7 x=some (.tup [.str "load",.str "a",.int 7])->H7 y=some (.tup [.str "return",.non,.int 8])->H7 l=some (.lst [.ref x,.ref y])->l≠p.t->Q (.ref l) H7:=fun H7 s7 x y l hx hy hl hlt=>by
  have b1:Bare "load" (.str "a"):=z0X (by simp);refine q l [x,y] [⟨"load",.str "a",7⟩,⟨"return",.non,8⟩] 0 _ cells' H7 hl (.cons hx (.cons hy .nil)) ?_ z2K (by decide) (by simp) (by simp) hlt hl' (s7 _ _ hT') (by lia) fun b o e hb=>s7 _ _ (kp b o e hb)
  exact (b1.good (by decide) (by decide) 0).put (ki _) QM (by decide) (by decide)
 have fin:nn.length<=140->k5<=90->Q (.ref p.r) H6:=fun h1 h2=>q p.r as nn k5 _ cells' H6 h3 h4 g6 (cK (by lia)) h2 hpos h1 g.tr.symm hl' hT' (by lia) kp
 refine ⟨_,rfl,p.r,_,rfl,.inl (SqL.of h3),_,_,rfl,rfl,_,rfl,?_⟩;have qW:tTup (jl (tC (.str "load")) (jl (tC (.str "a")) (jl (tC (.int 7)) tNil))) [some (.ref p.a),some (.ref p.t),some (.ref p.r),some (.ref p.m),v4,w4,z4] H6 (fun x H7=>tTup (jl (tC (.str "return")) (jl (tC .non) (jl (tC (.int 8)) tNil))) [some (.ref p.a),some (.ref p.t),some (.ref p.r),some (.ref p.m),v4,w4,z4] H7 fun y H8=>[x,y].length<=sizeLine/\∀l,H8 l=none->Q (.ref l) (upd H8 l (.lst [x,y]))):=by
  refine ⟨vW,fun x hx=>⟨vW,fun y hy=>⟨vW,fun l hl=>?_⟩⟩⟩;have sx:Same H6 (upd H6 x (.tup [.str "load",.str "a",.int 7])):=zo hx _;have sy:=zo hy (.tup [.str "return",.non,.int 8]);have sl:=zo hl (.lst [.ref x,.ref y]);refine two _ (sx.trans (sy.trans sl)) x y l (sl _ _ (sy _ _ zc)) (sl _ _ zc) zc ?_;exact (ze (sy _ _ (sx _ _ hT')) hl).symm
 refine ite2 (fun c1=>?_) (fun c1=>?_)
 ·exact iteT qW
 ·have hn1:nn.length<=140:=by
   rw [hal] at c1;have:¬((140:Int) < (nn.length:Int)):=fun z=>c1 (ko z)
   lia
  refine ⟨_,rfl,p.m,_,rfl,.inl (SqL.of t6.gs.marks),_,_,rfl,rfl,_,rfl,?_⟩;refine ite2 (fun c2=>qW) (fun c2=>?_);rw [ZB] at c2;have hk:k5<=90:=by
   have:¬((90:Int) < (k5:Int)):=fun z=>c2 (ko z)
   lia
  exact ⟨_,rfl,fin hn1 hk⟩
theorem z9Y:zr ["_law_script","_law_town_here"] ["_law_script","_law_town_here"] (zh (top 122)):=fsM
def z5Z (K:kE):Sp:=fun vs H Q _=>∃(a t:Addr) (ns:List Int) (c:Nat) (cells:List Int),vs=[.ref a,.ref t]/\Scr K H a (ns.map V.int)/\ns.length<=1000/\cells.length=ns.length/\H t=some (.lst (qS c cells))/\c<=80/\
 ∀(l:Addr) (as:List Addr) (rs:List Row) (k c':Nat) (cells':List Int) H',H' l=some (.lst (as.map V.ref))->q0 H' as rs->Good 0 k rs->(∃Γ:Int->Option Sta,(∀m,Γ m≠none->0<=m/\m < (k:Int))/\chk Γ rs (some (0,[]))=some none)->k<=90->1<=rs.length->rs.length<=140->l≠t->cells'.length=ns.length->H' t=some (.lst (qS c' cells'))->c'<=14000->jc H H' t->Q (.ref l) H'
theorem z7n (D:zx K mg "_law_some_code" (top 122)) (S:jG P w K mg base) (FE:FN P w K mg base 17 "_law_dense" Vc (z33 K)) (FC:FN P w K mg base 17 "_law_code" Vd (z0i K)):FN P w K mg base 18 "_law_some_code" Vc (z5Z K):=by
 refine FN.o D z9Y fun f cdv A vY s H vs Q E hr h=>?_
 obtain ⟨a,t,ns,c,cells,rfl,hS,hns,hcl,hT,hc,q⟩:=h;have hr1:=hr.mono (vV:1<=17);refine ⟨_,z8 (zY (zt qM (zw S.draw hr1 rfl (z6 (pvX 0) (z6 (pvX 1) (z6 zl z7)))) zl (zA _)) (zi (zu (zw FE hr rfl (z6 (pvX 0) (z6 (pvX 1) z7))))) zE)
  (zi (zu (zw FC hr rfl (z6 (pvX 0) (z6 (pvX 1) (z6 zl z7)))))),?_⟩
 symm
 refine ⟨_,rfl,_,rfl,a,t,ns,c,cells,2,rfl,hS,hns,hcl,hT,by lia,by decide,by decide,fun i cells1 H1 i0 i1 l1 hT1 k1=>?_⟩;have hS1:=hS.keep1 k1 hT;refine ⟨rfl,_,rfl,?_⟩;refine ite2 (fun _=>?_) (fun _=>?_)
 ·exact ⟨_,rfl,_,rfl,a,t,ns,c+1,cells1,rfl,hS1,hns,l1,hT1,by lia,fun l as rs k c' cells' H' h1 h2 h3 h4 h5 h6 h7 h8 h9 h10 h11 h12=>q l as rs k c' cells' H' h1 h2 h3 h4 h5 h6 h7 h8 h9 h10 h11 fun b o e hb=>h12 b o (k1 b o e hb) hb⟩
 ·exact ⟨_,rfl,_,rfl,a,t,ns,c+1,cells1,3,rfl,hS1,hns,l1,hT1,by lia,by decide,by decide,fun l as rs k c' cells' H' h1 h2 h3 h4 h5 h6 h7 h8 h9 h10 h11 h12=>q l as rs k c' cells' H' h1 h2 h3 h4 h5 h6 h7 h8 h9 h10 h11 fun b o e hb=>h12 b o (k1 b o e hb) hb⟩
end
theorem z10:∀{ss:List Str} {us:List Value},Vals (ss.map V.str) us->StrsAre us ss:=by
 intro ss;induction ss with
 | nil=>intro us r;cases r;exact .nil
 | cons z ss ih=>
  intro us r;cases r with
  | cons a b=>
   obtain ⟨t,rfl⟩:=a;exact .cons z t (ih b)
theorem z2H:∀{ss:List Str} {us:List Value},StrsAre us ss->Vals (ss.map V.str) us:=by
 intro ss us h;induction h with
 | nil=>exact .nil
 | cons z t _ ih=>exact .cons ⟨t,rfl⟩ ih
section
variable {X:Cx}
theorem z0Q:Zx X (.builtin "sorted") (fun xs H Q=>∃(l:Addr) (ss:List Str),xs=[.ref l]/\SqL X.K H l (ss.map V.str)/\ss.length < 64/\∀(d:Addr) (ss':List Str),H d=none->ss'.Perm ss->Q (.ref d) (upd H d (.lst (ss'.map V.str)))):=by
 intro vX s σ H xs us Q I r h;obtain ⟨l,ss,rfl,hl,hz,q⟩:=h;obtain ⟨u,rfl,ru⟩:=Jd r;obtain rfl:u=Value.ref l:=ru;obtain ⟨its,rv,pl,_⟩:=I.list hl;have hlen:=rv.length;rw [kq] at hlen;refine sorted_strs pl.isList (z10 rv) (by lia) fun out ss' a1 a2 a3=>?_
 obtain ⟨e,he⟩:=sortedAll_at s.heap its out;have hll:(ss'.map V.str).length<=sizeLine:=by rw [kq,a2.length_eq];exact Nat.le_of_lt (qL (by lia))
 refine ⟨.ref (s.heap.objs.size+1),_,I.laid (t':=s.toks) (fun b o=>sortedAll_old) (Nat.le_succ _) (show qK X.prog X.w _ _ _ (.lst (ss'.map V.str)) from ⟨hll,out.toList,e,z2H a1,?_⟩),rfl,q _ ss' (I.hok.fresh (Nat.le_succ _)) a2⟩;rw [he]
theorem z6t (ss:List Str) (z:Str):ss.any (· == z)=decide (z∈ss):=by
 induction ss with
 | nil=>rfl
 | cons y ss ih=>
  rw [List.any_cons,ih];by_cases e:y=z
  ·subst e;simp
  ·have:(y == z)=false:=by simpa using e
   have e':z≠y:=fun h=>e h.symm
   simp [this,e']
theorem z8P:OpR X (compareOp .In) (fun x y H Q=>∃(z:Str) (l:Addr) (ss:List Str),x=.str z/\y=.ref l/\SqL X.K H l (ss.map V.str)/\Q (.bl (decide (z∈ss))) H):=by
 intro vX s σ H x y v u Q I rx ry h;obtain ⟨z,l,ss,rfl,rfl,hl,q⟩:=h;obtain ⟨t,rfl⟩:=rx;cases ry;obtain ⟨its,rv,pl,_⟩:=I.list hl;refine in_list_strs pl.isList (z10 rv) ⟨.bl _,H,I,rfl,?_⟩;rw [z6t];exact q
theorem z3o:OpR X (compareOp .NotIn) (fun x y H Q=>∃(z:Str) (l:Addr) (ss:List Str),x=.str z/\y=.ref l/\SqL X.K H l (ss.map V.str)/\Q (.bl (!decide (z∈ss))) H):=by
 intro vX s σ H x y v u Q I rx ry h;obtain ⟨z,l,ss,rfl,rfl,hl,q⟩:=h;obtain ⟨t,rfl⟩:=rx;cases ry;obtain ⟨its,rv,pl,_⟩:=I.list hl;refine notin_list_strs pl.isList (z10 rv) ⟨.bl _,H,I,rfl,?_⟩;rw [z6t];exact q
theorem z8O:OpR X (compareOp .Lt) (fun x y H Q=>∃(z z':Str),x=.str z/\y=.str z'/\Q (.bl (decide (z.cps.toList < z'.cps.toList))) H):=by
 intro vX s σ H x y v u Q I rx ry h;obtain ⟨z,z',rfl,rfl,q⟩:=h;obtain ⟨t,rfl⟩:=rx;obtain ⟨t',rfl⟩:=ry;exact PyProof.Rows.lt_str ⟨.bl _,H,I,rfl,q⟩
theorem z6Y (hu:X.A.units < cLine):OpR X (compareOp .NotEq) (fun x y H Q=>∃(l:Addr) (ss:List Str),x=.ref l/\SqL X.K H l (ss.map V.str)/\((y=.non/\Q (.bl true) H)\/∃(l':Addr) (ss':List Str),y=.ref l'/\SqL X.K H l' (ss'.map V.str)/\Q (.bl (!decide (ss=ss'))) H)):=by
 intro vX s σ H x y v u Q I rx ry h;obtain ⟨l,ss,rfl,hl,h⟩:=h;cases rx;obtain ⟨its,rv,pl,_⟩:=I.list hl;have hlen:=rv.length;rw [kq] at hlen;rcases h with ⟨rfl,q⟩ | ⟨l',ss',rfl,hl',q⟩
 ·cases ry;exact SeqAt.RcNeAt.list_none pl.isList hu X.prog X.w X.xe _ ⟨.bl _,H,I,rfl,q⟩
 ·cases ry;obtain ⟨its',rv',pl',_⟩:=I.list hl';have hlen':=rv'.length;rw [kq] at hlen';by_cases hz:its.length=its'.length
  ·refine SeqAt.RcNeAt.lists (e:=fun j=>decide (ss[j]?=ss'[j]?)) pl.isList pl'.isList (by simpa using hz) hu (fun j h1 h2=>?_) X.prog X.w X.xe _ ⟨.bl _,H,I,rfl,?_⟩
   ·have h1:j < its.length:=by simpa using h1
    have h2:j < its'.length:=by simpa using h2
    have k1:j < ss.length:=by lia
    have k2:j < ss'.length:=by lia
    obtain ⟨u,e1,t,r1⟩:=rv.get (show (ss.map V.str)[j]?=some (.str ss[j]) by simp [k1]);obtain ⟨u',e2,t',r2⟩:=rv'.get (show (ss'.map V.str)[j]?=some (.str ss'[j]) by simp [k2]);have f1:its.toArray[j]=.str ss[j] t:=by
     have:=kQ h1
     rw [e1] at this;rw [<-r1];simpa using (kH this).symm
    have f2:its'.toArray[j]=.str ss'[j] t':=by
     have:=kQ h2
     rw [e2] at this;rw [<-r2];simpa using (kH this).symm
    rw [f1,f2];have:=SeqAt.EqAt.str_str (A:=X.A.in1) (s:=s) ss[j] t ss'[j] t'
    have e:decide (ss[j]?=ss'[j]?)=(ss[j] == ss'[j]):=by
     rw [kQ k1,kQ k2];by_cases e:ss[j]=ss'[j] <;> simp [e]
    rw [e];exact this
   ·have e:(List.range its.toArray.size).all (fun j=>decide (ss[j]?=ss'[j]?))=decide (ss=ss'):=by
     rw [vR,List.all_eq_true,decide_eq_true_iff];refine ⟨fun h=>List.ext_getElem? fun j=>?_,fun e j _=>by rw [e];simp⟩;by_cases hj:j < its.length
     ·exact kI (h j (List.mem_range.mpr (by simpa using hj)))
     ·rw [vo (by lia),vo (by lia)]
    rw [e];exact q
  ·refine SeqAt.RcNeAt.lists_lengths pl.isList pl'.isList (by simpa using hz) hu X.prog X.w X.xe _ ⟨.bl _,H,I,rfl,?_⟩;have:ss≠ss':=fun e=>hz (by rw [<-hlen,<-hlen',e])
   rw [km this] at q;exact q
end
structure GloN (mg:Str->Option Value):Prop where
 sorted:mg "sorted"=none
 zip:mg "zip"=none
theorem z1v:bootBuiltins "sorted"=some (.builtin "sorted"):=vV
theorem z5O {r:Row} {P:Str->Prop} {x:Str} (h:r.op="clear"):bh r P x↔P x/\r.arg≠.str x:=by unfold bh;rw [kG h]
theorem z6r {r:Row} {P:Str->Prop} {x nm:Str} (h:r.op="store"\/r.op="load") (ha:r.arg=.str nm):bh r P x↔P x\/nm=x:=by
 have hc:¬r.op="clear":=by
  rcases h with h | h <;> (rw [h];decide+kernel)
 unfold bh;rw [kF hc,ha];constructor
 ·rintro (z | ⟨_,z⟩)
  ·exact .inl z
  ·injection z with z;exact .inr z
 ·rintro (z | z)
  ·exact .inl z
  ·exact .inr ⟨h,by rw [z]⟩
theorem z7V {r:Row} {P:Str->Prop} {x:Str} (h1:r.op≠"clear") (h2:¬(r.op="store"\/r.op="load")):bh r P x↔P x:=by
 unfold bh;rw [kF h1];exact ⟨fun z=>z.elim id fun y=>vd y.1 h2,.inl⟩
section
noncomputable def N58:List Str:=["row","names","op","arg"]
theorem sc58:zr N58 ["row","names"] (zh (top 58)):=fsM
noncomputable def z9D:Scope:=((((cpB ((zG (top 58)).getD 2 (.Pass ⟨0,0,0,0⟩)))[0]?.bind cpX).bind cpS).getD (zh (top 58)))
noncomputable def nm58:List (Str × NameKind):=[(".0",.local),("name",.local),("arg",.cell)]
noncomputable def cl58 (L:Addr):List (Str × Addr):=[("arg",L+1)]
noncomputable def N58a:List Str:=["name","arg"]
theorem nd58:N58a.Nodup:=vV
theorem cs58 {f:Addr} {cdv:Value} {A:Around} {vY:List Env} {s:Shared} {H:Hp} {E:XK}:
  qz (cxOf CX0 P w K mg base N58 "set_behind" (zh (top 58)) f cdv A vY s H E).nox N58a 1 [3] z9D (cl58 s.heap.objs.size):=
 qz.mk3 (nm:=nm58) (ks:=(cl58 0).map Prod.fst) rfl rfl ⟨vV,vV⟩ rfl rfl rfl vV rfl rfl rfl rfl
def z60:Sp:=fun vs H Q _=>∃(ra nl:Addr) (r:Row) (ns:List Str),vs=[.ref ra,.ref nl]/\H ra=some (.tup (tupV r))/\Z3 r/\H nl=some (.lst (ns.map V.str))/\ns.length<=20/\
 ∀(l:Addr) (bs:List Str) H',Same H H'->H' l=some (.lst (bs.map V.str))->(∀x,x∈bs↔bh r (· ∈ns) x)->(ns.Nodup->bs.Nodup)->(l=nl\/H l=none)->Q (.ref l) H'
theorem jR {ns:List Str} {i:Nat} {x:Str} (h:ns[i]?=some x):ns.take (i+1)=ns.take i++[x]:=by
 obtain ⟨hi,e⟩:=kj.mp h;rw [List.take_add_one,kQ hi,e];rfl
theorem z7o (D:zx K mg "set_behind" (top 58)) (GN:GloN mg):FN P w K mg base 1 "set_behind" ["row","names"] z60:=by
 refine FN.o D sc58 fun f cdv A vY s H vs Q E hr h=>?_
 obtain ⟨ra,nl,r,ns,rfl,hra,hok,hnl,hlen,q⟩:=h;refine ⟨_,z8 (jq (qb (z6 (zZ qN (pv 0) zl (fun _ _=>rfl)) (z6 (zZ qN (pv 0) zl (fun _ _=>rfl)) z7))) (jr rfl (zD (zC (i:=2) sc58.nd rfl (Or.inl rfl)) (zD (zC (i:=3) sc58.nd rfl (Or.inr rfl)) qC))))
  (z8 (zY (PW.pt (QP (zt jh (pv 2) (qb (z6 zq (z6 zq z7))) rfl) (ZK (zt z3o (pv 3) (pv 1) rfl)))) (zi (zu (zH z0Q rfl GN.sorted z1v (z6 (qa z3q (pv 1) (qe (z6 (pv 3) z7))) z7)))) zE)
  (z8 (zY (zt qM (pv 2) zq (zA _)) (zi (zu (je (N:=N58a) (nt:=1) (ix:=[3]) (cl:=cl58 s.heap.objs.size) rfl cs58 (jM (pv 1)) (fun _ _ _ _=>zC (i:=0) nd58 rfl (Or.inl rfl)) (fun _ _ _ _=>Qg (zt z4S (pv 0) (pv 1) (zA _))) (fun _ _ _ _=>pv 0)))) zE)
  (zi (zu (pv 1))))),?_⟩
 symm
 refine ⟨ra,_,_,_,rfl,rfl,SqT.of hra,zy (j:=0) rfl,ra,_,_,_,rfl,rfl,SqT.of hra,zy (j:=1) rfl,vW,fun t0 ht0=>?_⟩;have s0:=zo ht0 (.tup [.str r.op,r.arg]);refine ⟨t0,_,rfl,SqT.of zc,rfl,_,_,rfl,_,_,rfl,rfl,?_⟩;have hnl0:=s0 _ _ hnl;generalize upd H t0 (.tup [.str r.op,r.arg])=H0 at *;refine ⟨vW,fun t1 ht1=>?_⟩;have s1:=s0.trans (zo ht1 (.tup [.str "store",.str "load"]));refine ⟨t1,_,rfl,.inr (SqT.of zc),rfl,rfl,inT r.op ["store","load"],rfl,?_⟩;have hnl1:=(zo ht1 (.tup [.str "store",.str "load"])) _ _ hnl0;generalize upd H0 t1 (.tup [.str "store",.str "load"])=H1 at *;have mem:inT r.op ["store","load"]=true↔(r.op="store"\/r.op="load"):=by
  rw [Zo];simp
 have nocl:(r.op="store"\/r.op="load")->decide (r.op="clear")=false:=fun h=>by
  rcases h with h | h <;> (rw [h];decide+kernel)
 refine ite2 (fun c=>?_) (fun c=>?_)
 ·have c':=mem.mp c;obtain ⟨nm,ha⟩:∃nm,r.arg=.str nm:=by
   obtain ⟨op,arg,ln⟩:=r;rcases c' with z | z
   ·have z:op="store":=z;subst z;exact jZ (ZP hok (s:="name") vV)
   ·have z:op="load":=z;subst z;exact jZ (ZP hok (s:="name") vV)
  rw [ha];refine ⟨nm,nl,ns,rfl,rfl,SqL.of hnl1,_,rfl,?_⟩;by_cases hin:nm∈ns
  ·rw [ko hin];refine iteF ⟨rfl,decide (r.op="clear"),vF V.bl jO,?_⟩;rw [nocl c'];refine iteF (q nl ns H1 s1 hnl1 (fun x=>?_) id (.inl rfl));rw [z6r c' ha];exact ⟨.inl,fun z=>z.elim id fun y=>by rw [<-y];exact hin⟩
  ·rw [km hin];refine iteT ⟨vW,fun l1 hl1=>?_⟩;have s2:=zo hl1 (.lst [.str nm]);refine ⟨nl,l1,_,_,rfl,rfl,s2 _ _ hnl1,zc,by rw [kq,sizeLine_eq];show ns.length+1<=_;lia,fun l2 hl2=>?_⟩;have s3:=s2.trans (zo hl2 (.lst (ns.map V.str++[.str nm])));have e2:upd (upd H1 l1 (.lst [.str nm])) l2 (.lst (ns.map V.str++[.str nm])) l2=some (.lst ((ns++[nm]).map V.str)):=by rw [zc,kP];rfl
   refine ⟨l2,ns++[nm],rfl,SqL.of e2,by rw [ku];show ns.length+1 < 64;lia,fun d ss' hd pm=>?_⟩;have s13:=s1.trans s3;refine q d ss' _ (s13.trans (zo hd _)) zc (fun x=>?_) (fun nd=>?_) (.inr (s13.free hd))
   ·rw [pm.mem_iff,z6r c' ha,ya,kz];exact ⟨fun z=>z.imp id Eq.symm,fun z=>z.imp id Eq.symm⟩
   ·rw [pm.nodup_iff,List.nodup_append];refine ⟨nd,by simp,fun a ha b hb z=>?_⟩;rw [kz.mp hb] at z;rw [z] at ha;exact hin ha
 ·have c':¬(r.op="store"\/r.op="load"):=fun z=>c (mem.mpr z)
  refine iteF ⟨rfl,decide (r.op="clear"),vF V.bl jO,?_⟩;by_cases hcl:r.op="clear"
  ·rw [ko hcl];obtain ⟨nm,ha⟩:∃nm,r.arg=.str nm:=by
    obtain ⟨op,arg,ln⟩:=r;have z:op="clear":=hcl;subst z;exact jZ (ZP hok (s:="name") vV)
   refine iteT ⟨nl,rfl,⟨_,SqL.of hnl1⟩,fun bl hbl=>qV (K:=K) (a:=nl) (xs:=ns.map V.str) (fun i ys σ H2=>(∃x:Option V,σ=[x,some r.arg])/\ys=((ns.take i).filter fun x=>decide (x≠nm)).map V.str/\Same H1 H2/\H2 bl=some (.lst ys))
    ⟨⟨none,rfl⟩,rfl,zo hbl _,zc⟩ (fun i ys σ H2 _ zz=>by obtain ⟨_,_,s2,_⟩:=zz;exact s2.seq (SqL.of hnl1)) ?_ ?_⟩
   ·rintro i x ys σ H2 hi ⟨⟨b,rfl⟩,rfl,s2,hb2⟩;have hil:i < ns.length:=by have:=(kj.mp hi).1;rw [kq] at this;exact this
    have ei:ns[i]?=some ns[i]:=kQ hil;rw [vh,ei] at hi;cases hi;have hle:((ns.take i).filter fun x=>decide (x≠nm)).length<=ns.length:=kD (vT _ _) (by rw [vp];lia);refine jK ?_;refine ⟨by rw [ha];rfl,!decide (ns[i]=nm),by rw [ha,jO],?_⟩;by_cases z:ns[i]=nm
    ·rw [ko z];refine iteF ⟨ns.length - (i+1),by rw [kq];lia,by rw [kq],by rw [kq];lia,⟨_,rfl⟩,?_,s2,?_⟩
     ·rw [jR ei,List.filter_append,List.filter_cons_of_neg (by simp [z])];simp
     ·exact hb2
    ·rw [km z];refine iteT ⟨hb2,by rw [kq,sizeLine_eq];lia,ns.length - (i+1),by rw [kq];lia,by rw [kq],by rw [kq];lia,⟨_,rfl⟩,?_,My.Same.upd s2 hbl _,zc⟩;rw [jR ei,List.filter_append,List.filter_cons_of_pos (by simp [z]),kP];rfl
   ·rintro ys σ H2 ⟨_,rfl,s2,hb2⟩;rw [kq,vz] at hb2;refine q bl _ H2 (s1.trans s2) hb2 (fun x=>?_) (fun nd=>nd.filter _) (.inr (s1.free hbl));rw [List.mem_filter,z5O hcl,ha,decide_eq_true_iff];exact ⟨fun z=>⟨z.1,fun y=>z.2 (by injection y with y;exact y.symm)⟩,fun z=>⟨z.1,fun y=>z.2 (by rw [y])⟩⟩
  ·rw [km hcl];refine iteF (q nl ns H1 s1 hnl1 (fun x=>?_) id (.inl rfl));rw [z7V hcl c']
end
section
noncomputable def N59:List Str:=["code","labels","place","state","names","behind"]
theorem sc59:zr N59 ["code","labels","place","state","names"] (zh (top 59)):=fsM
noncomputable def z9C:Scope:=(((cpX ((zG (top 59)).getD 1 (.Pass ⟨0,0,0,0⟩))).bind cpS).getD (zh (top 59)))
noncomputable def nm59:List (Str × NameKind):=[(".0",.local),("goal",.local),("depth",.local),("more",.local),("behind",.cell),("names",.cell)]
noncomputable def cl59 (L:Addr):List (Str × Addr):=[("names",L+1),("behind",L+2)]
noncomputable def N59a:List Str:=["goal","depth","more","behind","names"]
theorem nd59:N59a.Nodup:=vV
theorem cs59 {f:Addr} {cdv:Value} {A:Around} {vY:List Env} {s:Shared} {H:Hp} {E:XK}:
  qz (cxOf CX0 P w K mg base N59 "ways_on" (zh (top 59)) f cdv A vY s H E).nox N59a 3 [5,4] z9C (cl59 s.heap.objs.size):=
 qz.mk3 (nm:=nm59) (ks:=(cl59 0).map Prod.fst) rfl rfl ⟨vV,vV⟩ rfl rfl rfl vV rfl rfl rfl rfl
abbrev Zt (H:Hp) (nl bl:Addr):List Addr->List Mv->Prop:=Paired fun t m=>H t=some (.tup [m.1,.ref (if m.2.2= -1 then nl else bl)])
theorem Zt.keep {H H':Hp} {nl bl:Addr} (k:∀c xs,H c=some (.tup xs)->H' c=some (.tup xs)):∀{ts:List Addr} {ms:List Mv},Zt H nl bl ts ms->Zt H' nl bl ts ms
 | _,_,.nil=>.nil
 | _,_,.cons h t=>.cons (k _ _ h) (Zt.keep k t)
theorem Zt.snoc {H:Hp} {nl bl t:Addr} {m:Mv} (h:H t=some (.tup [m.1,.ref (if m.2.2= -1 then nl else bl)])):∀{ts:List Addr} {ms:List Mv},Zt H nl bl ts ms->Zt H nl bl (ts++[t]) (ms++[m])
 | _,_,.nil=>.cons h .nil
 | _,_,.cons h0 r=>.cons h0 (Zt.snoc h r)
theorem Za.at_ {H:Hp}:∀{ts:List Addr} {ms:List Mv} {i:Nat} {t:Addr},Za H ts ms->ts[i]?=some t->∃m,ms[i]?=some m/\H t=some (.tup [m.1,.int m.2.1,.int m.2.2])
 | _,_,_,_,.nil,e=>by simp at e
 | _,_,0,_,.cons h _,e=>by
  simp at e
  subst e;exact ⟨_,rfl,h⟩
 | _,_,i+1,_,.cons _ t,e=>by
  obtain ⟨m,h1,h2⟩:=Za.at_ (i:=i) t (by simpa using e);exact ⟨m,by simpa using h1,h2⟩
def z5W (K:kE):Sp:=fun vs H Q _=>∃(l d:Addr) (place:Nat) (sa nl:Addr) (st:Sta) (rs:List Row) (r:Row) (ns:List Str),vs=[.ref l,.ref d,.int (place:Nat),.ref sa,.ref nl]/\Z8 K H l d rs/\rs[place]?=some r/\StA K H sa st/\H nl=some (.lst (ns.map V.str))/\ns.length<=20/\
 ∀(f bl:Addr) (ts:List Addr) (bs:List Str) H',Same H H'->H f=none->H' f=some (.lst (ts.map V.ref))->H' bl=some (.lst (bs.map V.str))->(∀x,x∈bs↔bh r (· ∈ns) x)->(ns.Nodup->bs.Nodup)->(bl=nl\/H bl=none)->Zt H' nl bl ts (ql rs place r st.1 st.2.getLast?)->Q (.ref f) H'
theorem z7g (D:zx K mg "ways_on" (top 59)) (FB:FN P w K mg base 1 "set_behind" ["row","names"] z60) (FU:FN P w K mg base 1 "uppermost" ["guards"] (z4z K)) (FM:FN P w K mg base 3 "moves" Vf (JA K)):FN P w K mg base 4 "ways_on" ["code","labels","place","state","names"] (z5W K):=by
 refine FN.o D sc59 fun f cdv A vY s H vs Q E hr h=>?_
 obtain ⟨l,d,place,sa,nl,st,rs,r,ns,rfl,hC,hrp,⟨g,hsa,hgs⟩,hnl,hlen,q⟩:=h;have hr1:=hr.mono (vV:1<=3);refine ⟨_,z8 (zK (i:=5) sc59.nd rfl (Or.inr rfl) (zw FB hr1 rfl (z6 (zZ zI (pv 0) (pv 2) (fun _ _=>rfl)) (z6 (pv 4) z7))))
  (zi (zu (je (N:=N59a) (nt:=3) (ix:=[5,4]) (cl:=cl59 s.heap.objs.size) rfl cs59 (jM (zw FM hr rfl (z6 (pv 0) (z6 (pv 1) (z6 (pv 2) (z6 (zZ qN (pv 3) zl (fun _ _=>rfl)) (z6 (zw FU hr1 rfl (z6 (zZ qN (pv 3) zl (fun _ _=>rfl)) z7)) z7)))))))
   (fun _ _ _ _=>Qh (K:=K) (n:=3) rfl rfl (zD (zC (i:=0) nd59 rfl (Or.inl rfl)) (zD (zC (i:=1) nd59 rfl (Or.inl rfl)) (zD (zC (i:=2) nd59 rfl (Or.inl rfl)) qC))))
   (fun _ _ _ _=>Zj) (fun _ _ _ _=>qb (z6 (pv 0) (z6 (j6 (zt qM (pv 2) (ZL jy zl) (zA _)) (pv 4) (pv 3)) z7)))))),?_⟩
 symm
 obtain ⟨⟨as,hl,hR⟩,hc,hlab⟩:=id hC;obtain ⟨ra,hra,har⟩:=hR.get' hrp;refine ⟨l,_,_,_,rfl,rfl,hl,zy hra,ra,nl,r,ns,rfl,har,hc.ok r (kM hrp),hnl,hlen,fun bl bs H1 s1 hbl hbs hnd hfr=>?_⟩;have hsa1:=qx s1 hsa;have hgs1:=hgs.same s1;refine ⟨sa,_,_,_,rfl,rfl,hsa1,zy (j:=0) rfl,sa,_,_,_,rfl,rfl,hsa1,zy (j:=1) rfl,g,st.2,rfl,hgs1,fun gv hgv=>?_⟩;refine ⟨l,d,place,st.1,gv,st.2.getLast?,rs,r,rfl,hC.same s1,hrp,hgv,fun fm tm H2 s2 hfm hm2 hM=>?_⟩;have lm:tm.length=(ql rs place r st.1 st.2.getLast?).length:=Paired.length hM;have hbl2:=s2 _ _ hbl;have few:(ql rs place r st.1 st.2.getLast?).length<=3:=by
  unfold ql;split
  ·exact vi _
  ·split
   ·exact vi _
   ·rw [ku,ku];have a1:(mv1 r place st.1).length<=1:=by unfold mv1;split <;> simp
    have a2:(mv2 rs r st.1).length<=1:=by unfold mv2;split <;> simp
    have a3:(mv3 rs r st.2.getLast?).length<=1:=by unfold mv3;split <;> (try split) <;> simp
    lia
 refine ⟨fm,rfl,⟨_,SqL.of hm2⟩,fun f hf=>qV (K:=K) (a:=fm) (xs:=tm.map V.ref) (fun i ys σ H3=>(∃x y z:Option V,σ=[x,y,z,some (.ref bl),some (.ref nl)])/\(∃ts,ys=ts.map V.ref/\Zt H3 nl bl ts ((ql rs place r st.1 st.2.getLast?).take i))/\Same H2 H3/\H3 f=some (.lst ys))
  ⟨⟨none,none,none,rfl⟩,⟨[],rfl,.nil⟩,zo hf _,zc⟩ (fun i ys σ H3 _ zz=>by obtain ⟨_,_,s3,_⟩:=zz;exact s3.seq (SqL.of hm2)) ?_ ?_⟩
 ·rintro i x ys σ H3 hi ⟨⟨a,b,c,rfl⟩,⟨ts,rfl,hW⟩,s3,hf3⟩;have hil:i < tm.length:=by have:=(kj.mp hi).1;rw [kq] at this;exact this
  have ei:tm[i]?=some tm[i]:=kQ hil;rw [vh,ei] at hi;cases hi;obtain ⟨m,em,hm⟩:=hM.at_ ei;have lt:=Paired.length hW;rw [vp] at lt;refine ⟨tm[i],_,rfl,SqT.of (s3 _ _ hm),rfl,_,_,rfl,_,_,rfl,_,_,rfl,rfl,?_⟩;refine Zf ⟨_,rfl,rfl,decide (m.2.2= -1),?_,?_⟩
  ·refine vF V.bl ?_;rw [vR,decide_eq_true_iff,decide_eq_true_iff];exact ⟨fun z=>by injection z,fun z=>by rw [z]⟩
  by_cases cm:m.2.2= -1
  ·rw [ko cm];refine iteT ⟨vW,fun t ht=>?_⟩;have t1:=zo ht (.tup [m.1,.ref nl]);have nt:t≠f:=fun z=>by rw [z,hf3] at ht;cases ht
   refine ⟨t1 _ _ hf3,by rw [kq,sizeLine_eq];lia,tm.length - (i+1),by rw [kq];lia,by rw [kq],by rw [kq];lia,⟨_,_,_,rfl⟩,⟨ts++[t],by rw [kP];rfl,?_⟩,My.Same.upd (s3.trans t1) hf _,zc⟩;rw [j3 em];refine Zt.snoc (by rw [zj nt,kG cm];exact zc) (Zt.keep (fun c xs e=>?_) hW);rw [zj (fun z=>by rw [z,hf3] at e;cases e)];exact t1 _ _ e
  ·rw [km cm];refine iteF ⟨vW,fun t ht=>?_⟩;have t1:=zo ht (.tup [m.1,.ref bl]);have nt:t≠f:=fun z=>by rw [z,hf3] at ht;cases ht
   refine ⟨t1 _ _ hf3,by rw [kq,sizeLine_eq];lia,tm.length - (i+1),by rw [kq];lia,by rw [kq],by rw [kq];lia,⟨_,_,_,rfl⟩,⟨ts++[t],by rw [kP];rfl,?_⟩,My.Same.upd (s3.trans t1) hf _,zc⟩;rw [j3 em];refine Zt.snoc (by rw [zj nt,kF cm];exact zc) (Zt.keep (fun c xs e=>?_) hW);rw [zj (fun z=>by rw [z,hf3] at e;cases e)];exact t1 _ _ e
 ·rintro ys σ H3 ⟨_,⟨ts,rfl,hW⟩,s3,hf3⟩;rw [kq,lm,vz] at hW;have s12:=s1.trans s2;exact q f bl ts bs H3 (s12.trans s3) (s12.free hf) hf3 (s3 _ _ hbl2) hbs hnd hfr hW
end
end My
namespace L2
theorem z70 {X:Cx} {K:kE} (hK:X.K=K):OpR X (compareOp .In) (fun x y H Q=>∃(z:Str) (l:Addr) (ss:List Str),x=.str z/\y=.ref l/\SqL K H l (ss.map V.str)/\Q (.bl (decide (z∈ss))) H):=by subst hK;exact My.z8P
end L2
namespace My
open L2
variable {P:Program} {w:World} {K:kE} {mg:Str->Option Value} {base:Heap}
def ItN (H:Hp) (nl wl:Addr) (x:V):Option (List Str)->Prop
 | none=>x=.non
 | some ns=>∃a,x=.ref a/\a≠nl/\a≠wl/\H a=some (.lst (ns.map V.str))
abbrev TabN (H:Hp) (nl wl:Addr):List V->NTab->Prop:=Paired (ItN H nl wl)
theorem ItN.keep {H H':Hp} {nl wl:Addr} (k:∀a (ns:List Str),a≠nl->a≠wl->H a=some (.lst (ns.map V.str))->H' a=some (.lst (ns.map V.str))) {x:V} {o:Option (List Str)} (h:ItN H nl wl x o):ItN H' nl wl x o:=by
 cases o with
 | none=>exact h
 | some ns=>
  obtain ⟨a,e,h1,h2,h3⟩:=h;exact ⟨a,e,h1,h2,k a ns h1 h2 h3⟩
theorem TabN.keep {H H':Hp} {nl wl:Addr} (k:∀a (ns:List Str),a≠nl->a≠wl->H a=some (.lst (ns.map V.str))->H' a=some (.lst (ns.map V.str))):∀{xs:List V} {N:NTab},TabN H nl wl xs N->TabN H' nl wl xs N
 | _,_,.nil=>.nil
 | _,_,.cons h t=>.cons (ItN.keep k h) (TabN.keep k t)
theorem TabN.get {H:Hp} {nl wl:Addr}:∀{xs:List V} {N:NTab} {j:Nat} {o:Option (List Str)},TabN H nl wl xs N->N[j]?=some o->∃x,xs[j]?=some x/\ItN H nl wl x o
 | _,_,_,_,.nil,e=>by simp at e
 | _,_,0,_,.cons h _,e=>by
  simp at e
  subst e;exact ⟨_,rfl,h⟩
 | _,_,j+1,o,.cons _ t,e=>by
  obtain ⟨x,h1,h2⟩:=TabN.get (j:=j) (o:=o) t (by simpa using e);exact ⟨x,by simpa using h1,h2⟩
theorem TabN.set {H:Hp} {nl wl:Addr} {x:V} {o:Option (List Str)} (hs:ItN H nl wl x o):∀{xs:List V} {N:NTab} (j:Nat),TabN H nl wl xs N->TabN H nl wl (xs.set j x) (N.set j o)
 | _,_,_,.nil=>.nil
 | _,_,0,.cons _ t=>.cons hs t
 | _,_,j+1,.cons h t=>.cons h (TabN.set hs j t)
theorem z1z (H:Hp) (nl wl:Addr):∀n:Nat,TabN H nl wl (List.replicate n V.non) (List.replicate n none)
 | 0=>.nil
 | n+1=>.cons rfl (z1z H nl wl n)
structure NSt (K:kE) (H0 H:Hp) (l d nl wl:Addr) (rs:List Row) (N:NTab) (w:List Nat):Prop where
 same:Same H0 H
 code:Z8 K H l d rs
 tab:∃xs,H nl=some (.lst xs)/\TabN H nl wl xs N
 wts:H wl=some (.lst (w.map fun p=>V.int (p:Nat)))
 f1:H0 nl=none
 f2:H0 wl=none
 ne:nl≠wl
 nd1:d≠nl
 nd2:d≠wl
section
variable {K:kE} {H0 H H':Hp} {l d nl wl:Addr} {rs:List Row} {N:NTab} {w:List Nat}
theorem NSt.same' (h:NSt K H0 H l d nl wl rs N w) (s:Same H H'):NSt K H0 H' l d nl wl rs N w:=by
 obtain ⟨xs,h1,h2⟩:=h.tab;exact ⟨h.same.trans s,h.code.same s,⟨xs,s _ _ h1,h2.keep fun a ns _ _ e=>s _ _ e⟩,s _ _ h.wts,h.f1,h.f2,h.ne,h.nd1,h.nd2⟩
theorem NSt.codeK {wl0:Addr} {u:HO} (hc:Z8 K H l d rs) (hs:Same H0 H) (hC0:∃as,SqL K H0 l (as.map V.ref)/\q0 H0 as rs) {o:HO} (f:H0 wl0=none) (e:H wl0=some u) (nu:∀xs,u≠.tup xs) (nd:d≠wl0):Z8 K (upd H wl0 o) l d rs:=by
 obtain ⟨as,h1,h2⟩:=hC0;obtain ⟨_,hc',kvs,h3,h4⟩:=hc;have s1:Same H0 (upd H wl0 o):=fun b v z=>by rw [zj (ze z f)];exact hs _ _ z
 exact ⟨⟨as,s1.seq h1,h2.same s1⟩,hc',kvs,by rw [zj nd];exact h3,h4⟩
theorem NSt.wait (h:NSt K H0 H l d nl wl rs N w) (hC0:∃as,SqL K H0 l (as.map V.ref)/\q0 H0 as rs) (w':List Nat):NSt K H0 (upd H wl (.lst (w'.map fun p=>V.int (p:Nat)))) l d nl wl rs N w':=by
 obtain ⟨xs,h1,h2⟩:=h.tab;exact ⟨fun b v z=>by rw [zj (ze z h.f2)];exact h.same _ _ z,NSt.codeK h.code h.same hC0 h.f2 h.wts nofun h.nd2,⟨xs,by rw [zj h.ne];exact h1,h2.keep fun a ns _ a2 e=>by rw [zj a2];exact e⟩,zc,h.f1,h.f2,h.ne,h.nd1,h.nd2⟩
theorem NSt.put (h:NSt K H0 H l d nl wl rs N w) (hC0:∃as,SqL K H0 l (as.map V.ref)/\q0 H0 as rs) {xs:List V} (hx:H nl=some (.lst xs)) {a:Addr} {ns:List Str} (a1:a≠nl) (a2:a≠wl) (ha:H a=some (.lst (ns.map V.str))) (j:Nat):NSt K H0 (upd H nl (.lst (xs.set j (.ref a)))) l d nl wl rs (N.set j (some ns)) w:=by
 obtain ⟨xs',h1,h2⟩:=h.tab;rw [hx] at h1;cases h1;exact ⟨fun b v z=>by rw [zj (ze z h.f1)];exact h.same _ _ z,NSt.codeK h.code h.same hC0 h.f1 hx nofun h.nd1,⟨_,zc,TabN.set (o:=some ns) ⟨a,rfl,a1,a2,by rw [zj a1];exact ha⟩ j (h2.keep fun a ns a1 _ e=>by rw [zj a1];exact e)⟩,by rw [zj h.ne.symm];exact h.wts,h.f1,h.f2,h.ne,h.nd1,h.nd2⟩
end
noncomputable def z9d:V->Nat
 | .int j=>j.toNat
 | _=>0
theorem z0A (j:Nat):z9d (.int (j:Int))=j:=by show ((j:Nat):Int).toNat=j;lia
theorem z3T {ns cs:List Str} (h:(ns.filter fun x=>decide (x∈cs))≠ns):(ns.filter fun x=>decide (x∈cs)).length < ns.length:=by
 have a:=List.filter_sublist (p:=fun x=>decide (x∈cs)) (l:=ns);have b:=a.length_le;by_cases z:(ns.filter fun x=>decide (x∈cs)).length=ns.length
 ·exact vd (a.eq_of_length z) h
 ·lia
section
noncomputable def N60:List Str:=["code","found","given","labels","names","waiting","place","goal","behind","ahead","kept"]
theorem sc60:zr N60 ["code","found","given"] (zh (top 60)):=fsM
noncomputable def z9B:Scope:=((((((cpB ((zG (top 60)).getD 4 (.Pass ⟨0,0,0,0⟩)))[1]?.map cpB).bind (·[1]?)).bind cpX).bind cpE |>.bind cpS).getD (zh (top 60)))
noncomputable def nm60:List (Str × NameKind):=[(".0",.local),("name",.local),("behind",.cell)]
noncomputable def cl60 (L:Addr):List (Str × Addr):=[("behind",L+1)]
noncomputable def N60a:List Str:=["name","behind"]
theorem nd60:N60a.Nodup:=vV
theorem cs60 {f:Addr} {cdv:Value} {A:Around} {vY:List Env} {s:Shared} {H:Hp} {E:XK}:
  qz (cxOf CX0 P w K mg base N60 "names_set" (zh (top 60)) f cdv A vY s H E).nox N60a 1 [8] z9B (cl60 s.heap.objs.size):=
 qz.mk3 (nm:=nm60) (ks:=(cl60 0).map Prod.fst) rfl rfl ⟨vV,vV⟩ rfl rfl rfl vV rfl rfl rfl rfl
theorem z3D {n j:Nat} (h:j < n):ixN n (j:Int)=some j:=by
 unfold ixN;rw [kG (by lia),kG (by lia)];simp
noncomputable def mkM (r:Row) (ns:List Str) (m:Mv):Nat × (Str->Prop):=(z9d m.1,wayP r m.2.2 ns)
theorem Zt.at_ {H:Hp} {nl bl:Addr}:∀{ts:List Addr} {ms:List Mv} {i:Nat} {t:Addr},Zt H nl bl ts ms->ts[i]?=some t->∃m,ms[i]?=some m/\H t=some (.tup [m.1,.ref (if m.2.2= -1 then nl else bl)])
 | _,_,_,_,.nil,e=>by simp at e
 | _,_,0,_,.cons h _,e=>by
  simp at e
  subst e;exact ⟨_,rfl,h⟩
 | _,_,i+1,_,.cons _ t,e=>by
  obtain ⟨m,h1,h2⟩:=Zt.at_ (i:=i) t (by simpa using e);exact ⟨m,by simpa using h1,h2⟩
theorem z73 {rs:List Row} {S:Fnd} {gv B:List Str} (hlo:1<=rs.length) (hn:gv.Nodup) (hB:∀x∈gv,x∈B):NO rs S (· ∈gv) B ((List.replicate rs.length none).set 0 (some gv)) [0]:=by
 have at0:((List.replicate rs.length (none:Option (List Str))).set 0 (some gv))[0]?=some (some gv):=by rw [vx,kG rfl,kG (by rw [vj];lia)]
 have only:∀p ns,((List.replicate rs.length (none:Option (List Str))).set 0 (some gv))[p]?=some (some ns)->p=0/\ns=gv:=fun p ns e=>by
  rcases z1D e with z | ⟨_,z⟩
  ·exact z
  ·rw [vq] at z;split at z <;> cases z
 refine ⟨⟨by rw [vE,vj],fun p ns e=>?_,⟨gv,at0,fun x hx=>hx⟩,fun Tb C p ns x e t=>?_,fun p hp=>?_⟩,fun p ns hp e=>?_⟩
 ·obtain ⟨rfl,rfl⟩:=only p ns e;exact ⟨.zero,hn,hB⟩
 ·obtain ⟨rfl,rfl⟩:=only p ns e;exact C.zero x t
 ·rw [kz.mp hp];exact ⟨gv,at0⟩
 ·exact vd (kz.mpr (only p ns e).1) hp
theorem z4I {n k:Nat} {gv:List Str} (hn:1<=k) (hg:gv.length<=n):pot n ((List.replicate k none).set 0 (some gv))<=k * (n+1):=by
 have h0:(List.replicate k (none:Option (List Str)))[0]?=some none:=by rw [vq,kG (by lia)]
 have e:=JE (n:=n) (some gv) h0;have all:pot n (List.replicate k none)=k * (n+1):=by
  clear h0 e hn;induction k with
  | zero=>rw [Nat.zero_mul];rfl
  | succ k ih=>
   rw [Nat.succ_mul,<-ih];show (n+1)+pot n (List.replicate k none)=_;lia
 rw [all] at e;have:valN n none=n+1:=rfl
 have:valN n (some gv)=gv.length:=rfl
 lia
def spNS (K:kE):Sp:=fun vs H Q _=>∃(l fl ga:Addr) (as:List Addr) (rs:List Row) (fvs:List V) (fin:Fnd) (gv B:List Str),vs=[.ref l,.ref fl,.ref ga]/\SqL K H l (as.map V.ref)/\q0 H as rs/\Code rs/\H fl=some (.lst fvs)/\qR K H fvs fin/\jb rs fin/\SqT K H ga (gv.map V.str)/\gv.Nodup/\(∀x∈gv,x∈B)/\B.length<=8/\
 (∀r∈rs,(r.op="store"\/r.op="load")->∀nm,r.arg=.str nm->nm∈B)/\
 ∀(nl wl:Addr) (N:NTab) (xs:List V) H',Same H H'->H nl=none->H' nl=some (.lst xs)->TabN H' nl wl xs N->NO rs fin (· ∈gv) B N []->Q (.ref nl) H'
def Wl60 (K:kE) (H:Hp) (l fl ga d nl wl:Addr) (rs:List Row) (fin:Fnd) (gv B:List Str) (k:Nat) (σ:L2.St) (H6:Hp):Prop:=∃(N:NTab) (w:List Nat) (x6 x7 x8 x9 x10:Option V),σ=[some (.ref l),some (.ref fl),some (.ref ga),some (.ref d),some (.ref nl),some (.ref wl),x6,x7,x8,x9,x10]/\NSt K H H6 l d nl wl rs N w/\NO rs fin (· ∈gv) B N w/\k=2 * pot B.length N+w.length/\k<=5000
def Nx60 (K:kE) (H:Hp) (l fl ga d nl wl:Addr) (rs:List Row) (fin:Fnd) (gv B:List Str) (N:NTab) (w':List Nat) (σ':L2.St) (H':Hp):Prop:=∃(N':NTab) (w2:List Nat) (x6 x7 x8 x9 x10:Option V),σ'=[some (.ref l),some (.ref fl),some (.ref ga),some (.ref d),some (.ref nl),some (.ref wl),x6,x7,x8,x9,x10]/\NSt K H H' l d nl wl rs N' w2/\NO rs fin (· ∈gv) B N' w2/\2 * pot B.length N'+w2.length<=2 * pot B.length N+w'.length
def Fr60 (K:kE) (H:Hp) (l fl ga d nl wl:Addr) (rs:List Row) (fin:Fnd) (gv B:List Str) (N:NTab) (w':List Nat) (H8:Hp) (p:Nat) (r:Row) (ns:List Str) (ms:List Mv) (i:Nat) (σ:L2.St) (H9:Hp):Prop:=∃(N':NTab) (w2:List Nat) (x7 x8 x9 x10:Option V),σ=[some (.ref l),some (.ref fl),some (.ref ga),some (.ref d),some (.ref nl),some (.ref wl),some (.int ((p:Nat):Int)),x7,x8,x9,x10]/\NSt K H H9 l d nl wl rs N' w2/\NW rs fin (· ∈gv) B p ns ((ms.take i).map (mkM r ns)) N' w2/\2 * pot B.length N'+w2.length<=2 * pot B.length N+w'.length/\∀b o,H8 b=some o->b≠nl->b≠wl->H9 b=some o
def Cp60 (u:Addr) (oa cs:List Str) (H9:Hp) (kl:Addr) (i:Nat) (ys:List V) (σ:L2.St) (H2:Hp):Prop:=(∃x:Option V,σ=[x,some (.ref u)])/\ys=((oa.take i).filter fun x=>decide (x∈cs)).map V.str/\Same H9 H2/\H2 kl=some (.lst ys)
theorem zas (D:zx K mg "names_set" (top 60)) (G:Glo mg) (FL:FN P w K mg base 7 "label_places" ["rows"] (z0j K)) (FW:FN P w K mg base 4 "ways_on" ["code","labels","place","state","names"] (z5W K)):FN P w K mg base 8 "names_set" ["code","found","given"] (spNS K):=by
 refine FN.o D sc60 fun f cdv A vY s H vs Q E hr h=>?_
 obtain ⟨l,fl,ga,as,rs,fvs,fin,gv,B,rfl,hS,hR,hc,hfl,hF,T,hga,hgn,hgB,hB8,hrB,q⟩:=h;have hu:(A.deeper (envOfC "names_set" (zh (top 60)) s.heap.objs.size f cdv)).units < cLine:=hr.units0;have hr4:=hr.mono (vV:4<=7);refine ⟨_,z8 (zK (i:=3) sc60.nd rfl (Or.inl rfl) (zw FL hr rfl (z6 (pv 0) z7)))
  (z8 (zK (i:=4) sc60.nd rfl (Or.inl rfl) (qa z6g (qe (z6 qk z7)) (zH zW rfl G.len qA (z6 (pv 0) z7))))
  (z8 (jq (jg jL rfl G.list Zq (z6 (pv 2) z7)) (Qt (pv 4) zl jH))
  (z8 (zK (i:=5) sc60.nd rfl (Or.inl rfl) (qe (z6 zl z7)))
  (z8 (JD vn (ZV (pv 5) (fun _=>rfl))
   (z8 (zK (i:=6) sc60.nd rfl (Or.inl rfl) (jT (pv 5)))
   (zi (jI vn rfl (jM (zw FW hr4 rfl (z6 (pv 0) (z6 (pv 3) (z6 (pv 6) (z6 (zZ zI (pv 1) (pv 6) (fun _ _=>rfl)) (z6 (zZ zI (pv 4) (pv 6) (fun _ _=>rfl)) z7))))))) (jr rfl (zD (zC (i:=7) sc60.nd rfl (Or.inl rfl)) (zD (zC (i:=8) sc60.nd rfl (Or.inr rfl)) qC)))
    (z8 (zK (i:=9) sc60.nd rfl (Or.inl rfl) (zZ zI (pv 4) (pv 7) (fun _ _=>rfl)))
    (z8 (zK (i:=10) sc60.nd rfl (Or.inl rfl) (j6 (zt Z7 (pv 9) qk (zA _)) (pv 8) (je (N:=N60a) (nt:=1) (ix:=[8]) (cl:=cl60 s.heap.objs.size) rfl cs60 (jM (pv 9)) (fun _ _ _ _=>zC (i:=0) nd60 rfl (Or.inl rfl)) (fun _ _ _ _=>Qg (zt (z70 (K:=K) rfl) (pv 0) (pv 1) rfl)) (fun _ _ _ _=>pv 0))))
    (zi (zY (zt (z6Y hu) (pv 10) (pv 9) (zA _))
     (z8 (jq (pv 10) (Qt (pv 4) (pv 7) jH)) (zi (zp (jC (pv 5) (z6 (pv 7) z7))))) zE))))))))
  (zi (zu (pv 4))))))),?_⟩
 symm
 have hlen:=hc.hi;have hlo:=hc.lo;have hll:as.length=rs.length:=hR.len;refine ⟨l,as,rs,rfl,hS,hR,hc.ok,by lia,fun d kvs0 H1 hd0 s1 hd1 hL=>?_⟩;have hC0:∃as,SqL K H l (as.map V.ref)/\q0 H as rs:=⟨as,hS,hR⟩
 refine ⟨vW,fun p0 hp0=>?_⟩;have t0:=zo hp0 (.lst [V.non]);refine ⟨l,_,rfl,.inl (t0.seq (s1.seq hS)),p0,_,[V.non],rfl,rfl,zc,?_,?_,?_,fun nl hnl=>?_⟩
 ·rw [kq];lia
 ·rw [kq];lia
 ·rw [kq];show 1 * ((as.length:Nat):Int).toNat<=sizeLine;rw [sizeLine_eq,yg];lia
 have efl:(List.replicate (((as.map V.ref).length:Nat):Int).toNat [V.non]).flatten=List.replicate rs.length V.non:=by
  rw [yg,kq,hll];generalize rs.length=n;induction n with
  | zero=>rfl
  | succ n ih=>rw [vD,vU,ih];rfl
 rw [efl];have sA:Same H (upd H1 p0 (.lst [V.non])):=s1.trans t0;have hdA:=t0 _ _ hd1;generalize upd H1 p0 (.lst [V.non])=HA at *;have fnl:H nl=none:=sA.free hnl;have nd1:d≠nl:=ze hdA hnl;have sB:=zo hnl (.lst (List.replicate rs.length V.non));have sAB:=sA.trans sB;have hnB:upd HA nl (.lst (List.replicate rs.length V.non)) nl=some (.lst (List.replicate rs.length V.non)):=zc;have hdB:=sB _ _ hdA;generalize upd HA nl (.lst (List.replicate rs.length V.non))=HB at *;refine ⟨ga,_,rfl,.inr (qx sAB hga),fun g1 hg1=>?_⟩;have sC:=zo hg1 (.lst (gv.map V.str));have hgC:upd HB g1 (.lst (gv.map V.str)) g1=some (.lst (gv.map V.str)):=zc;have hnC:=sC _ _ hnB;have hdC:=sC _ _ hdB;have ng1:g1≠nl:=(ze hnB hg1).symm;have sAC:=sAB.trans sC;generalize upd HB g1 (.lst (gv.map V.str))=HC at *;refine ⟨nl,_,0,0,rfl,rfl,hnC,?_,?_⟩
 ·rw [vj];exact z3D (j:=0) (by lia)
 have hD1:upd HC nl (.lst ((List.replicate rs.length V.non).set 0 (.ref g1))) nl=some (.lst ((List.replicate rs.length V.non).set 0 (.ref g1))):=zc;have hD2:upd HC nl (.lst ((List.replicate rs.length V.non).set 0 (.ref g1))) g1=some (.lst (gv.map V.str)):=by rw [zj ng1];exact hgC
 have hD3:upd HC nl (.lst ((List.replicate rs.length V.non).set 0 (.ref g1))) d=some (.dK kvs0):=by rw [zj nd1];exact hdC
 have sD:Same H (upd HC nl (.lst ((List.replicate rs.length V.non).set 0 (.ref g1)))):=fun b o e=>by rw [zj (ze e fnl)];exact sAC _ _ e
 generalize upd HC nl (.lst ((List.replicate rs.length V.non).set 0 (.ref g1)))=HD at *;refine ⟨vW,fun wl hwl=>?_⟩;have sE:=zo hwl (.lst [V.int 0]);have nwl:nl≠wl:=ze hD1 hwl;have S0:NSt K H (upd HD wl (.lst [V.int 0])) l d nl wl rs ((List.replicate rs.length none).set 0 (some gv)) [0]:=by
  have sDE:=sD.trans sE;exact ⟨sDE,⟨⟨as,sDE.seq hS,hR.same sDE⟩,hc,kvs0,sE _ _ hD3,hL⟩,⟨_,sE _ _ hD1,TabN.set (o:=some gv) ⟨g1,rfl,ng1,ze hD2 hwl,sE _ _ hD2⟩ 0 (z1z _ _ _ _)⟩,zc,fnl,sD.free hwl,nwl,nd1,ze hD3 hwl⟩
 have hgl:gv.length<=B.length:=ZZ hgn hgB;have hpot:=z4I (k:=rs.length) hlo hgl;have hpot2:rs.length * (B.length+1)<=150 * 9:=Nat.mul_le_mul hlen (by lia);refine ⟨Wl60 K H l fl ga d nl wl rs fin gv B,
  ⟨_,_,[0],none,none,none,none,none,rfl,S0,z73 hlo hgn hgB,rfl,by show 2 * pot B.length _+1<=5000;lia⟩,?_⟩
 clear S0 sE sD hD1 hD2 hD3 sAC ng1 hdC hnC hgC sC hg1 hdB hnB sAB sB hnl hdA sA t0 efl hp0 hwl hpot hpot2;rintro k σ H6 ⟨N,w,x6,x7,x8,x9,x10,rfl,S6,O6,rfl,hk⟩;refine ⟨!(w.map fun p=>V.int ((p:Nat):Int)).isEmpty,.inl ⟨_,SqL.of S6.wts,rfl⟩,?_⟩;rcases List.eq_nil_or_concat w with rfl | ⟨w',p,e⟩
 ·obtain ⟨xs,h1,h2⟩:=S6.tab;exact iteF (q nl wl N xs H6 S6.same S6.f1 h1 h2 O6)
 rw [List.concat_eq_append] at e;subst e;have ne0:(!((w'++[p]).map fun p=>V.int ((p:Nat):Int)).isEmpty)=true:=by simp
 rw [ne0];obtain ⟨ns,hNp⟩:=O6.wait p (kU _ (kz.mpr rfl));obtain ⟨hRp,hnn,hnB⟩:=O6.only p ns hNp;have htop:∀Tb,Sur rs fin (· ∈gv) Tb->∀x,Tb p x->x∈ns:=fun Tb C x t=>O6.top Tb C p ns x hNp t
 have hnl8:ns.length<=B.length:=ZZ hnn hnB;obtain ⟨st,hst⟩:=hRp.sta T;have hpl:p < rs.length:=by have:=(kj.mp hst).1;rw [T.len] at this;exact this
 obtain ⟨r,hrp⟩:∃r,rs[p]?=some r:=⟨rs[p],kQ hpl⟩
 have W0:=O6.pop hNp;refine iteT ⟨Nx60 K H l fl ga d nl wl rs fin gv B N w',
  fun σ' H' zz=>by obtain ⟨N',w2,y6,y7,y8,y9,y10,e1,e2,e3,e4⟩:=zz;exact ⟨_,by rw [ku];show _ < 2 * pot B.length N+(w'.length+1);lia,N',w2,y6,y7,y8,y9,y10,e1,e2,e3,rfl,by rw [ku] at hk;have hk:2 * pot B.length N+(w'.length+1)<=5000:=hk;lia⟩,?_⟩
 have hk':2 * pot B.length N+(w'.length+1)<=5000:=by rw [ku] at hk;exact hk
 clear O6 hk;have hlast:((w'++[p]).map fun p=>V.int ((p:Nat):Int))[((w'++[p]).map fun p=>V.int ((p:Nat):Int)).length - 1]?=some (V.int ((p:Nat):Int)):=by rw [<-List.getLast?_eq_getElem?,kP];simp
 refine ⟨.inl ⟨rfl,_,SqL.of S6.wts⟩,wl,_,_,rfl,rfl,S6.wts,hlast,?_⟩;have ed:((w'++[p]).map fun p=>V.int ((p:Nat):Int)).dropLast=w'.map fun p=>V.int ((p:Nat):Int):=by rw [kP];simp
 rw [ed];have S7:=S6.wait hC0 w';clear S6;generalize upd H6 wl (.lst (w'.map fun p=>V.int ((p:Nat):Int)))=H7 at *;obtain ⟨xs,hxs,htb⟩:=S7.tab;obtain ⟨y,hy,hyo⟩:=htb.get hNp;obtain ⟨ap,rfl,ap1,ap2,hap⟩:=hyo;obtain ⟨z,hz,hzo⟩:=(hF.keep (qB.of S7.same)).get hst;obtain ⟨sa,rfl,hsa⟩:=hzo;refine ⟨fl,_,_,_,rfl,rfl,SqL.of (S7.same _ _ hfl),zy hz,nl,_,_,_,rfl,rfl,SqL.of hxs,zy hy,l,d,p,sa,ap,st,rs,r,ns,rfl,S7.code,hrp,hsa,hap,by lia,fun f bl ts bs H8 s8 hf hf8 hbl8 hbs hbn hfr hW=>?_⟩;have S8:=S7.same' s8;have nf1:f≠nl:=(ze hxs hf).symm;have nf2:f≠wl:=(ze S7.wts hf).symm;have nb:bl≠nl/\bl≠wl:=by
  rcases hfr with z | z
  ·rw [z];exact ⟨ap1,ap2⟩
  ·exact ⟨(ze hxs z).symm,(ze S7.wts z).symm⟩
 have hap8:=s8 _ _ hap;have hbB:∀x∈bs,x∈B:=fun x hx=>by
  have:=(hbs x).mp hx
  unfold bh at this;split at this
  ·exact hnB x this.1
  ·rcases this with z | ⟨z1,z2⟩
   ·exact hnB x z
   ·exact hrB r (kM hrp) z1 x z2
 clear S7 htb hxs hy hap hz hsa s8 hf hfr;generalize hms:ql rs p r st.1 st.2.getLast?=ms at *;refine ⟨f,rfl,⟨_,SqL.of hf8⟩,z1U (K:=K) (a:=f) (xs:=ts.map V.ref) (Fr60 K H l fl ga d nl wl rs fin gv B N w' H8 p r ns ms)
  ⟨N,w',x7,x8,x9,x10,rfl,S8,W0,ki _,fun _ _ e _ _=>e⟩ (fun i σ H9 _ zz=>by obtain ⟨_,_,_,_,_,_,_,_,_,_,kp⟩:=zz;exact SqL.of (kp _ _ hf8 nf1 nf2)) ?_ ?_⟩
 ·rintro i x σ H9 hi ⟨N',w2,x7,x8,x9,x10,rfl,S9,W9,hm9,kp⟩;have hil:i < ts.length:=by have:=(kj.mp hi).1;rw [kq] at this;exact this
  have ei:ts[i]?=some ts[i]:=kQ hil;rw [vh,ei] at hi;cases hi;obtain ⟨m,em,ht⟩:=hW.at_ ei;have hmem:m∈ql rs p r st.1 st.2.getLast?:=by rw [hms];exact kM em
  obtain ⟨j,ej,hSj⟩:=T.next p r st hrp hst m.1 (m.2.1,zQ r st.1 st.2 m.2.2) (by unfold Zm;exact yl.mpr ⟨m,hmem,rfl⟩);have hRj:Rch rs fin j:=.step hRp hrp hst hmem ej;have hjl:j < N'.length:=by rw [W9.len];have:=(kj.mp hSj).1;rw [T.len] at this;exact this
  obtain ⟨cs,ecs⟩:∃cs,cs=if m.2.2= -1 then ns else bs:=⟨_,rfl⟩
  obtain ⟨u,eu⟩:∃u,u=if m.2.2= -1 then ap else bl:=⟨_,rfl⟩
  have hcs:∀x,x∈cs↔wayP r m.2.2 ns x:=fun x=>by
   unfold wayP;rw [ecs];split
   ·exact Iff.rfl
   ·exact hbs x
  have hcn:cs.Nodup:=by rw [ecs];split;exact hnn;exact hbn hnn
  have hcB:∀x∈cs,x∈B:=by rw [ecs];split;exact hnB;exact hbB
  have hu1:u≠nl/\u≠wl:=by rw [eu];split;exact ⟨ap1,ap2⟩;exact nb
  have hu8:H8 u=some (.lst (cs.map V.str)):=by rw [eu,ecs];split;exact hap8;exact hbl8
  have hu9:=kp _ _ hu8 hu1.1 hu1.2;rw [<-eu,ej] at ht;obtain ⟨xs9,hxs9,htb9⟩:=S9.tab;have ht9:=kp _ _ ht (fun z=>by
   rw [z] at ht;have:=S8.tab
   obtain ⟨xs8,h8,_⟩:=this;rw [h8] at ht;cases ht) (fun z=>by rw [z,S8.wts] at ht;cases ht)
  have hmk:mkM r ns m=(j,wayP r m.2.2 ns):=by unfold mkM;rw [ej,z0A]
  have htake:(ms.take (i+1)).map (mkM r ns)=(ms.take i).map (mkM r ns)++[(j,wayP r m.2.2 ns)]:=by
   rw [j3 em,kP,<-hmk];rfl
  have hsure:∀Tb,Sur rs fin (· ∈gv) Tb->∀x,Tb j x->x∈cs:=fun Tb C x t=>by
   have:=C.move p r st.1 st.2 hRp hrp hst m hmem j ej x t
   refine (hcs x).mpr ?_;unfold wayP;split at this
   ·rename_i c
    rw [kG c];exact htop Tb C x this
   ·rename_i c
    rw [kF c];exact z4k (htop Tb C) this
  refine ⟨ts[i],_,rfl,SqT.of ht9,rfl,_,_,rfl,_,_,rfl,rfl,?_⟩;obtain ⟨o,ho⟩:∃o,N'[j]?=some o:=⟨N'[j],kQ hjl⟩
  obtain ⟨y,hy,hyo⟩:=htb9.get ho;refine ⟨nl,_,_,_,rfl,rfl,SqL.of hxs9,zy hy,?_⟩;have hxl:xs9.length=N'.length:=Paired.length htb9;have hwb:w2.length<=5000:=by lia
  cases o with
  | none=>
   have hyo:y=.non:=hyo;subst hyo;refine ⟨rfl,true,rfl,iteT (z4u (by rfl) <| ?_)⟩;refine ⟨u,cs,rfl,SqL.of hu9,.inl ⟨rfl,_,rfl,iteT ?_⟩⟩;refine ⟨nl,_,_,j,rfl,rfl,hxs9,z3D (by lia),?_⟩;have S10:=S9.put hC0 hxs9 hu1.1 hu1.2 hu9 j;have kp10:∀b o,H8 b=some o->b≠nl->b≠wl->upd H9 nl (.lst (xs9.set j (.ref u))) b=some o:=fun b o e b1 b2=>by rw [zj b1];exact kp b o e b1 b2
   generalize upd H9 nl (.lst (xs9.set j (.ref u)))=H10 at *;refine ⟨.inl ⟨rfl,_,SqL.of S10.wts⟩,wl,_,_,rfl,rfl,S10.wts,by rw [kq,sizeLine_eq];lia,?_⟩;have ew:(w2.map fun p=>V.int ((p:Nat):Int))++[V.int ((j:Nat):Int)]=(w2++[j]).map fun p=>V.int ((p:Nat):Int):=by rw [kP];rfl
   rw [ew];have hpt:=JE (n:=B.length) (some cs) ho;have hcl:cs.length<=B.length:=ZZ hcn hcB;have v1:valN B.length (none:Option (List Str))=B.length+1:=rfl;have v2:valN B.length (some cs)=cs.length:=rfl;refine ⟨N'.set j (some cs),w2++[j],_,_,_,_,rfl,S10.wait hC0 _,?_,by rw [ku];show _+(w2.length+1)<=_;lia,fun b o e b1 b2=>by rw [zj b2];exact kp10 b o e b1 b2⟩;rw [htake];exact W9.put ho hRj (fun z=>by
    subst z;obtain ⟨a,ea,_⟩:=W9.zero;rw [ho] at ea;cases ea) nofun (fun x hx=>(hcs x).mp hx) hcn hcB hsure
  | some oa=>
   obtain ⟨a9,rfl,a91,a92,ha9⟩:=hyo;obtain ⟨hoR,hon,hoB⟩:=W9.only j oa ho;have hol:oa.length<=B.length:=ZZ hon hoB;refine ⟨rfl,false,rfl,iteF ⟨a9,rfl,⟨_,SqL.of ha9⟩,fun kl hkl=>qV (K:=K) (a:=a9) (xs:=oa.map V.str) (Cp60 u oa cs H9 kl)
    ⟨⟨none,rfl⟩,rfl,zo hkl _,zc⟩ (fun i ys σ H2 _ zz=>by obtain ⟨_,_,s2,_⟩:=zz;exact s2.seq (SqL.of ha9)) ?_ ?_⟩⟩
   ·rintro i x ys σ H2 hi ⟨⟨b,rfl⟩,rfl,s2,hb2⟩;have hil:i < oa.length:=by have:=(kj.mp hi).1;rw [kq] at this;exact this
    have ei:oa[i]?=some oa[i]:=kQ hil;rw [vh,ei] at hi;cases hi;have hle:((oa.take i).filter fun x=>decide (x∈cs)).length<=oa.length:=kD (vT _ _) (by rw [vp];lia);refine jK ?_;refine ⟨oa[i],u,cs,rfl,rfl,SqL.of (s2 _ _ hu9),_,rfl,?_⟩;by_cases z:oa[i]∈cs
    ·rw [ko z];refine iteT ⟨hb2,by rw [kq,sizeLine_eq];lia,oa.length - (i+1),by rw [kq];lia,by rw [kq],by rw [kq];lia,⟨_,rfl⟩,?_,My.Same.upd s2 hkl _,zc⟩;rw [jR ei,List.filter_append,List.filter_cons_of_pos (by simp [z]),kP];rfl
    ·rw [km z];refine iteF ⟨oa.length - (i+1),by rw [kq];lia,by rw [kq],by rw [kq];lia,⟨_,rfl⟩,?_,s2,hb2⟩;rw [jR ei,List.filter_append,List.filter_cons_of_neg (by simp [z])];simp
   rintro ys σ H10 ⟨_,rfl,s10,hk10⟩;rw [kq,vz] at hk10;generalize ekk:(oa.filter fun x=>decide (x∈cs))=kk at hk10;have S10:=S9.same' s10;have nk1:kl≠nl:=(ze hxs9 hkl).symm;have nk2:kl≠wl:=(ze S9.wts hkl).symm;have hkm:∀x,x∈kk↔x∈oa/\x∈cs:=fun x=>by rw [<-ekk,List.mem_filter,decide_eq_true_iff]
   have kp10:∀b o,H8 b=some o->b≠nl->b≠wl->H10 b=some o:=fun b o e b1 b2=>s10 _ _ (kp b o e b1 b2)
   have hxs10:=s10 _ _ hxs9;refine ⟨kl,kk,rfl,SqL.of hk10,.inr ⟨a9,oa,rfl,SqL.of (s10 _ _ ha9),_,rfl,?_⟩⟩;by_cases zk:kk=oa
   ·rw [ko zk];refine iteF ⟨N',w2,_,_,_,_,rfl,S10,?_,hm9,kp10⟩;rw [htake];exact W9.stay ⟨oa,ho,fun x hx=>(hcs x).mp ((hkm x).mp (by rw [zk];exact hx)).2⟩
   ·rw [km zk];refine iteT ⟨nl,_,_,j,rfl,rfl,hxs10,z3D (by lia),?_⟩;have S11:=S10.put hC0 hxs10 nk1 nk2 hk10 j;have kp11:∀b o,H8 b=some o->b≠nl->b≠wl->upd H10 nl (.lst (xs9.set j (.ref kl))) b=some o:=fun b o e b1 b2=>by rw [zj b1];exact kp10 b o e b1 b2
    generalize upd H10 nl (.lst (xs9.set j (.ref kl)))=H11 at *;refine ⟨.inl ⟨rfl,_,SqL.of S11.wts⟩,wl,_,_,rfl,rfl,S11.wts,by rw [kq,sizeLine_eq];lia,?_⟩;have ew:(w2.map fun p=>V.int ((p:Nat):Int))++[V.int ((j:Nat):Int)]=(w2++[j]).map fun p=>V.int ((p:Nat):Int):=by rw [kP];rfl
    rw [ew];have hpt:=JE (n:=B.length) (some kk) ho;have hlt:kk.length < oa.length:=by rw [<-ekk];exact z3T (by rw [ekk];exact zk)
    have v1:valN B.length (some oa)=oa.length:=rfl;have v2:valN B.length (some kk)=kk.length:=rfl;refine ⟨N'.set j (some kk),w2++[j],_,_,_,_,rfl,S11.wait hC0 _,?_,by rw [ku];show _+(w2.length+1)<=_;lia,fun b o e b1 b2=>by rw [zj b2];exact kp11 b o e b1 b2⟩;rw [htake];exact W9.put ho hRj (fun _=>⟨oa,rfl⟩) (fun a ea x hx=>by cases ea;exact ((hkm x).mp hx).1) (fun x hx=>(hcs x).mp ((hkm x).mp hx).2) (by rw [<-ekk];exact hon.filter _) (fun x hx=>hoB x ((hkm x).mp hx).1) (fun Tb C x t=>(hkm x).mpr ⟨W9.top Tb C j oa x ho t,hsure Tb C x t⟩)
 ·rintro σ H9 ⟨N',w2,x7,x8,x9,x10,rfl,S9,W9,hm9,kp⟩;have hlt:ts.length=ms.length:=Paired.length hW;rw [kq,hlt,vz] at W9;refine ⟨N',w2,_,_,_,_,_,rfl,S9,W9.fin (d:=st.1) (gs:=st.2) hrp hst (fun m hm j hj=>?_),hm9⟩;rw [hms] at hm;exact ⟨wayP r m.2.2 ns,yl.mpr ⟨m,hm,by unfold mkM;rw [hj,z0A]⟩,fun x hx=>hx⟩
end
end My
set_option maxHeartbeats 4000000
namespace L2
section
variable {prog:Program} {w:World} {A:Around} {E:Value->Shared->Prop} {s:Shared}
theorem z8V {it t:Addr} {i:Nat} {its:Array Value} {Q:Value->Shared->Prop} (hh:A.handled=none) (hit:s.heap.IsTupleIter it t i) (ht:s.heap.IsTuple t its)
  (hQ:∀x h',its[i]?=some x->h'.IsTupleIter it t (i+1)->Heap.SameBut it s.heap h'->Q x { s with heap:=h' })
  (hE:∀h' e,its[i]?=none->Heap.ExtBut it s.heap h'->(∃o,h'.get? e=some o/\o.cls=.type "StopIteration")->E (.ref e) { s with heap:=h' }):wpAny (model prog w) A (Builtin.SmallTypes.nextOf (.ref it)) Q E s:=by
 obtain ⟨oi,gi,ci,di⟩:=id hit;obtain ⟨ot,gt,_,nt,dt⟩:=ht;unfold Builtin.SmallTypes.nextOf;have T:=hit.typeIs;refine va (wpAny_callSpecial?_slot (name:=Str.ofString "__next__") T F.slot_tuple_iterator_next (wpAny_call_entry F.slot_tuple_iterator_next T F.entry_tuple_iterator_next (show wpAny _ _ (field (.ref it) 0 >>= _) _ _ s from va (wpAny_field gi di (x:=.ref t) rfl ?_)) (F.args_tuple_iterator_next_1 _)));show wpAny _ _ (if (Value.ref t == Value.none)=true then _ else _) _ _ s;rw [kF (by exact ke)];refine (show wpAny _ _ (field (.ref it) 1 >>= _) _ _ s from va (wpAny_field gi di (x:=.int i 0) rfl (show wpAny _ _ (seqItems? (.ref t) >>= _) _ _ s from va (wpAny_seqItems gt dt ?_))));cases hx:its[i]? with
 | some x=>
  simp only [yg,hx];have new:=hQ x (s.heap.update it (Obj.mapFields fun fs=>fs.setIfInBounds 1 (rawInt ((i:Int)+1)))) hx ⟨_,Heap.get?_update_self _ gi (Obj.isFreed_of_fields (Obj.data_mapFields di _)),(Obj.cls_mapFields ..).trans ci,by rw [Obj.data_mapFields di];simp [rawInt]⟩ (Heap.SameBut.update ..);exact va (wpAny_setField gi di (by simp) (ve ⟨x,rfl,ve new⟩))
 | none=>
  simp only [yg,hx];refine va (wpAny_rule (va (wpAny_setField gi di (by simp) (show wpAny _ _ (newExc (.type "StopIteration") [] >>= _) _ _ _ from va ?_))));simp only [newExc,newTuple];refine va (vG (va (m:=firstArgMember _ _) (wpAny_of_eq (a:=Value.none) (by first | rfl | (simp only [firstArgMember];rfl)) (vG ?_ (by size_fits)))) (by size_fits));simp only [raiseNew];refine va (wpAny_handled ?_);rw [show A.in1.handled=none from hh];exact va (ve (wpAny_throw (hE _ _ hx (((Heap.SameBut.update ..).extBut.push _).push _) ⟨_,vg _ rfl,rfl⟩)))
end
end L2
namespace L2
section
variable {prog:Program} {w:World} {A:Around} {E:Value->Shared->Prop} {s:Shared}
def Zs (h h':Heap) (z TO i1 i2:Addr):Prop:=∀c o,c≠z->c≠TO->c≠i1->c≠i2->h.get? c=some o->h'.get? c=some o
theorem z2G {z TI TO i1 i2 l1 l2:Addr} {k:Nat} {xs ys:Array Value} {a b:Value} {Q:Value->Shared->Prop} (hh:A.handled=none) (D:ZipApart z TI TO i1 i2 l1 l2)
  (hz:IsZip s.heap z TI TO .none) (hTI:IsPair s.heap TI (.ref i1) (.ref i2)) (hTO:IsPair s.heap TO a b) (h1:s.heap.IsTupleIter i1 l1 k) (h2:s.heap.IsTupleIter i2 l2 k) (t1:s.heap.IsTuple l1 xs) (t2:s.heap.IsTuple l2 ys)
  (hQ:∀x y h',xs[k]?=some x->ys[k]?=some y->IsZip h' z TI TO (rawInt s.heap.objs.size)->IsPair h' TO x y->h'.IsTupleIter i1 l1 (k+1)->h'.IsTupleIter i2 l2 (k+1)->IsPair h' s.heap.objs.size x y->Zs s.heap h' z TO i1 i2->Q (.ref s.heap.objs.size) { s with heap:=h' })
  (hE:∀h' e,(xs[k]?=none\/ys[k]?=none)->Zs s.heap h' z TO i1 i2->(∃o,h'.get? e=some o/\o.cls=.type "StopIteration")->E (.ref e) { s with heap:=h' }):
  wpAny (model prog w) A (Builtin.«zip.__next__» ⟨[.ref z],[]⟩) (fun fin s'=>∃v,fin=.done (.ret v)/\Q v s') E s:=by
 refine (show wpAny _ _ (field (.ref z) 2 >>= _) _ _ _ from va (wpAny_field hz rfl (x:=.bool false) rfl (show wpAny _ _ (field (.ref z) 3 >>= _) _ _ _ from va (wpAny_field hz rfl (x:=.ref TI) rfl (va (wpAny_seqItems hTI rfl (show wpAny _ _ (Builtin.SmallTypes.ownedTupleIsFree (.ref z) >>= _) _ _ _ from va ?_)))))));unfold Builtin.SmallTypes.ownedTupleIsFree;refine va (wpAny_field hz rfl (x:=.none) rfl (ve ?_));simp only [if_true];refine va (wpAny_rule (va (wpAny_field hz rfl (x:=.ref TO) rfl (va (wpAny_setField_rec hz (by simp) fun ha za sa=>va ?_)))));have za:IsZip ha z TI TO .ellipsis:=za;simp only [List.zipIdx_cons,List.zipIdx_nil,List.forIn_cons,List.forIn_nil];refine va (va (wpAny_onRaise (show wpAny _ _ (Builtin.SmallTypes.nextOf (.ref i1) >>= _) _ _ _ from va (z8V (show _=none from hh) (h1.extBut sa.extBut D.i1z) (t1.extBut sa.extBut D.l1z) (fun x hb hx hib sb=>ve ?_) (fun hb e hx sb he=>?_)))))
 ·have TOb:IsPair hb TO a b:=sb.extBut _ _ D.TOi1 (sa.extBut _ _ D.TOz hTO);refine va (wpAny_seqItems TOb rfl (va (wpAny_updateSeq_pair TOb fun hc TOc sc=>va (wpAny_letGo (ve ?_)))));have TOc:IsPair hc TO x b:=TOc;refine va (va (wpAny_onRaise (show wpAny _ _ (Builtin.SmallTypes.nextOf (.ref i2) >>= _) _ _ _ from va (z8V (show _=none from hh) (((h2.extBut sa.extBut D.i2z).extBut sb.extBut D.i12.symm).extBut sc.extBut D.TOi2.symm) (((t2.extBut sa.extBut D.l2z).extBut sb.extBut D.l2i1).extBut sc.extBut D.l2TO) (fun y hd hy hid sd=>ve ?_) (fun hd e hy sd he=>?_)))))
  ·have TOd:IsPair hd TO x b:=sd.extBut _ _ D.TOi2 TOc;refine va (wpAny_seqItems TOd rfl (va (wpAny_updateSeq_pair TOd fun hf TOf sf=>va (wpAny_letGo (ve (ve ?_))))));have TOf:IsPair hf TO x y:=TOf;refine va (wpAny_seqItems TOf rfl (va (wpAny_newTuple ?_)));have size:hf.objs.size=s.heap.objs.size:=by rw [sf.1,sd.1,sc.1,sb.1,sa.1]
   have zf:IsZip hf z TI TO .ellipsis:=sf.extBut _ _ D.TOz.symm (sd.extBut _ _ D.i2z.symm (sc.extBut _ _ D.TOz.symm (sb.extBut _ _ D.i1z.symm za)));have kf:Zs s.heap hf z TO i1 i2:=fun c o c1 c2 c3 c4 e=>sf.extBut _ _ c2 (sd.extBut _ _ c4 (sc.extBut _ _ c2 (sb.extBut _ _ c3 (sa.extBut _ _ c1 e))))
   have i1f:hf.IsTupleIter i1 l1 (k+1):=((hib.extBut sc.extBut D.TOi1.symm).extBut sd.extBut D.i12).extBut sf.extBut D.TOi1.symm;have i2f:hf.IsTupleIter i2 l2 (k+1):=hid.extBut sf.extBut D.TOi2.symm;have zlt:z < hf.objs.size:=vf zf;refine (show wpAny _ _ (Builtin.SmallTypes.ownedTupleHandOut (.ref z) (.ref hf.objs.size) >>= _) _ _ _ from va ?_);unfold Builtin.SmallTypes.ownedTupleHandOut;have zg:IsZip (hf.push { cls:=.type "tuple",data:=.seq #[x,y] }) z TI TO .ellipsis:=vb _ zf;refine va (wpAny_setField_rec zg (by simp) fun hm zm sm=>?_);have zm:IsZip hm z TI TO (rawInt hf.objs.size):=zm;refine wpAny_setField_rec zm (by simp) fun hn zn sn=>?_
   have zn:IsZip hn z TI TO (rawInt hf.objs.size):=zn;have up:∀c o,c≠z->hf.get? c=some o->hn.get? c=some o:=fun c o c1 e=>sn.extBut _ _ c1 (sm.extBut _ _ c1 (vb _ e))
   have pn:IsPair hn hf.objs.size x y:=sn.extBut _ _ (Nat.ne_of_gt zlt) (sm.extBut _ _ (Nat.ne_of_gt zlt) (vg _ rfl));rw [size] at zn pn;refine ve ⟨_,rfl,?_⟩;show Q (.ref hf.objs.size) _;rw [size];exact hQ x y hn hx hy zn (up _ _ D.TOz TOf) (i1f.at fun o e=>up _ o D.i1z e) (i2f.at fun o e=>up _ o D.i2z e) pn fun c o c1 c2 c3 c4 e=>up c o c1 (kf c o c1 c2 c3 c4 e)
  ·obtain ⟨oe,ge,ce⟩:=he;have zd:IsZip hd z TI TO .ellipsis:=sd _ _ D.i2z.symm (sc.extBut _ _ D.TOz.symm (sb.extBut _ _ D.i1z.symm za));have ez:e≠z:=fun q=>by rw [q,zd] at ge;cases ge;simp at ce
   exact wpAny_setField_rec zd (by simp) fun hm _ sm=>hE hm e (.inr hy) (fun c o c1 c2 c3 c4 q=>sm.extBut _ _ c1 (sd _ _ c4 (sc.extBut _ _ c2 (sb.extBut _ _ c3 (sa.extBut _ _ c1 q))))) ⟨oe,sm.extBut _ _ ez ge,ce⟩
 ·obtain ⟨oe,ge,ce⟩:=he;have zb:IsZip hb z TI TO .ellipsis:=sb _ _ D.i1z.symm za;have ez:e≠z:=fun q=>by rw [q,zb] at ge;cases ge;simp at ce
  exact wpAny_setField_rec zb (by simp) fun hm _ sm=>hE hm e (.inl hx) (fun c o c1 _ c3 _ q=>sm.extBut _ _ c1 (sb _ _ c3 (sa.extBut _ _ c1 q))) ⟨oe,sm.extBut _ _ ez ge,ce⟩
theorem z1G {z TI TO i1 i2 l1 l2:Addr} {k:Nat} {xs ys:Array Value} {a b:Value} {Q:Option Value->Shared->Prop} (hh:A.handled=none) (D:ZipApart z TI TO i1 i2 l1 l2)
  (hz:IsZip s.heap z TI TO .none) (hTI:IsPair s.heap TI (.ref i1) (.ref i2)) (hTO:IsPair s.heap TO a b) (h1:s.heap.IsTupleIter i1 l1 k) (h2:s.heap.IsTupleIter i2 l2 k) (t1:s.heap.IsTuple l1 xs) (t2:s.heap.IsTuple l2 ys)
  (hQ:∀x y h',xs[k]?=some x->ys[k]?=some y->IsZip h' z TI TO (rawInt s.heap.objs.size)->IsPair h' TO x y->h'.IsTupleIter i1 l1 (k+1)->h'.IsTupleIter i2 l2 (k+1)->IsPair h' s.heap.objs.size x y->Zs s.heap h' z TO i1 i2->Q (some (.ref s.heap.objs.size)) { s with heap:=h' })
  (hE:∀h',(xs[k]?=none\/ys[k]?=none)->Zs s.heap h' z TO i1 i2->Q none { s with heap:=h' }):wpAny (model prog w) A (pyNext (.ref z)) Q E s:=by
 have T:s.TypeIs (.ref z) "zip":=⟨_,hz,rfl⟩
 unfold pyNext;refine va (wpAny_attempt (wpAny_callSpecial?_slot (name:=Str.ofString "__next__") T F.slot_zip_next (wpAny_call_entry F.slot_zip_next T F.entry_zip_next (z2G (show _=none from hh) D hz hTI hTO h1 h2 t1 t2 (fun x y h' e1 e2 a1 a2 a3 a4 a5 a6=>ve (hQ x y h' e1 e2 a1 a2 a3 a4 a5 a6)) fun h' e en hk he=>?_) (F.args_zip_next_1 _))));obtain ⟨o,ho,hc⟩:=he;exact va (wpAny_isInstance (T:="StopIteration") (b:=true) ⟨o,ho,hc⟩ isSubtype_stop (ve (hE _ en hk)))
end
end L2
namespace L2
section
variable {X:Cx}
end
end L2
namespace L2
theorem Inv.turnedL {X:Cx} {vX:List (Addr × Obj)} {σ:St} {H:Hp} {s:Shared} {h':Heap} {t':Nat} {es:List Addr} {xs:List V} (I:Inv X vX σ H s) (k:∀b o,b∉es->s.heap.get? b=some o->h'.get? b=some o)
  (fe:∀b∈es,FpOk X vX H b) (new:qK X.prog X.w (upd H s.heap.objs.size (.tup xs)) h' s.heap.objs.size (.tup xs)):
  Inv X vX σ (upd H s.heap.objs.size (.tup xs)) { s with heap:=h',toks:=t' }:=by
 have hn:=I.fresh;have nit:∀b u,H b=some u->b∉es:=fun b u q z=>by have:=(fe b z).1;rw [this] at q;cases q
 refine I.step (g':=s.gens) (d':=s.drawn) (ch:=es) (fun b hb=>?_) (fun b o _ _ hc q _=>k b o hc q) (fun b o _ _ hc q _=>⟨o.slots,k b o hc q⟩) (fun b o _ q n=>?_)
  (fun b o hc q=>⟨o,k b o hc q⟩) (fun b xs q=>by rw [zj (ze q hn)];exact q) (fun b o u q=>by rw [zj (ze q hn)];exact q) (fun b ps q=>⟨#[],by rw [zj (ze q hn),q];simp⟩) (fun m hm'=>?_) (fun b u q=>?_) I.bare
 ·have f:=fe b hb;exact ⟨f.2.2.2.1,f.2.1,f.2.2.2.2.1,f.2.2.2.2.2⟩
 ·rw [zj (vm (vf q))];exact n
 ·obtain ⟨o,es',ep,ho,r⟩:=hm';exact ⟨o,es',ep,k _ o (fun z=>(fe _ z).2.1 rfl) ho,r⟩
 ·by_cases hb:b=s.heap.objs.size
  ·subst hb;rw [zc] at q;cases q;exact new
  ·rw [zj hb] at q;refine (I.hok b u q).stay (fun c v hc z=>?_) (fun c z=>by rw [zj (ze z hn)];exact z) fun c xs z=>by rw [zj (ze z hn)];exact z
   rcases hc with y | y
   ·subst y;exact k c v (nit c u q) z
   ·exact k c v (nit c _ y) z
theorem Inv.turnedE {X:Cx} {vX:List (Addr × Obj)} {σ:St} {H:Hp} {s:Shared} {h':Heap} {t':Nat} {es:List Addr} (I:Inv X vX σ H s) (k:∀b o,b∉es->s.heap.get? b=some o->h'.get? b=some o)
  (fe:∀b∈es,FpOk X vX H b):Inv X vX σ H { s with heap:=h',toks:=t' }:=by
 have nit:∀b u,H b=some u->b∉es:=fun b u q z=>by have:=(fe b z).1;rw [this] at q;cases q
 refine I.step (g':=s.gens) (d':=s.drawn) (ch:=es) (fun b hb=>?_) (fun b o _ _ hc q _=>k b o hc q) (fun b o _ _ hc q _=>⟨o.slots,k b o hc q⟩) (fun _ _ _ _ n=>n)
  (fun b o hc q=>⟨o,k b o hc q⟩) (fun _ _ e=>e) (fun _ _ _ e=>e) (fun b ps e=>⟨#[],by rw [e];simp⟩) (fun m hm'=>?_) (fun b u q=>?_) I.bare
 ·have f:=fe b hb;exact ⟨f.2.2.2.1,f.2.1,f.2.2.2.2.1,f.2.2.2.2.2⟩
 ·obtain ⟨o,es',ep,ho,r⟩:=hm';exact ⟨o,es',ep,k _ o (fun z=>(fe _ z).2.1 rfl) ho,r⟩
 ·refine (I.hok b u q).stay (fun c v hc z=>?_) (fun _ z=>z) fun _ _ z=>z
  rcases hc with y | y
  ·subst y;exact k c v (nit c u q) z
  ·exact k c v (nit c _ y) z
noncomputable def Itz (K:kE) (a b:Addr):It:=
 ⟨fun i H=>∃xs ys x y,SqL K H a xs/\SqL K H b ys/\xs[i]?=some x/\ys[i]?=some y,fun i H x H'=>∃p y z,x=.ref p/\H p=none/\H'=upd H p (.tup [y,z])/\(∀xs,SqL K H a xs->xs[i]?=some y)/\∀ys,SqL K H b ys->ys[i]?=some z,
  fun i H=>∃xs ys,SqL K H a xs/\SqL K H b ys/\(xs.length<=i\/ys.length<=i)⟩
theorem z4v {P:Program} {w:World} {K:kE} {elts:List Expr} {x1} {pos:Pos} (a b z TI TO i1 i2:Addr) (D:ZipApart z TI TO i1 i2 a b):
  Turn P w K (.Tuple elts x1 pos) (Itz K a b) [z,TI,TO,i1,i2] z (fun i h=>IsZip h z TI TO .none/\IsPair h TI (.ref i1) (.ref i2)/\(∃u v,IsPair h TO u v)/\h.IsListIter i1 a i/\h.IsListIter i2 b i) where
 mem:=by simp
 obj:=fun i h st c hc=>by
  obtain ⟨q1,q2,⟨u,v,q3⟩,⟨o4,q4,c4,d4⟩,⟨o5,q5,c5,d5⟩⟩:=st;simp only [kJ,kC,or_false] at hc;rcases hc with rfl | rfl | rfl | rfl | rfl
  ·exact ⟨_,q1,fun v y=>by cases y⟩
  ·exact ⟨_,q2,fun v y=>by cases y⟩
  ·exact ⟨_,q3,fun v y=>by cases y⟩
  ·exact ⟨_,q4,fun v y=>by rw [d4] at y;cases y⟩
  ·exact ⟨_,q5,fun v y=>by rw [d5] at y;cases y⟩
 keep:=fun i h h' st k=>by
  obtain ⟨q1,q2,⟨u,v,q3⟩,q4,q5⟩:=st;exact ⟨k z (by simp) _ q1,k TI (by simp) _ q2,⟨u,v,k TO (by simp) _ q3⟩,q4.at fun o q=>k i1 (by simp) o q,q5.at fun o q=>k i2 (by simp) o q⟩
 item:=by
  intro X hP hw hK hc i vX s σ H E I hf st hg;subst hP hw hK;obtain ⟨xs,ys,x,y,hq1,hq2,hx,hy⟩:=hg;obtain ⟨its1,rv1,p1,hz1⟩:=I.list hq1;obtain ⟨u1,hu1,ru1⟩:=rv1.get hx;obtain ⟨its2,rv2,p2,hz2⟩:=I.list hq2;obtain ⟨u2,hu2,ru2⟩:=rv2.get hy;obtain ⟨q1,q2,⟨a',b',q3⟩,q4,q5⟩:=st;refine wpAny_pyNext_zip_item D q1 q2 q3 q4 q5 p1.isList p2.isList (x:=u1) (y:=u2) (by simpa using hu1) (by simpa using hu2) fun h' g1 g2 g3 g4 g5 g6 g7=>?_
  refine ⟨_,rfl,?_⟩;have new:qK X.prog X.w (upd H s.heap.objs.size (.tup [x,y])) h' s.heap.objs.size (.tup [x,y]):=⟨vW,[u1,u2],.cons ru1 (.cons ru2 .nil),_,g5,rfl,_,rfl⟩
  have hk:∀b o,b∉[z,TI,TO,i1,i2]->s.heap.get? b=some o->h'.get? b=some o:=fun b o hb e=>g7 b o (fun y=>hb (by simp [y])) (fun y=>hb (by simp [y])) (fun y=>hb (by simp [y])) (fun y=>hb (by simp [y])) e
  have I1:Inv X vX σ (upd H s.heap.objs.size (.tup [x,y])) { s with heap:=h',toks:=s.toks }:=I.turnedL hk hf new;have q2':IsPair h' TI (.ref i1) (.ref i2):=g7 _ _ D.TIz D.TITO D.TIi1 D.TIi2 q2;refine wpAny_letOwnedTupleGo_zip (s:={ s with heap:=h' }) g1 fun h2 he2 hs2=>?_
  have lt:∀c∈[z,TI,TO,i1,i2],c≠s.heap.objs.size:=fun c hc e=>by
   have:∃o,s.heap.get? c=some o:=by
    simp only [kJ,kC,or_false] at hc;rcases hc with rfl | rfl | rfl | rfl | rfl
    ·exact ⟨_,q1⟩
    ·exact ⟨_,q2⟩
    ·exact ⟨_,q3⟩
    ·exact ⟨_,q4.choose_spec.1⟩
    ·exact ⟨_,q5.choose_spec.1⟩
   obtain ⟨o,ho⟩:=this;have:=vf ho
   rw [e] at this;exact vA _ this
  have fz:=hf z (by simp);refine ⟨.ref s.heap.objs.size,_,I1.turned (t':=s.toks) (it:=z) (fun b o hb q=>(hs2.2 b hb).trans q) (by rw [zj (lt z (by simp))];exact fz.1) fz.2.1 fz.2.2.2.1 fz.2.2.2.2.1 fz.2.2.2.2.2,rfl,
   ⟨_,x,y,rfl,I.fresh,rfl,fun zs h=>by rw [I.list_inj h hq1];exact hx,fun zs h=>by rw [I.list_inj h hq2];exact hy⟩,⟨he2,(hs2.2 TI D.TIz).trans q2',⟨_,_,(hs2.2 TO D.TOz).trans g2⟩,g3.at fun o q=>(hs2.2 i1 D.i1z).trans q,g4.at fun o q=>(hs2.2 i2 D.i2z).trans q⟩,fun b hb=>?_⟩
  rw [zj (lt b hb)];exact (hf b hb).1
 done:=by
  intro X hP hw hK hc i vX s σ H E I hf st hg;subst hP hw hK;obtain ⟨xs,ys,hq1,hq2,hend⟩:=hg;obtain ⟨its1,rv1,p1,hz1⟩:=I.list hq1;obtain ⟨its2,rv2,p2,hz2⟩:=I.list hq2;obtain ⟨q1,q2,⟨a',b',q3⟩,q4,q5⟩:=st;have l1:=rv1.length;have l2:=rv2.length;exact wpAny_pyNext_zip_end (I.ok.hd hc) D q1 q2 q3 q4 q5 p1.isList p2.isList (by simp;lia) fun h' hk=>⟨rfl,I.turnedE (t':=s.toks) (fun b o hb e=>hk b o (fun y=>hb (by simp [y])) (fun y=>hb (by simp [y])) (fun y=>hb (by simp [y])) (fun y=>hb (by simp [y])) e) hf⟩
 self:=fun _ _ _ _ _ st h=>wpAny_pyIter_zip st.1 h
theorem z0b {n l1 l2:Nat} (h1:l1 < n) (h2:l2 < n):ZipApart (n+4) (n+2) (n+3) n (n+1) l1 l2:=by
 constructor
 all_goals (show ¬((_:Nat)=_);lia)
theorem z22:bootBuiltins "zip"=some (.type "zip"):=vV
section
variable {X:Cx}
def iZip (K:kE) (ta:TA):TI:=fun σ H R=>ta σ H fun vs H1=>∃a b,vs=[.ref a,.ref b]/\(∃xs,SqL K H1 a xs)/\(∃ys,SqL K H1 b ys)/\R (Itz K a b) H1
theorem z8I {a b:Expr} {ta:TA} {p pos:Pos} {elts:List Expr} {x1} {tp:Pos} (hg:Gl X "zip") (hm:X.mg "zip"=none) (ha:PA X [a,b] ta) (hs:autoParam (starEach [a,b] X.env=[(false,eval a X.env),(false,eval b X.env)]) aR._auto_1) (hs2:autoParam (starEach [b] X.env=[(false,eval b X.env)]) aR._auto_1):PI X (.Tuple elts x1 tp) (.Call (.Name "zip" p) [a,b] [] pos) (iZip X.K ta):=by
 intro vX s σ H R I h;refine Call_ (J5 I hg hm z22 (vH (thn (ha pos vX s σ H _ I h) fun us s1 ⟨vs,H1,I1,r1,q1⟩=>?_) (by rw [hs,hs2]) (by rw [hs2];rfl)));obtain ⟨l1,l2,e,⟨xs,hq1⟩,⟨ys,hq2⟩,q⟩:=q1;subst e;obtain ⟨u1,u2,rfl,ru1,ru2⟩:=Vals.two r1;cases ru1;cases ru2;obtain ⟨its1,rv1,p1,hz1⟩:=I1.list hq1;obtain ⟨its2,rv2,p2,hz2⟩:=I1.list hq2;have lt1:l1 < s1.heap.objs.size:=by obtain ⟨o,ho,_⟩:=p1.isList;exact vf ho
 have lt2:l2 < s1.heap.objs.size:=by obtain ⟨o,ho,_⟩:=p2.isList;exact vf ho
 refine call_zip_2 p1.isList p2.isList fun h' g1 g2 g3 g4 g5 g6 hk=>?_
 refine wpAny_pyIter_zip (s:={ s1 with heap:=h' }) g1 ?_;have I2:Inv X vX σ H1 { s1 with heap:=h' }:=I1.kept (t':=s1.toks) hk;have D:ZipApart (s1.heap.objs.size+4) (s1.heap.objs.size+2) (s1.heap.objs.size+3) s1.heap.objs.size (s1.heap.objs.size+1) l1 l2:=z0b lt1 lt2;refine ⟨s1.heap.objs.size+4,[s1.heap.objs.size+4,s1.heap.objs.size+2,s1.heap.objs.size+3,s1.heap.objs.size,s1.heap.objs.size+1],_,_,H1,rfl,I2,z4v l1 l2 _ _ _ _ _ D,⟨g1,g2,⟨_,_,g3⟩,g4,g5⟩,fun b hb=>?_,q⟩;have hb:s1.heap.objs.size<=b:=by
  simp only [kJ,kC,or_false] at hb;rcases hb with rfl | rfl | rfl | rfl | rfl
  ·exact vI _ _
  ·exact vI _ _
  ·exact vI _ _
  ·exact ki _
  ·exact vI _ _
 exact I1.fpOk hb (I1.hok.fresh hb)
end
end L2
namespace L2
noncomputable abbrev jN (t:Addr):Obj:={ cls:=.type "tuple_iterator",data:=.fields #[.ref t,.int 0 0] }
noncomputable abbrev z3d (u v:Value):Obj:={ cls:=.type "tuple",data:=.seq #[u,v] }
noncomputable abbrev z1x (h:Heap) (l1 l2:Addr):Heap:=
 ((((h.push (jN l1)).push (jN l2)).push (z3d (.ref h.objs.size) (.ref (h.push (jN l1)).objs.size))).push (z3d .none .none))
noncomputable abbrev Jh (h:Heap) (l1 l2:Addr):Heap:=(z1x h l1 l2).push { cls:=.type "zip",data:=.fields #[.none,.bool false,.bool false,.ref ((h.push (jN l1)).push (jN l2)).objs.size,.ref (((h.push (jN l1)).push (jN l2)).push (z3d (.ref h.objs.size) (.ref (h.push (jN l1)).objs.size))).objs.size] }
theorem z4q (l1 l2:Addr) (xs ys:Array Value):Meets (Builtin.«zip.__new__» ⟨[.type "zip",.ref l1,.ref l2],[]⟩) (fun _ R s=>s.heap.IsTuple l1 xs/\s.heap.IsTuple l2 ys/\R (.ok (.ret (.ref (z1x s.heap l1 l2).objs.size))) { s with heap:=Jh s.heap l1 l2 }):=
 .of_wp fun prog w A R s h=>by
  obtain ⟨hp,g,d,tk,os⟩:=s;obtain ⟨q1,q2,h⟩:=h;have hsub:=sub_zip;have e1:Heap.IsTuple (Shared.heap ⟨hp,g,d,tk,os⟩) l1 xs:=q1;have e2:Heap.IsTuple (Shared.heap ⟨hp.push (jN l1),g,d,tk,os⟩) l2 ys:=Heap.IsTuple.push q2 _
  wp_walk using wpAny_pyIter_tuple e1,wpAny_pyIter_tuple e2
  exact ⟨_,rfl,h⟩
section
variable {prog:Program} {w:World} {A:Around} {E:Value->Shared->Prop} {s:Shared}
theorem z4g {l1 l2:Addr} {xs ys:Array Value} {Q:Value->Shared->Prop} (q1:s.heap.IsTuple l1 xs) (q2:s.heap.IsTuple l2 ys)
  (h:∀h',IsZip h' (s.heap.objs.size+4) (s.heap.objs.size+2) (s.heap.objs.size+3) .none->IsPair h' (s.heap.objs.size+2) (.ref s.heap.objs.size) (.ref (s.heap.objs.size+1))->IsPair h' (s.heap.objs.size+3) .none .none->
   h'.IsTupleIter s.heap.objs.size l1 0->h'.IsTupleIter (s.heap.objs.size+1) l2 0->(∀c o,s.heap.get? c=some o->h'.get? c=some o)->Q (.ref (s.heap.objs.size+4)) { s with heap:=h' }):wpAny (model prog w) A (call (.type "zip") [.ref l1,.ref l2]) Q E s:=by
 refine callType_new F.called_zip (by decide) (F.typeCall_zip_2 _ _) (F.newCall_zip_2 _ _) (fun obj=>F.args_object_init_3 obj _ _) F.entry_zip_new (z4q l1 l2 xs ys) ⟨q1,q2,?_⟩;have a1:(s.heap.push (jN l1)).objs.size=s.heap.objs.size+1:=Heap.size_push ..;have a2:((s.heap.push (jN l1)).push (jN l2)).objs.size=s.heap.objs.size+2:=by rw [Heap.size_push,a1]
 have a3:(((s.heap.push (jN l1)).push (jN l2)).push (z3d (.ref s.heap.objs.size) (.ref (s.heap.push (jN l1)).objs.size))).objs.size=s.heap.objs.size+3:=by rw [Heap.size_push,a2]
 have a4:(z1x s.heap l1 l2).objs.size=s.heap.objs.size+4:=by rw [Heap.size_push,a3]
 have b5:(Jh s.heap l1 l2).get? (z1x s.heap l1 l2).objs.size=some _:=vg _ rfl;have b4:(Jh s.heap l1 l2).get? (((s.heap.push (jN l1)).push (jN l2)).push (z3d (.ref s.heap.objs.size) (.ref (s.heap.push (jN l1)).objs.size))).objs.size=some _:=vb _ (vg _ rfl);have b3:(Jh s.heap l1 l2).get? ((s.heap.push (jN l1)).push (jN l2)).objs.size=some _:=vb _ (vb _ (vg _ rfl));have b2:(Jh s.heap l1 l2).get? (s.heap.push (jN l1)).objs.size=some _:=vb _ (vb _ (vb _ (vg _ rfl)));have b1:(Jh s.heap l1 l2).get? s.heap.objs.size=some _:=vb _ (vb _ (vb _ (vb _ (vg _ rfl))));show _/\_;rw [a2,a3,a4] at b5;rw [a1,a2] at b3;rw [a3] at b4;rw [a1] at b2;rw [a4];exact ⟨⟨_,b5,rfl⟩,h _ b5 b3 b4 ⟨_,b1,rfl,rfl⟩ ⟨_,b2,rfl,rfl⟩ fun c o q=>vb _ (vb _ (vb _ (vb _ (vb _ q))))⟩
end
noncomputable def Itu (K:kE) (a b:Addr):It:=
 ⟨fun i H=>∃xs ys x y,SqT K H a xs/\SqT K H b ys/\xs[i]?=some x/\ys[i]?=some y,fun i H x H'=>∃p y z,x=.ref p/\H p=none/\H'=upd H p (.tup [y,z])/\(∀xs,SqT K H a xs->xs[i]?=some y)/\∀ys,SqT K H b ys->ys[i]?=some z,
  fun i H=>∃xs ys,SqT K H a xs/\SqT K H b ys/\(xs.length<=i\/ys.length<=i)⟩
theorem z2L {P:Program} {w:World} {K:kE} {elts:List Expr} {x1} {pos:Pos} (a b z TI TO i1 i2:Addr) (D:ZipApart z TI TO i1 i2 a b):
  Turn P w K (.Tuple elts x1 pos) (Itu K a b) [z,TI,TO,i1,i2] z (fun i h=>IsZip h z TI TO .none/\IsPair h TI (.ref i1) (.ref i2)/\(∃u v,IsPair h TO u v)/\h.IsTupleIter i1 a i/\h.IsTupleIter i2 b i) where
 mem:=by simp
 obj:=fun i h st c hc=>by
  obtain ⟨q1,q2,⟨u,v,q3⟩,⟨o4,q4,c4,d4⟩,⟨o5,q5,c5,d5⟩⟩:=st;simp only [kJ,kC,or_false] at hc;rcases hc with rfl | rfl | rfl | rfl | rfl
  ·exact ⟨_,q1,fun v y=>by cases y⟩
  ·exact ⟨_,q2,fun v y=>by cases y⟩
  ·exact ⟨_,q3,fun v y=>by cases y⟩
  ·exact ⟨_,q4,fun v y=>by rw [d4] at y;cases y⟩
  ·exact ⟨_,q5,fun v y=>by rw [d5] at y;cases y⟩
 keep:=fun i h h' st k=>by
  obtain ⟨q1,q2,⟨u,v,q3⟩,q4,q5⟩:=st;exact ⟨k z (by simp) _ q1,k TI (by simp) _ q2,⟨u,v,k TO (by simp) _ q3⟩,q4.at fun o q=>k i1 (by simp) o q,q5.at fun o q=>k i2 (by simp) o q⟩
 item:=by
  intro X hP hw hK hc i vX s σ H E I hf st hg;subst hP hw hK;obtain ⟨xs,ys,x,y,hq1,hq2,hx,hy⟩:=hg;obtain ⟨its1,rv1,p1,hz1⟩:=I.tuple hq1;obtain ⟨u1,hu1,ru1⟩:=rv1.get hx;obtain ⟨its2,rv2,p2,hz2⟩:=I.tuple hq2;obtain ⟨u2,hu2,ru2⟩:=rv2.get hy;obtain ⟨q1,q2,⟨a',b',q3⟩,q4,q5⟩:=st;refine z1G (I.ok.hd hc) D q1 q2 q3 q4 q5 p1 p2 (fun u1' u2' h' e1 e2 g1 g2 g3 g4 g5 g7=>?_) fun h' en _=>?_
  case refine_2=>
   rcases en with z | z
   ·have hu1:its1.toArray[i]?=some u1:=by simpa using hu1
    rw [hu1] at z;cases z
   ·have hu2:its2.toArray[i]?=some u2:=by simpa using hu2
    rw [hu2] at z;cases z
  have z1:u1'=u1:=by
   have hu1:its1.toArray[i]?=some u1:=by simpa using hu1
   rw [hu1] at e1;exact (kH e1).symm
  have z2:u2'=u2:=by
   have hu2:its2.toArray[i]?=some u2:=by simpa using hu2
   rw [hu2] at e2;exact (kH e2).symm
  rw [z1] at g2 g5;rw [z2] at g2 g5;clear z1 z2 e1 e2;refine ⟨_,rfl,?_⟩;have new:qK X.prog X.w (upd H s.heap.objs.size (.tup [x,y])) h' s.heap.objs.size (.tup [x,y]):=⟨vW,[u1,u2],.cons ru1 (.cons ru2 .nil),_,g5,rfl,_,rfl⟩
  have hk:∀b o,b∉[z,TI,TO,i1,i2]->s.heap.get? b=some o->h'.get? b=some o:=fun b o hb e=>g7 b o (fun y=>hb (by simp [y])) (fun y=>hb (by simp [y])) (fun y=>hb (by simp [y])) (fun y=>hb (by simp [y])) e
  have I1:Inv X vX σ (upd H s.heap.objs.size (.tup [x,y])) { s with heap:=h',toks:=s.toks }:=I.turnedL hk hf new;have q2':IsPair h' TI (.ref i1) (.ref i2):=g7 _ _ D.TIz D.TITO D.TIi1 D.TIi2 q2;refine wpAny_letOwnedTupleGo_zip (s:={ s with heap:=h' }) g1 fun h2 he2 hs2=>?_
  have lt:∀c∈[z,TI,TO,i1,i2],c≠s.heap.objs.size:=fun c hc e=>by
   have:∃o,s.heap.get? c=some o:=by
    simp only [kJ,kC,or_false] at hc;rcases hc with rfl | rfl | rfl | rfl | rfl
    ·exact ⟨_,q1⟩
    ·exact ⟨_,q2⟩
    ·exact ⟨_,q3⟩
    ·exact ⟨_,q4.choose_spec.1⟩
    ·exact ⟨_,q5.choose_spec.1⟩
   obtain ⟨o,ho⟩:=this;have:=vf ho
   rw [e] at this;exact vA _ this
  have fz:=hf z (by simp);refine ⟨.ref s.heap.objs.size,_,I1.turned (t':=s.toks) (it:=z) (fun b o hb q=>(hs2.2 b hb).trans q) (by rw [zj (lt z (by simp))];exact fz.1) fz.2.1 fz.2.2.2.1 fz.2.2.2.2.1 fz.2.2.2.2.2,rfl,
   ⟨_,x,y,rfl,I.fresh,rfl,fun zs h=>by rw [I.tuple_inj h hq1];exact hx,fun zs h=>by rw [I.tuple_inj h hq2];exact hy⟩,⟨he2,(hs2.2 TI D.TIz).trans q2',⟨_,_,(hs2.2 TO D.TOz).trans g2⟩,g3.at fun o q=>(hs2.2 i1 D.i1z).trans q,g4.at fun o q=>(hs2.2 i2 D.i2z).trans q⟩,fun b hb=>?_⟩
  rw [zj (lt b hb)];exact (hf b hb).1
 done:=by
  intro X hP hw hK hc i vX s σ H E I hf st hg;subst hP hw hK;obtain ⟨xs,ys,hq1,hq2,hend⟩:=hg;obtain ⟨its1,rv1,p1,hz1⟩:=I.tuple hq1;obtain ⟨its2,rv2,p2,hz2⟩:=I.tuple hq2;obtain ⟨q1,q2,⟨a',b',q3⟩,q4,q5⟩:=st;have l1:=rv1.length;have l2:=rv2.length;refine z1G (I.ok.hd hc) D q1 q2 q3 q4 q5 p1 p2 (fun u1' u2' h' e1 e2 _ _ _ _ _ _=>?_) fun h' _ hk=>⟨rfl,I.turnedE (t':=s.toks) (fun b o hb e=>hk b o (fun y=>hb (by simp [y])) (fun y=>hb (by simp [y])) (fun y=>hb (by simp [y])) (fun y=>hb (by simp [y])) e) hf⟩
  have f1:=(Array.getElem?_eq_some_iff.mp e1).1;have f2:=(Array.getElem?_eq_some_iff.mp e2).1;rw [kK] at f1 f2;lia
 self:=fun _ _ _ _ _ st h=>wpAny_pyIter_zip st.1 h
section
variable {X:Cx}
def zah (K:kE) (ta:TA):TI:=fun σ H R=>ta σ H fun vs H1=>∃a b,vs=[.ref a,.ref b]/\(∃xs,SqT K H1 a xs)/\(∃ys,SqT K H1 b ys)/\R (Itu K a b) H1
theorem z6T {a b:Expr} {ta:TA} {p pos:Pos} {elts:List Expr} {x1} {tp:Pos} (hg:Gl X "zip") (hm:X.mg "zip"=none) (ha:PA X [a,b] ta) (hs:autoParam (starEach [a,b] X.env=[(false,eval a X.env),(false,eval b X.env)]) aR._auto_1) (hs2:autoParam (starEach [b] X.env=[(false,eval b X.env)]) aR._auto_1):PI X (.Tuple elts x1 tp) (.Call (.Name "zip" p) [a,b] [] pos) (zah X.K ta):=by
 intro vX s σ H R I h;refine Call_ (J5 I hg hm z22 (vH (thn (ha pos vX s σ H _ I h) fun us s1 ⟨vs,H1,I1,r1,q1⟩=>?_) (by rw [hs,hs2]) (by rw [hs2];rfl)));obtain ⟨l1,l2,e,⟨xs,hq1⟩,⟨ys,hq2⟩,q⟩:=q1;subst e;obtain ⟨u1,u2,rfl,ru1,ru2⟩:=Vals.two r1;cases ru1;cases ru2;obtain ⟨its1,rv1,p1,hz1⟩:=I1.tuple hq1;obtain ⟨its2,rv2,p2,hz2⟩:=I1.tuple hq2;have lt1:l1 < s1.heap.objs.size:=p1.lt;have lt2:l2 < s1.heap.objs.size:=p2.lt;refine z4g p1 p2 fun h' g1 g2 g3 g4 g5 hk=>?_
 refine wpAny_pyIter_zip (s:={ s1 with heap:=h' }) g1 ?_;have I2:Inv X vX σ H1 { s1 with heap:=h' }:=I1.kept (t':=s1.toks) hk;have D:ZipApart (s1.heap.objs.size+4) (s1.heap.objs.size+2) (s1.heap.objs.size+3) s1.heap.objs.size (s1.heap.objs.size+1) l1 l2:=z0b lt1 lt2;refine ⟨s1.heap.objs.size+4,[s1.heap.objs.size+4,s1.heap.objs.size+2,s1.heap.objs.size+3,s1.heap.objs.size,s1.heap.objs.size+1],_,_,H1,rfl,I2,z2L l1 l2 _ _ _ _ _ D,⟨g1,g2,⟨_,_,g3⟩,g4,g5⟩,fun b hb=>?_,q⟩;have hb:s1.heap.objs.size<=b:=by
  simp only [kJ,kC,or_false] at hb;rcases hb with rfl | rfl | rfl | rfl | rfl
  ·exact vI _ _
  ·exact vI _ _
  ·exact vI _ _
  ·exact ki _
  ·exact vI _ _
 exact I1.fpOk hb (I1.hok.fresh hb)
end
end L2
set_option maxHeartbeats 8000000
namespace HT
section
variable {prog:Program} {w:World} {A:Around} {E:Value->Shared->Prop} {s:Shared}
theorem getItem_tuple_whole {t sl:Addr} {items:Array Value} {vl vu:Value} {lo hi:Option Int} {Q:Value->Shared->Prop} (ht:IsTup s.heap t items) (hs:s.heap.IsSliceOf sl vl vu .none) (pl:IsPart vl lo) (pu:IsPart vu hi)
  (hw:sIx items.size 0 lo=0/\sIx items.size items.size hi=items.size)
  (h:Q (.ref t) s):wpAny (model prog w) A (getItem (.ref t) (.ref sl)) Q E s:=by
 obtain ⟨os,hos,hcs,hds⟩:=id hs;have hTs:s.TypeIs (.ref sl) "slice":=⟨os,hos,hcs⟩
 unfold getItem
 try with_reducible refine wpAny_holding ?_
 first | refine va (ve ?_) | skip
 refine va (wpAny_sequenceKey ht.typeIs (by decide) ?_);refine va (wpAny_callSpecial?_slot (name:=Str.ofString "__getitem__") ht.typeIs vO
  (wpAny_call_entry vO ht.typeIs entry_tuple_getitem ?_ (args_tuple_getitem _ _)))
 show wpAny _ _ (Builtin.Tuple.tupleItemsOf (.ref t) >>= _) _ _ s;refine va (tupleItemsOf_ ht ?_);refine va (wpAny_typeOf hTs ?_);rw [kG (by decide)];refine va (Z4 hs pl pu ?_);have hyes:(((sIx items.size 0 lo:Nat):Int) == 0&&(1:Int) == 1&&(sIx items.size items.size hi - sIx items.size 0 lo) == items.size)=true:=by
  rw [hw.1,hw.2];simp
 show wpAny _ _ (if (((sIx items.size 0 lo:Nat):Int) == 0&&(1:Int) == 1&&(sIx items.size items.size hi - sIx items.size 0 lo) == items.size)=true then _ else _) _ _ s;rw [kG hyes];refine va ?_;unfold Builtin.Tuple.tupleIsExact;refine va (wpAny_typeOf ht.typeIs (ve ?_));rw [kG (by decide)];refine va (wpAny_rule ?_);exact ve ⟨_,rfl,ve h⟩
end
end HT
namespace L2
theorem z06 {X:Cx} {K:kE} (hK:X.K=K):Zx X (.type "list") (fun xs H Q=>∃p ys,xs=[.ref p]/\(SqL K H p ys\/SqT K H p ys)/\∀l,H l=none->Q (.ref l) (upd H l (.lst ys))):=by subst hK;exact jL
end L2
namespace My
open L2
variable {P:Program} {w:World} {K:kE} {mg:Str->Option Value} {base:Heap}
theorem z0M {K:kE} {a:Addr} {xs:List V} {g:TG} {tc:TT} {te:TE} {R:Hp->Prop} {H:Hp} {l:Addr} {σ0:L2.St} (Pv:Nat->List V->L2.St->Hp->Prop) (h0:Pv 0 [] σ0 (upd H l (.lst []))) (hl:∀i ys σ H,i<=xs.length->Pv i ys σ H->SqT K H a xs)
  (hs:∀i x ys σ H,xs[i]?=some x->Pv i ys σ H->g x σ H fun σ2 H4=>tc σ2 H4 fun b H5=>if b=true then te σ2 H5 fun v H6=>H6 l=some (.lst ys)/\ys.length < sizeLine/\∃m',m' < xs.length - i/\m'=xs.length - (i+1)/\i+1<=xs.length/\Pv (i+1) (ys++[v]) σ2 (upd H6 l (.lst (ys++[v])))
   else ∃m',m' < xs.length - i/\m'=xs.length - (i+1)/\i+1<=xs.length/\Pv (i+1) ys σ2 H5) (hd:∀ys σ H,Pv xs.length ys σ H->R H):
  ∃W:Nat->Nat->List V->L2.St->Hp->Prop,(∃m,W 0 m [] σ0 (upd H l (.lst [])))/\∀i m ys σ' H2,W i m ys σ' H2->
   ((Itt K a).stop i H2/\R H2)\/((Itt K a).go i H2/\∀x H3,(Itt K a).yld i H2 x H3->g x σ' H3 fun σ2 H4=>tc σ2 H4 fun b H5=>if b=true then te σ2 H5 fun v H6=>H6 l=some (.lst ys)/\ys.length < sizeLine/\∃m',m' < m/\W (i+1) m' (ys++[v]) σ2 (upd H6 l (.lst (ys++[v])))
    else ∃m',m' < m/\W (i+1) m' ys σ2 H5):=by
 refine ⟨fun i m ys σ H=>m=xs.length - i/\i<=xs.length/\Pv i ys σ H,⟨xs.length,by simp,vi _,h0⟩,?_⟩;rintro i m ys σ H ⟨rfl,hi,p⟩;have q:=hl i ys σ H hi p;by_cases hlt:i < xs.length
 ·refine .inr ⟨⟨xs,xs[i],q,by simp [hlt]⟩,fun x H' y=>?_⟩;obtain ⟨e,y⟩:=y;subst e;exact hs i x ys σ _ (y xs q) p
 ·have e:i=xs.length:=by lia
  subst e;exact .inl ⟨⟨xs,q,ki _⟩,hd ys σ H p⟩
theorem z0S {X:Cx}:Zx X (.builtin "isinstance") (fun xs H Q=>∃a ys T b,xs=[.ref a,.ty T]/\SqT X.K H a ys/\PySem.W.kitOne X.K (.type "tuple") (.type T)=some b/\Q (.bl b) H):=by
 intro vX s σ H xs us Q I r h;obtain ⟨a,ys,T,b,rfl,ty,e,q⟩:=h;obtain ⟨u,u2,rfl,ru,r2⟩:=z4r r;cases r2;cases ru;obtain ⟨its,_,⟨o,h1,h2,_⟩,_⟩:=I.tuple ty;exact vv PySem.W.kitx_tuple I.kIn ⟨o,h1,h2⟩ e (fun z=>nomatch z) fun tk=>⟨.bl b,H,I.tok tk,rfl,q⟩
section
variable {X:Cx}
def rSlW (K:kE):V->Option Int->Option Int->Hp->VK->Prop:=fun x lo hi H Q=>∃a xs,x=.ref a/\SqT K H a xs/\
 ((HT.sIx xs.length 0 lo=0/\HT.sIx xs.length xs.length hi=xs.length/\Q (.ref a) H)\/(¬(HT.sIx xs.length 0 lo=0/\HT.sIx xs.length xs.length hi=xs.length)/\∀p,H p=none->Q (.ref p) (upd H p (.tup (cutV xs lo hi)))))
theorem z6I:SlR X (rSlW X.K):=by
 intro vX s σ H x v vl vu lo hi sl Q I rx hs pl pu h;obtain ⟨a,xs,rfl,hx,h⟩:=h;rcases h with ⟨h1,h2,q⟩ | ⟨hw,q⟩
 ·cases rx;obtain ⟨its,r,ht,hz⟩:=I.tuple hx;have hlen:its.toArray.size=xs.length:=by rw [kK];exact r.length.symm
  refine ⟨"tuple",_,PyProof.Rows.slot_tuple_getitem.lookup,ht.typeIs,?_⟩;exact HT.getItem_tuple_whole ht hs pl pu (by rw [hlen];exact ⟨h1,h2⟩) ⟨.ref a,H,I,rfl,q⟩
 ·exact z68 vX s σ H _ v vl vu lo hi sl Q I rx hs pl pu ⟨a,xs,rfl,hx,hw,q⟩
end
structure Giv (gv B:List Str):Prop where
 nd:gv.Nodup
 sub:∀x∈gv,x∈B
 nm:∀x∈gv,QZ (.str x)=true/\x.length<=sizeLine
 ris:∀i x y,gv[i]?=some x->gv[i+1]?=some y->x.cps.toList < y.cps.toList
 len:gv.length<=20
theorem ndnm:(["name"]:List Str).Nodup:=by decide
theorem ndno:(["name","other"]:List Str).Nodup:=vV
theorem z5D (gv:List Str):cutV (gv.map V.str) (some 1) none=(gv.drop 1).map V.str:=by
 unfold cutV;rw [HT.sIx_none,show ((1:Int))=((1:Nat):Int) from rfl,HT.sIx_nat,kq,<-List.map_drop,<-List.map_take];congr 1
 cases gv with
 | nil=>rfl
 | cons x t=>
  rw [show min 1 (x :: t).length=1 by show min 1 (t.length+1)=1;lia];show (t.take (t.length+1 - 1))=t;rw [Nat.add_sub_cancel,vz]
section
def z8q (K:kE):Sp:=fun vs H Q _=>∃(ga:Addr) (gv B:List Str),vs=[.ref ga]/\SqT K H ga (gv.map V.str)/\Giv gv B/\∀H',Same H H'->Q (.bl true) H'
theorem sc56:zr ["thing"] ["thing"] (zh (top 56)):=fsM
theorem z9n (D:zx K mg "is_given" (top 56)) (G:Glo mg) (GN:GloN mg) (FN1:FN P w K mg base 2 "is_name" Vb (sp1 QZ)):FN P w K mg base 3 "is_given" Vb (z8q K):=by
 refine FN.o D sc56 fun f cdv A vY s H vs Q E hr h=>?_
 obtain ⟨ga,gv,B,rfl,hga,hg,q⟩:=h;refine ⟨_,z8 (zY (PW.pt (QA (jS (j8 (zH z0S rfl G.isinstance zX (z6 (pv 0) (z6 (QS "tuple" rfl G.tuple Qn) z7)))))
   (Z5 (jS (j8 (zH (Z2 rfl) rfl G.all z08 (z6 (je (N:=["name"]) (nt:=1) (ix:=[]) (cl:=[]) rfl (qz.plain vV vV rfl vV rfl) (z3i (pv 0))
    (fun _ _ _ _=>zC (i:=0) ndnm rfl (Or.inl rfl)) (fun _ _ _ _=>Zj) (fun _ _ _ _=>zw FN1 hr rfl (z6 (pv 0) z7))) z7))))))) (zi (zu QT)) zE)
  (zi (zu (zH (Z2 rfl) rfl G.all z08 (z6 (je (N:=["name","other"]) (nt:=2) (ix:=[]) (cl:=[]) rfl (qz.plain vV vV rfl vV rfl) (z6T rfl GN.zip (z6 (pv 0) (z6 (JH z6I (pv 0) (z1d zl) z1e) z7)))
    (fun _ _ _ _=>Qh (K:=K) (n:=2) rfl rfl (zD (zC (i:=0) ndno rfl (Or.inl rfl)) (zD (zC (i:=1) ndno rfl (Or.inl rfl)) qC))) (fun _ _ _ _=>Zj) (fun _ _ _ _=>qT z8O (pv 0) (pv 1) (zA _))) z7)))),?_⟩
 symm
 refine ⟨ga,_,"tuple",true,rfl,hga,rfl,_,rfl,iteF ?_⟩;have hlen:=hg.len;refine ⟨ga,rfl,⟨_,hga⟩,fun bl hbl=>z0M (K:=K) (a:=ga) (xs:=gv.map V.str) (fun i ys σ H2=>(∃a:Option V,σ=[a])/\ys=(List.replicate i true).map V.bl/\Same H H2/\H2 bl=some (.lst ys))
  ⟨⟨none,rfl⟩,rfl,zo hbl _,zc⟩ (fun i ys σ H2 _ zz=>by obtain ⟨_,_,s2,_⟩:=zz;exact qx s2 hga) ?_ ?_⟩
 ·rintro i x ys σ H2 hi ⟨⟨b,rfl⟩,rfl,s2,hp2⟩;have hil:i < gv.length:=by have:=(kj.mp hi).1;rw [kq] at this;exact this
  rw [vh,kQ hil] at hi;cases hi;obtain ⟨n1,n2⟩:=hg.nm gv[i] (List.getElem_mem hil);refine jK ?_;refine Zf ⟨_,rfl,.str _ n2,?_⟩;rw [n1];refine ⟨hp2,by rw [kq,vj,sizeLine_eq];lia,gv.length - (i+1),by rw [kq];lia,by rw [kq],by rw [kq];lia,⟨_,rfl⟩,by rw [List.replicate_succ',kP];rfl,My.Same.upd s2 hbl _,zc⟩
 rintro ys σ H2 ⟨_,rfl,s2,hp2⟩;refine ⟨bl,_,rfl,SqL.of hp2,?_⟩;rw [show (List.replicate (gv.map V.str).length true).all id=true by simp];refine ⟨_,rfl,iteF ?_⟩;have hga2:=qx s2 hga;have fin:∀(g2:Addr) H3,Same H2 H3->SqT K H3 g2 ((gv.drop 1).map V.str)->(∀bl,H3 bl=none->∃W:Nat->Nat->List V->L2.St->Hp->Prop,(∃m,W 0 m [] [none,none] (upd H3 bl (.lst [])))/\∀i m ys σ' H4,W i m ys σ' H4->
   ((Itu K ga g2).stop i H4/\∃(p:Addr) (bs:List Bool),[V.ref bl]=[V.ref p]/\SqL K H4 p (bs.map V.bl)/\Q (V.bl (bs.all id)) H4)\/((Itu K ga g2).go i H4/\∀x H5,(Itu K ga g2).yld i H4 x H5->gTup K 2 (z7d (z0C 0) (z7d (z0C 1) gNil)) x σ' H5 fun σ2 H6=>tAll σ2 H6 fun b H7=>if b=true then tOp (fun x y H Q=>∃(z z':Str),x=.str z/\y=.str z'/\Q (.bl (decide (z.cps.toList < z'.cps.toList))) H) (tVar 0) (tVar 1) σ2 H7 fun v H8=>H8 bl=some (.lst ys)/\ys.length < sizeLine/\∃m',m' < m/\W (i+1) m' (ys++[v]) σ2 (upd H8 bl (.lst (ys++[v])))
    else ∃m',m' < m/\W (i+1) m' ys σ2 H7)):=fun g2 H3 s3 hg2 bl2 hbl2=>by
  have hga3:=qx s3 hga2;refine ⟨fun i m ys σ H4=>m=gv.length - i/\i<=(gv.drop 1).length/\(∃a b:Option V,σ=[a,b])/\ys=(List.replicate i true).map V.bl/\Same H3 H4/\H4 bl2=some (.lst ys),⟨_,rfl,vi _,⟨none,none,rfl⟩,rfl,zo hbl2 _,zc⟩,?_⟩;rintro i m ys σ H4 ⟨rfl,hi,⟨a,b,rfl⟩,rfl,s4,hb4⟩;have hga4:=qx s4 hga3;have hg24:=qx s4 hg2;rw [List.length_drop] at hi;by_cases hlt:i < gv.length - 1
  ·have e1:gv[i]?=some gv[i]:=kQ (by lia);have e2:(gv.drop 1)[i]?=some gv[i+1]:=by rw [List.getElem?_drop,Nat.add_comm,kQ (by lia)]
   refine .inr ⟨⟨_,_,_,_,hga4,hg24,by rw [vh,e1];rfl,by rw [vh,e2];rfl⟩,?_⟩;rintro x H5 ⟨p,y,z,rfl,hp,rfl,hy,hz⟩;have hy:=hy _ hga4;have hz:=hz _ hg24;rw [vh,e1] at hy;rw [vh,e2] at hz;cases hy;cases hz;have s5:=zo hp (.tup [.str gv[i],.str gv[i+1]]);refine ⟨p,_,rfl,SqT.of zc,rfl,_,_,rfl,_,_,rfl,rfl,?_⟩;refine Zf ⟨gv[i],gv[i+1],rfl,rfl,?_⟩;rw [ko (hg.ris i _ _ e1 (kQ (by lia)))];exact ⟨s5 _ _ hb4,by rw [kq,vj,sizeLine_eq];lia,gv.length - (i+1),by lia,rfl,by rw [List.length_drop];lia,⟨_,_,rfl⟩,by rw [List.replicate_succ',kP];rfl,My.Same.upd (s4.trans s5) hbl2 _,zc⟩
  ·refine .inl ⟨⟨_,_,hga4,hg24,.inr (by rw [kq,List.length_drop];lia)⟩,bl2,_,rfl,SqL.of hb4,?_⟩;rw [show (List.replicate i true).all id=true by simp];exact q _ ((s2.trans s3).trans s4)
 refine ⟨1,rfl,ga,_,rfl,hga2,?_⟩;by_cases hz:gv=[]
 ·subst hz;exact .inl ⟨rfl,rfl,ga,ga,rfl,⟨_,hga2⟩,⟨_,hga2⟩,fin ga H2 (Same.refl _) hga2⟩
 ·refine .inr ⟨fun z=>?_,fun g2 hg2=>?_⟩
  ·have hl:1<=gv.length:=List.length_pos_iff.mpr hz;have z:=z.1;rw [show ((1:Int))=((1:Nat):Int) from rfl,HT.sIx_nat,kq] at z;lia
  ·rw [z5D];have s3:=zo hg2 (.tup ((gv.drop 1).map V.str));exact ⟨ga,g2,rfl,⟨_,qx s3 hga2⟩,⟨_,SqT.of zc⟩,fin g2 _ s3 (SqT.of zc)⟩
def z67 (K:kE):Sp:=fun vs H Q _=>∃(ga:Addr) (gv B:List Str),vs=[.ref ga]/\SqT K H ga (gv.map V.str)/\Giv gv B/\∀H',Same H H'->Q .non H'
theorem sc57:zr ["thing"] ["thing"] (zh (top 57)):=fsM
theorem z7M (D:zx K mg "check_given" (top 57)) (FG:FN P w K mg base 3 "is_given" Vb (z8q K)):FN P w K mg base 4 "check_given" Vb (z67 K):=by
 refine FN.o D sc57 fun f cdv A vY s H vs Q E hr h=>?_
 obtain ⟨ga,gv,B,rfl,hga,hg,q⟩:=h;refine ⟨_,zi (zY (jS (j8 (zw FG hr rfl (z6 (pv 0) z7)))) j4 zE),?_⟩
 symm
 exact ⟨ga,gv,B,rfl,hga,hg,fun H' s'=>⟨_,rfl,iteF (q H' s')⟩⟩
end
def ItR (H:Hp) (x:V):Option (List Str)->Prop
 | none=>x=.non
 | some ns=>∃a,x=.ref a/\H a=some (.lst (ns.map V.str))
abbrev TbR (H:Hp):List V->NTab->Prop:=Paired (ItR H)
theorem ItR.keep {H H':Hp} (k:∀a (ns:List Str),H a=some (.lst (ns.map V.str))->H' a=some (.lst (ns.map V.str))) {x:V} {o:Option (List Str)} (h:ItR H x o):ItR H' x o:=by
 cases o with
 | none=>exact h
 | some ns=>
  obtain ⟨a,e,h3⟩:=h;exact ⟨a,e,k a ns h3⟩
theorem TbR.keep {H H':Hp} (k:∀a (ns:List Str),H a=some (.lst (ns.map V.str))->H' a=some (.lst (ns.map V.str))):∀{xs:List V} {N:NTab},TbR H xs N->TbR H' xs N
 | _,_,.nil=>.nil
 | _,_,.cons h t=>.cons (ItR.keep k h) (TbR.keep k t)
theorem TbR.get {H:Hp}:∀{xs:List V} {N:NTab} {j:Nat} {o:Option (List Str)},TbR H xs N->N[j]?=some o->∃x,xs[j]?=some x/\ItR H x o
 | _,_,_,_,.nil,e=>by simp at e
 | _,_,0,_,.cons h _,e=>by
  simp at e
  subst e;exact ⟨_,rfl,h⟩
 | _,_,j+1,o,.cons _ t,e=>by
  obtain ⟨x,h1,h2⟩:=TbR.get (j:=j) (o:=o) t (by simpa using e);exact ⟨x,by simpa using h1,h2⟩
theorem TbR.snoc {H:Hp} {x:V} {o:Option (List Str)} (h:ItR H x o):∀{xs:List V} {N:NTab},TbR H xs N->TbR H (xs++[x]) (N++[o])
 | _,_,.nil=>.cons h .nil
 | _,_,.cons h0 t=>.cons h0 (TbR.snoc h t)
noncomputable def g2:List Value->List Value->List Value
 | [u],[v]=>[u,v]
 | _,_=>[]
noncomputable def gV2:List V->List V->List V
 | [u],[v]=>[u,v]
 | _,_=>[]
section
def z8o (K:kE):Sp:=fun vs H Q _=>∃(l ga:Addr) (as:List Addr) (rs:List Row) (fin:Fnd) (gv B:List Str),vs=[.ref l,.ref ga]/\H l=some (.lst (as.map V.ref))/\q0 H as rs/\Code rs/\Zg rs=some fin/\jb rs fin/\SqT K H ga (gv.map V.str)/\Giv gv B/\B.length<=8/\
 (∀r∈rs,(r.op="store"\/r.op="load")->∀nm,r.arg=.str nm->nm∈B)/\
 ∀(rl:Addr) (xs:List V) (N:NTab) H',Same H H'->H rl=none->H' rl=some (.lst xs)->TbR H' xs N->NO rs fin (· ∈gv) B N []->Q (.ref rl) H'
def HasK (K:kE) (mg:Str->Option Value) (G0:Addr):Prop:=
 ∃(f:Addr) (oc kV doc pm cdv ct:Value) (od an:Option Addr) (osl:Array (Option Value)),mg "surely"=some (.ref f)/\PySem.W.keepIn K (.ref f)=true/\
  K.lookup f=some ⟨oc,od,.func (PySem.W.fnOf "surely" "surely" (qr (top 61)) (zG (top 61)) (zh (top 61)) .none kV doc pm an cdv ct),osl⟩/\PySem.W.codeIn K cdv "surely"=true/\
  (∀S u,PySem.W.peek K S (bindArgs (PySem.W.fnOf "surely" "surely" (qr (top 61)) (zG (top 61)) (zh (top 61)) .none kV doc pm an cdv ct) ⟨[u],[]⟩)=some [(("code":Str),u),(("given":Str),.ref G0)])/\KTup K G0 []
def FNS (P:Program) (w:World) (K:kE) (mg:Str->Option Value) (base:Heap) (G0:Addr):Prop:=
 ∃f fd,mg "surely"=some (.ref f)/\PySem.W.keepIn K (.ref f)=true/\z4o K fd ["code","given"] ["given"] g2 gV2/\Zy K fd ["code","given"] [.ref G0]/\KTup K G0 []/\FnOk P w K mg base CX0 11 f fd ["code","given"] (z8o K)
theorem sc61:zr ["code","given","found"] ["code","given"] (zh (top 61)):=fsM
theorem ndns:(["names"]:List Str).Nodup:=by decide
theorem z7l {G0:Addr} (D:HasK K mg G0) (G:Glo mg) (FS:FN P w K mg base 10 "states" ["code"] (Jy K)) (FC:FN P w K mg base 4 "check_given" Vb (z67 K)) (FN':FN P w K mg base 8 "names_set" ["code","found","given"] (spNS K)):FNS P w K mg base G0:=by
 obtain ⟨f,oc,kV,doc,pm,cdv,ct,od,an,osl,m,kp,lk,hcd,hpk,hG0⟩:=D;refine ⟨f,PySem.W.fnOf "surely" "surely" (qr (top 61)) (zG (top 61)) (zh (top 61)) .none kV doc pm an cdv ct,m,kp,⟨fun s us ws X hl=>?_,?_⟩,fun s us X hl=>?_,hG0,?_⟩
 ·match us,ws,hl with
  | [u],[v],_=>exact .of_eq rfl
  | [],_,hl=>cases hl
  | _ :: _ :: _,_,hl=>cases hl
  | [_],[],hl=>cases hl
  | [_],_ :: _ :: _,hl=>cases hl
 ·intro vs us zs ws r1 r2;cases r1 with
  | nil=>exact .nil
  | cons a b=>
   cases b with
   | cons _ _=>exact .nil
   | nil=>
    cases r2 with
    | nil=>exact .nil
    | cons c d=>
     cases d with
     | cons _ _=>exact .nil
     | nil=>exact .cons a (.cons c .nil)
 ·match us,hl with
  | [u],_=>exact PySem.W.kp_binds X fun S=>hpk S u
  | [],hl=>cases hl
  | _ :: _ :: us,hl=>
   rw [ku] at hl;have hl:us.length+1+1+1=2:=hl;lia
 ·refine z7v lk hcd sc61 (fun vs H Q E h=>by obtain ⟨l,ga,as,rs,fin,gv,B,rfl,_⟩:=h;rfl) (fun A vY s H vs Q E hr h=>?_);obtain ⟨l,ga,as,rs,fin,gv,B,rfl,hl,hR,hc,hfin,T,hga,hg,hB8,hrB,q⟩:=h;have hr8:=hr.mono (vV:8<=10);have hr4:=hr.mono (vV:4<=10);refine ⟨_,PSs.nox (z8 (zK (i:=2) sc61.nd rfl (Or.inl rfl) (zw FS hr rfl (z6 (pv 0) z7)))
   (z8 (zp (zw FC hr4 rfl (z6 (pv 1) z7)))
   (zi (zu (je (N:=["names"]) (nt:=1) (ix:=[]) (cl:=[]) rfl (qz.plain vV vV rfl vV rfl) (jM (zw FN' hr8 rfl (z6 (pv 0) (z6 (pv 2) (z6 (pv 1) z7)))))
    (fun _ _ _ _=>zC (i:=0) ndns rfl (Or.inl rfl)) (fun _ _ _ _=>Zj) (fun _ _ _ _=>j6 (zt Z7 (pv 0) qk (zA _)) qk (jg (z06 (K:=K) rfl) rfl G.list Zq (z6 (pv 0) z7)))))))),?_⟩
  refine ⟨l,as,rs,fin,rfl,hl,hR,hc,hfin,fun fl fvs H1 s1 hfl h1 hF=>?_⟩;refine ⟨ga,gv,B,rfl,qx s1 hga,hg,fun H2 s2=>?_⟩;have s12:=s1.trans s2;refine ⟨l,fl,ga,as,rs,fvs,fin,gv,B,rfl,SqL.of (s12 _ _ hl),hR.same s12,hc,s2 _ _ h1,hF.keep (qB.of s2),T,qx s12 hga,hg.nd,hg.sub,hB8,hrB,fun nl wl N xs H3 s3 hnl h3 htb hO=>?_⟩;have s13:=s12.trans s3;have hxl:xs.length=N.length:=Paired.length htb;have hNl:N.length=rs.length:=hO.len;have hlen:=hc.hi;refine ⟨nl,rfl,⟨_,SqL.of h3⟩,fun rl hrl=>qV (K:=K) (a:=nl) (xs:=xs) (fun i ys σ H4=>(∃x:Option V,σ=[x])/\TbR H4 ys (N.take i)/\Same H3 H4/\H4 rl=some (.lst ys)/\∀x∈ys,x=.non\/∃a,x=.ref a/\a≠rl)
   ⟨⟨none,rfl⟩,.nil,zo hrl _,zc,fun x hx=>by cases hx⟩ (fun i ys σ H4 _ zz=>by obtain ⟨_,_,s4,_⟩:=zz;exact s4.seq (SqL.of h3)) ?_ ?_⟩
  ·rintro i x ys σ H4 hi ⟨⟨b,rfl⟩,hT,s4,hr4',hne⟩;have hil:i < N.length:=by have:=(kj.mp hi).1;lia
   have eN:N[i]?=some N[i]:=kQ hil;obtain ⟨y,hy,hyo⟩:=htb.get eN;rw [hi] at hy;cases hy;have hyl:ys.length=i:=by have:=Paired.length hT;rw [vp] at this;lia
   have keep:∀{v:V} {H5:Hp},Same H4 H5->H5 rl=some (.lst ys)->TbR (upd H5 rl (.lst (ys++[v]))) ys (N.take i):=fun {v H5} s5 _=>by
    have:∀{zs:List V} {M:NTab},(∀x∈zs,x=.non\/∃a,x=.ref a/\a≠rl)->TbR H4 zs M->TbR (upd H5 rl (.lst (ys++[v]))) zs M:=by
     intro zs;induction zs with
     | nil=>intro M _ h;cases h;exact .nil
     | cons z zs ih=>
      intro M hz h;cases h with
      | @cons _ o _ M' h t=>
       refine .cons ?_ (ih (fun x hx=>hz x (kZ _ hx)) t);cases o with
       | none=>exact h
       | some ns=>
        obtain ⟨a,e,h3⟩:=h;refine ⟨a,e,?_⟩;have:a≠rl:=by
         rcases hz z (kY ..) with y | ⟨a',y,n⟩
         ·rw [e] at y;cases y
         ·rw [e] at y;cases y;exact n
        rw [zj this];exact s5 _ _ h3
    exact this hne hT
   refine jK ?_;refine Zf ⟨rfl,decide (x=.non),rfl,?_⟩;cases o:N[i] with
   | none=>
    rw [o] at hyo;have hyo:x=.non:=hyo;subst hyo;refine iteT ⟨hr4',by rw [hyl,sizeLine_eq];lia,xs.length - (i+1),by lia,rfl,by lia,⟨_,rfl⟩,?_,My.Same.upd s4 hrl _,zc,fun x hx=>?_⟩
    ·rw [j3 eN,o];exact TbR.snoc (o:=none) rfl (keep (Same.refl _) hr4')
    ·rcases ya.mp hx with z | z
     ·exact hne x z
     ·exact .inl (kz.mp z)
   | some ns=>
    rw [o] at hyo;obtain ⟨a,rfl,_,_,ha⟩:=hyo;refine iteF ⟨a,_,rfl,.inl (SqL.of (s4 _ _ ha)),fun c hcn=>?_⟩;have s5:=zo hcn (.lst (ns.map V.str));have ncr:c≠rl:=fun z=>by rw [z,hr4'] at hcn;cases hcn
    refine ⟨s5 _ _ hr4',by rw [hyl,sizeLine_eq];lia,xs.length - (i+1),by lia,rfl,by lia,⟨_,rfl⟩,?_,My.Same.upd (s4.trans s5) hrl _,zc,fun x hx=>?_⟩
    ·rw [j3 eN,o];exact TbR.snoc (o:=some ns) ⟨c,rfl,by rw [zj ncr];exact zc⟩ (keep s5 (s5 _ _ hr4'))
    ·rcases ya.mp hx with z | z
     ·exact hne x z
     ·exact .inr ⟨c,kz.mp z,ncr⟩
  ·rintro ys σ H4 ⟨_,hT,s4,hr4',_⟩;rw [hxl,vz] at hT;exact q rl ys N H4 (s13.trans s4) (s13.free hrl) hr4' hT hO
end
set_option maxHeartbeats 4000000
theorem z2c:∀(ns:List (V × Sta)) (f:Fnd) (w:List Nat) {f':Fnd} {w':List Nat},Qf ns f w=some (f',w')->
  f'.length=f.length/\(∀(p:Nat) s,f[p]?=some (some s)->f'[p]?=some (some s))/\(∀x s',(x,s')∈ns->∃j:Nat,x=.int (j:Int)/\f'[j]?=some (some s'))/\(∀(p:Nat) s,f'[p]?=some (some s)->f[p]?=some (some s)\/(f[p]?=some none/\p∈w'/\(.int (p:Int),s)∈ns))/\∀p∈w,p∈w'
 :=by
 intro ns;induction ns with
 | nil=>
  intro f w f' w' h;cases h;exact ⟨rfl,fun _ _ e=>e,fun _ _ h=>(by cases h),fun _ _ e=>.inl e,fun _ h=>h⟩
 | cons hd ns ih=>
  obtain ⟨x,s⟩:=hd;intro f w f' w' h;unfold Qf at h;cases x with
  | int i=>
   dsimp only at h;by_cases hi:0<=i
   case neg=>rw [kF hi] at h;cases h
   rw [kG hi] at h;obtain ⟨j,rfl⟩:=yf hi;rw [yg] at h;cases e:f[j]? with
   | none=>rw [e] at h;cases h
   | some o=>
    rw [e] at h;have hj:j < f.length:=(kj.mp e).1;cases o with
    | none=>
     dsimp only at h;obtain ⟨a,b,c,d,g⟩:=ih _ _ h;have keep:∀(p:Nat) s0,f[p]?=some (some s0)->(f.set j (some s))[p]?=some (some s0):=fun p s0 hh=>by
      by_cases hp:p=j
      ·subst hp;rw [e] at hh;cases hh
      ·rw [vt (Ne.symm hp)];exact hh
     have hs:(f.set j (some s))[j]?=some (some s):=vw hj;refine ⟨by rw [a,vE],fun p s0 h=>b p s0 (keep p s0 h),fun x s' hx=>?_,fun p s0 h=>?_,fun p hp=>g p (kW _ hp)⟩
     ·rcases kJ.mp hx with z | z
      ·cases z;exact ⟨j,rfl,b j s hs⟩
      ·exact c x s' z
     ·rcases d p s0 h with z | ⟨z1,z2,z3⟩
      ·by_cases hp:p=j
       ·subst hp;rw [hs] at z;cases z;exact .inr ⟨e,g p (kU _ (kz.mpr rfl)),kY ..⟩
       ·rw [vt (Ne.symm hp)] at z;exact .inl z
      ·by_cases hp:p=j
       ·subst hp;rw [hs] at z1;cases z1
       ·rw [vt (Ne.symm hp)] at z1;exact .inr ⟨z1,z2,kZ _ z3⟩
    | some s1=>
     dsimp only at h;by_cases hz:s1=s
     case neg=>rw [kF hz] at h;cases h
     rw [kG hz] at h;obtain ⟨a,b,c,d,g⟩:=ih _ _ h;refine ⟨a,b,fun x s' hx=>?_,fun p s0 h=>?_,g⟩
     ·rcases kJ.mp hx with z | z
      ·cases z;exact ⟨j,rfl,b j _ (by rw [e,hz])⟩
      ·exact c x s' z
     ·rcases d p s0 h with z | ⟨z1,z2,z3⟩
      ·exact .inl z
      ·exact .inr ⟨z1,z2,kZ _ z3⟩
  | _=>cases h
def z6u (rs:List Row) (f:Fnd) (p:Nat) (s:Sta):Prop:=∃r,rs[p]?=some r/\Zc rs p r s.1 s.2.getLast?=[]/\s.2.length<=1000/\∀x s',(x,s')∈Zm rs p r s->∃j:Nat,x=.int (j:Int)/\f[j]?=some (some s')
structure BInv (rs:List Row) (f:Fnd) (w:List Nat):Prop where
 len:f.length=rs.length
 zero:f[0]?=some (some (0,[]))
 done:∀(p:Nat) s,f[p]?=some (some s)->p∈w\/z6u rs f p s
 from_:∀(p:Nat) s,f[p]?=some (some s)->p=0\/∃q r sq,q≠p/\rs[q]?=some r/\f[q]?=some (some sq)/\(V.int (p:Int),s)∈Zm rs q r sq
theorem z5P {rs:List Row}:∀(n:Nat) (f:Fnd) (w:List Nat) {fin:Fnd},BInv rs f w->bfs rs n f w=some fin->BInv rs fin []
 :=by
 have nil:∀(n:Nat) (f:Fnd) {fin:Fnd},BInv rs f []->bfs rs n f []=some fin->BInv rs fin []:=fun n f fin I h=>by
  have:bfs rs n f []=some f:=by cases n <;> rfl
  rw [this] at h;cases h;exact I
 intro n;induction n with
 | zero=>
  intro f w fin I h;cases w with
  | nil=>exact nil _ _ I h
  | cons p w=>cases h
 | succ n ih=>
  intro f w fin I h;cases w with
  | nil=>exact nil _ _ I h
  | cons p w=>
   unfold bfs at h;cases hr:rs[p]? with
   | none=>rw [hr] at h;cases h
   | some r=>
    cases hp:f[p]? with
    | none=>rw [hr,hp] at h;cases h
    | some o=>
     cases o with
     | none=>rw [hr,hp] at h;cases h
     | some s=>
      rw [hr,hp] at h;dsimp only at h;by_cases hz:(Zc rs p r s.1 s.2.getLast?).isEmpty=true/\s.2.length<=1000
      case neg=>rw [kF hz] at h;cases h
      rw [kG hz] at h;cases hx:Qf (Zm rs p r s) f w with
      | none=>rw [hx] at h;cases h
      | some fw=>
       obtain ⟨f',w'⟩:=fw;rw [hx] at h;dsimp only at h;obtain ⟨a,b,c,d,g⟩:=z2c _ _ _ hx;refine ih f' w' ⟨by rw [a,I.len],b _ _ I.zero,fun q sq hq=>?_,fun q sq hq=>?_⟩ h
       ·rcases d q sq hq with z | ⟨z1,z2,z3⟩
        ·rcases I.done q sq z with y | ⟨r',y1,y2,y3,y4⟩
         ·rcases kJ.mp y with y | y
          ·subst y;rw [hp] at z;cases z;exact .inr ⟨r,hr,List.isEmpty_iff.mp hz.1,hz.2,c⟩
          ·exact .inl (g q y)
         ·exact .inr ⟨r',y1,y2,y3,fun x s' hx=>let ⟨j,e1,e2⟩:=y4 x s' hx;⟨j,e1,b _ _ e2⟩⟩
        ·exact .inl z2
       ·rcases d q sq hq with z | ⟨z1,z2,z3⟩
        ·rcases I.from_ q sq z with y | ⟨q',r',sq',y1,y2,y3,y4⟩
         ·exact .inl y
         ·exact .inr ⟨q',r',sq',y1,y2,b _ _ y3,y4⟩
        ·refine .inr ⟨p,r,s,fun y=>?_,hr,b _ _ hp,z3⟩;subst y;rw [hp] at z1;cases z1
theorem z11 {rs:List Row} {fin:Fnd} (h0:0 < rs.length) (h:Zg rs=some fin):BInv rs fin []:=by
 unfold Zg at h;refine z5P 300 _ _ ⟨by rw [vE,vj],vw (by rw [vj];exact h0),fun p s hp=>?_,fun p s hp=>?_⟩ h;all_goals
  by_cases z:p=0
  ·first
    | exact .inl (by rw [z];exact kz.mpr rfl)
    | exact .inl z
  ·rw [vt (Ne.symm z),vq] at hp;split at hp <;> cases hp
end My
set_option maxHeartbeats 8000000
namespace L2
variable {X:Cx}
def rNeE (K:kE):R2:=fun x y H Q=>∃p q xs,x=.ref p/\y=.ref q/\SqL K H p xs/\SqL K H q []/\Q (.bl (!decide (xs=[]))) H
theorem z6i (hu:X.A.units < cLine):OpR X (compareOp .NotEq) (rNeE X.K):=by
 intro vX s σ H x y v u Q I rx ry h;obtain ⟨p,q,xs,rfl,rfl,h1,h2,hq⟩:=h;cases rx;cases ry;obtain ⟨its,r,pl,_⟩:=I.list h1;obtain ⟨its2,r2,pl2,_⟩:=I.list h2;cases r2;cases r with
 | nil=>
  refine SeqAt.RcNeAt.lists (e:=fun _=>true) pl.isList pl2.isList rfl hu (fun j h1 _=>vd h1 (by simp)) X.prog X.w X.xe _ ⟨.bl _,H,I,rfl,?_⟩;simpa using hq
 | cons a b=>
  refine SeqAt.RcNeAt.lists_lengths pl.isList pl2.isList (by simp) hu X.prog X.w X.xe _ ⟨.bl _,H,I,rfl,?_⟩;simpa using hq
end L2
namespace My
open L2
variable {P:Program} {w:World} {K:kE} {mg:Str->Option Value} {base:Heap}
theorem z4R {X:Cx} {K:kE} (hK:X.K=K):OpR X (compareOp .NotIn) (fun x y H Q=>∃(z:Str) (l:Addr) (ss:List Str),x=.str z/\y=.ref l/\SqL K H l (ss.map V.str)/\Q (.bl (!decide (z∈ss))) H):=by subst hK;exact My.z3o
noncomputable def N123:List Str:=["_law_script","_law_town_here","_law_code_here","_law_names","_law_sure","_law_told","_law_less","_law_one","_law_other","_law_walk","_law_k","_law_place"]
theorem Qz:zr N123 ["_law_script"] (zh (top 123)):=fsM
noncomputable def z5H:Scope:=((((cpX ((zG (top 123)).getD 3 (.Pass ⟨0,0,0,0⟩))).bind cpE).bind cpS).getD (zh (top 123)))
noncomputable def z8U:List (Str × NameKind):=[(".0",.local),("_law_name",.local),("_law_draw",.globalImplicit),("_law_names",.cell),("_law_script",.cell),("_law_town_here",.cell)]
noncomputable def z4d (L:Addr):List (Str × Addr):=[("_law_town_here",L+2),("_law_script",L+1),("_law_names",L+3)]
noncomputable def z84:List Str:=["_law_name","_law_names","_law_script","_law_town_here"]
theorem z8Y:z84.Nodup:=vV
theorem z9A {f:Addr} {cdv:Value} {A:Around} {vY:List Env} {s:Shared} {H:Hp} {E:XK}:
  qz (cxOf CX0 P w K mg base N123 "law" (zh (top 123)) f cdv A vY s H E).nox z84 1 [3,0,1] z5H (z4d s.heap.objs.size):=
 qz.mk3 (nm:=z8U) (ks:=(z4d 0).map Prod.fst) rfl rfl ⟨vV,vV⟩ rfl rfl rfl vV rfl rfl rfl rfl
noncomputable def z5G:Scope:=(((((((cpB ((zG (top 123)).getD 6 (.Pass ⟨0,0,0,0⟩)))[0]?.bind cpX).bind cpE).bind cpE).bind cpE).bind cpS).getD (zh (top 123)))
noncomputable def z8T:List (Str × NameKind):=[(".0",.local),("_law_name",.local),("_law_one",.cell)]
noncomputable def z4c (L:Addr):List (Str × Addr):=[("_law_one",L+4)]
noncomputable def z83:List Str:=["_law_name","_law_one"]
theorem z8X:z83.Nodup:=vV
theorem z9z {f:Addr} {cdv:Value} {A:Around} {vY:List Env} {s:Shared} {H:Hp} {E:XK}:
  qz (cxOf CX0 P w K mg base N123 "law" (zh (top 123)) f cdv A vY s H E).nox z83 1 [7] z5G (z4c s.heap.objs.size):=
 qz.mk3 (nm:=z8T) (ks:=(z4c 0).map Prod.fst) rfl rfl ⟨vV,vV⟩ rfl rfl rfl vV rfl rfl rfl rfl
noncomputable def z5F:Scope:=((((((cpB ((zG (top 123)).getD 8 (.Pass ⟨0,0,0,0⟩)))[2]?.bind cpX).bind cpE).bind cpE).bind cpS).getD (zh (top 123)))
noncomputable def z8S:List (Str × NameKind):=[(".0",.local),("_law_name",.local),("_law_walk",.cell)]
noncomputable def z4b (L:Addr):List (Str × Addr):=[("_law_walk",L+5)]
noncomputable def z82:List Str:=["_law_name","_law_walk"]
theorem z8W:z82.Nodup:=vV
theorem z9y {f:Addr} {cdv:Value} {A:Around} {vY:List Env} {s:Shared} {H:Hp} {E:XK}:
  qz (cxOf CX0 P w K mg base N123 "law" (zh (top 123)) f cdv A vY s H E).nox z82 1 [9] z5F (z4b s.heap.objs.size):=
 qz.mk3 (nm:=z8S) (ks:=(z4b 0).map Prod.fst) rfl rfl ⟨vV,vV⟩ rfl rfl rfl vV rfl rfl rfl rfl
theorem z2J {rs:List Row} {fin:Fnd} (B:BInv rs fin []):jb rs fin:=by
 have key:∀(p:Nat) r s,rs[p]?=some r->fin[p]?=some (some s)->z6u rs fin p s:=fun p r s _ hs=>by
  rcases B.done p s hs with z | z
  ·cases z
  ·exact z
 refine ⟨B.len,B.zero,fun p r s hr hs=>?_,fun p r s hr hs=>?_⟩
 ·obtain ⟨r',e1,e2,e3,e4⟩:=key p r s hr hs;rw [hr] at e1;cases e1;exact ⟨e2,e3⟩
 ·obtain ⟨r',e1,e2,e3,e4⟩:=key p r s hr hs;rw [hr] at e1;cases e1;exact e4
section
variable {CW CH:Addr}
def Jz (K:kE) (CW CH:Addr):Sp:=fun vs H Q _=>WX K CW CH H fun a _ _ m _ _ _ _=>vs=[.ref a.wk]/\∀d,H d=none->Q (.ref d) (upd H d (.dK m.kn))
theorem scW7:zr ["self"] ["self"] (zh (mW 7)):=fsM
theorem z75 (D:HasM K CW "names" "Walk.names" (mW 7)) (c:Jg K CW) (ch:jP K CH) (G:Glo mg):MN P w K mg base 1 CW "names" ["self"] (Jz K CW CH):=by
 refine MN.o D scW7 fun f cdv A vY s H vs Q E hr h=>?_
 obtain ⟨a,H0,rs,m,gs,pas,e,here,W,rfl,q⟩:=h;obtain ⟨ea,i1,i2⟩:=W.ins;refine ⟨_,zi (zu (jg Qx rfl G.dict Ja (z6 (zV (zV (pv 0) rfl) rfl) z7))),?_⟩
 symm
 exact ⟨a.wk,CW,a.dw,_,.ref a.ho,rfl,i1,c.cl,c.hold,rfl,a.ho,CH,a.dx,_,.ref a.kd,rfl,W.hold.ins,ch.cl,ch.known,rfl,a.kd,_,rfl,Rd.of W.hold.known,q⟩
end
theorem z7e {K:kE} {a b:Addr} {xs zs:List V} (hxz:xs.length<=zs.length) {g:TG} {tb:TS} {D:Ends} {σ:L2.St} {H:Hp} (Pv:Nat->L2.St->Hp->Prop) (h0:Pv 0 σ H) (hl:∀i σ H,i<=xs.length->Pv i σ H->SqL K H a xs/\SqL K H b zs)
  (hs:∀i x z p σ H,xs[i]?=some x->zs[i]?=some z->Pv i σ H->H p=none->g (.ref p) σ (upd H p (.tup [x,z])) fun σ2 H2=>tb { D with nx:=Pv (i+1),ct:=Pv (i+1),bk:=D.nx } σ2 H2) (hd:∀σ H,Pv xs.length σ H->D.nx σ H):
  ∃W:Nat->Nat->L2.St->Hp->Prop,(∃m,W 0 m σ H)/\∀i m σ H,W i m σ H->
   ((Itz K a b).stop i H/\D.nx σ H)\/((Itz K a b).go i H/\∃N:L2.St->Hp->Prop,(∀σ' H',N σ' H'->∃m',m' < m/\W (i+1) m' σ' H')/\∀x H',(Itz K a b).yld i H x H'->g x σ H' fun σ2 H2=>tb { D with nx:=N,ct:=N,bk:=D.nx } σ2 H2):=by
 refine ⟨fun i m σ H=>m=xs.length - i/\i<=xs.length/\Pv i σ H,⟨xs.length,by simp,vi _,h0⟩,?_⟩;rintro i m σ H ⟨rfl,hi,p⟩;obtain ⟨q1,q2⟩:=hl i σ H hi p;by_cases hlt:i < xs.length
 ·have hlz:i < zs.length:=by lia
  refine .inr ⟨⟨xs,zs,xs[i],zs[i],q1,q2,by simp [hlt],by simp [hlz]⟩,Pv (i+1),fun σ' H' p'=>⟨xs.length - (i+1),by lia,rfl,hlt,p'⟩,fun x H' y=>?_⟩;obtain ⟨p',y',z',rfl,hn,rfl,y1,y2⟩:=y;exact hs i y' z' p' σ _ (y1 xs q1) (y2 zs q2) p hn
 ·have e:i=xs.length:=by lia
  subst e;exact .inl ⟨⟨xs,zs,q1,q2,.inl (ki _)⟩,hd σ H p⟩
noncomputable def abc:List Str:=["a","b","c"]
theorem z80:abc.Pairwise (fun x y=>x.cps.toList < y.cps.toList):=vV
theorem z9I:abc.Nodup:=vV
theorem z3L {gv:List Str} (h:gv.Sublist abc):Giv gv abc:=by
 have hp:=z80.sublist h;refine ⟨z9I.sublist h,fun x hx=>h.subset hx,fun x hx=>?_,fun i x y hx hy=>?_,?_⟩
 ·obtain ⟨h1,h2⟩:=J8 x (h.subset hx);exact ⟨h2,by rw [sizeLine_eq];lia⟩
 ·obtain ⟨l1,rfl⟩:=kj.mp hx;obtain ⟨l2,rfl⟩:=kj.mp hy;exact List.pairwise_iff_getElem.mp hp i (i+1) l1 l2 (by lia)
 ·have:=h.length_le
  have e:abc.length=3:=rfl;lia
theorem z3t {rs:List Row} {k:Nat} (g:Good 0 k rs):∀r∈rs,(r.op="store"\/r.op="load")->∀nm,r.arg=.str nm->nm∈abc:=fun r hr ho nm e=>by
 have:=g.named r hr ho
 rw [e] at this;simp only [kJ,V.str.injEq,kC,or_false] at this;unfold abc;simp only [kJ,kC,or_false];exact this
section
variable {rs:List Row} {S:Fnd} {gv B:List Str} {N1 N2:NTab}
theorem z2O (T:jb rs S) (h1:NO rs S (· ∈gv) B N1 []) (h2:NO rs S (· ∈([]:List Str)) B N2 []) {p:Nat} {o1 o2:Option (List Str)} (e1:N1[p]?=some o1) (e2:N2[p]?=some o2):o1=none↔o2=none:=by
 constructor
 ·intro z;subst z;cases o2 with
  | none=>rfl
  | some n2=>
   obtain ⟨n1,e⟩:=(h1.fin T).2 p (h2.only p n2 e2).1;rw [e1] at e;cases e
 ·intro z;subst z;cases o1 with
  | none=>rfl
  | some n1=>
   obtain ⟨n2,e⟩:=(h2.fin T).2 p (h1.only p n1 e1).1;rw [e2] at e;cases e
theorem z4w (T:jb rs S) (h1:NO rs S (· ∈gv) B N1 []) (h2:NO rs S (· ∈([]:List Str)) B N2 []) {p:Nat} {n1 n2:List Str} (e1:N1[p]?=some (some n1)) (e2:N2[p]?=some (some n2)):∀x∈n2,x∈n1:=fun x hx=>
 h1.top (atN N2) ((h2.fin T).1.more fun y hy=>by cases hy) p n1 x e1 ⟨n2,e2,hx⟩
end
section
variable {CW CH:Addr}
def z4A (K:kE):Sp:=fun vs H Q _=>∃(a:Addr) (ns:List Int),vs=[.ref a]/\Scr K H a (ns.map V.int)/\ns.length<=63/\∀H',Q (.bl true) H'
structure WkI (K:kE) (CW CH:Addr) (rs:List Row) (fin:Fnd) (N1:NTab) (H5 H:Hp) (wk:Addr) (i:Nat) (aw:WAd) (m:Mst) (gs:List Gd) (pas:List Nat) (e:List V) (here:Option Nat):Prop where
 wk:aw.wk=wk
 at_:qm K H5 H CW CH aw rs m gs pas e here
 len:pas.length<=i
 inv:here=none\/∃p,here=some p/\e=onE/\InvM rs fin m gs p pas.length/\Rch rs fin p/\∀x,atN N1 p x->Kn m.kn x
noncomputable def lst (k:Nat):Stmt:=(zG (top 123)).getD k (.Pass ⟨0,0,0,0⟩)
def WkL (K:kE) (CW CH:Addr) (rs:List Row) (fin:Fnd) (N1:NTab) (H9:Hp) (a t l d ga rl1 rl2:Addr) (v7 v8:Option V) (wk:Addr) (j:Nat) (σ:L2.St) (HD:Hp):Prop:=∃(v10 v11:Option V) (aw:WAd) (m:Mst) (gs:List Gd) (pas:List Nat) (e:List V) (here:Option Nat),σ=[some (.ref a),some (.ref t),some (.ref l),some (.ref d),some (.ref ga),some (.ref rl1),some (.ref rl2),v7,v8,some (.ref wk),v10,v11]/\WkI K CW CH rs fin N1 H9 HD wk j aw m gs pas e here
def ZpI (a t l d ga rl1 rl2:Addr) (H8:Hp) (_:Nat) (σ:L2.St) (H9:Hp):Prop:=∃v7 v8:Option V,σ=[some (.ref a),some (.ref t),some (.ref l),some (.ref d),some (.ref ga),some (.ref rl1),some (.ref rl2),v7,v8,none,none,none]/\Same H8 H9
def CpI (b:Addr) (HA:Hp) (el:Addr) (_:Nat) (ys:List V) (σ:L2.St) (HB:Hp):Prop:=(∃x:Option V,σ=[x,some (.ref b)])/\ys=[]/\Same HA HB/\HB el=some (.lst [])
def CaI (kvs:List (Key × V)) (c3 nl:Nat) (H4:Hp) (d a t gl:Addr) (i:Nat) (ys:List V) (σ:L2.St) (H5:Hp):Prop:=(∃x:Option V,σ=[x,some (.ref d),some (.ref a),some (.ref t)])/\∃(gv:List Str) (c5:Nat) (cells5:List Int),ys=gv.map V.str/\gv.Sublist (abc.take i)/\(∀x∈gv,Kn kvs x)/\c5<=c3+i/\cells5.length=nl/\H5 t=some (.lst (qS c5 cells5))/\H5 gl=some (.lst ys)/\jc H4 H5 t
structure Fct (rs:List Row) (fin:Fnd) (kvs:List (Key × V)) (gv:List Str) (N1:NTab) (p0:Nat) (g0:List Gd):Prop where
 C:Code rs
 sf:Zg rs=some fin
 T:jb rs fin
 push:∀r∈rs,r.op="push"->okV r.arg=true
 kn:∀x∈gv,Kn kvs x
 gvn:Zw 3 kvs
 O:NO rs fin (· ∈gv) abc N1 []
 e0:ja rs 0 200 0 []=some (p0,g0)
 st0:z5R rs fin 0 p0 g0
structure Hep (H9:Hp) (l d rl1:Addr) (as:List Addr) (rs:List Row) (kvs:List (Key × V)) (xs1:List V) (N1:NTab):Prop where
 l:H9 l=some (.lst (as.map V.ref))
 R:q0 H9 as rs
 d:H9 d=some (.dK kvs)
 x:H9 rl1=some (.lst xs1)
 tb:TbR H9 xs1 N1
theorem Hep.same {H9 H':Hp} {l d rl1:Addr} {as:List Addr} {rs:List Row} {kvs:List (Key × V)} {xs1:List V} {N1:NTab} (h:Hep H9 l d rl1 as rs kvs xs1 N1) (s:Same H9 H'):Hep H' l d rl1 as rs kvs xs1 N1:=
 ⟨s _ _ h.l,h.R.same s,s _ _ h.d,s _ _ h.x,TbR.keep (fun a ns e=>s _ _ e) h.tb⟩
theorem z53 {f:Addr} {cdv:Value} {A:Around} {vY:List Env} {s:Shared} {H:Hp} {E:XK} {Q:VK} (hr:Room 18 (A.deeper (envOfC "law" (zh (top 123)) s.heap.objs.size f cdv))) (q:∀H',Q (.bl true) H') (G:Glo mg) (c:Jg K CW) (hmW:mg "Walk"=some (.ref CW))
  (FI:IN P w K mg base 11 CW ["self","code","names"] (z31 K CW CH)) (FP:MN P w K mg base 1 CW "place" ["self"] (z14 K CW CH)) (FN':MN P w K mg base 1 CW "names" ["self"] (Jz K CW CH)) (FS:MN P w K mg base 6 CW "step" ["self"] (z2V K CW CH)):
  ∃TB:TS,PSs (cxOf CX0 P w K mg base N123 "law" (zh (top 123)) f cdv A vY s H E).nox [lst 7,lst 8,lst 9] TB/\∀(a t l d ga rl1 rl2:Addr) (v7 v8:Option V) (as:List Addr) (rs:List Row) (fin:Fnd) (kvs:List (Key × V)) (gv:List Str) (N1:NTab) (p0:Nat) (g0:List Gd) (xs1:List V) (H9:Hp),Fct rs fin kvs gv N1 p0 g0->Hep H9 l d rl1 as rs kvs xs1 N1->
   TB { nx:=fun _ H'=>Q .non H',rt:=Q } [some (.ref a),some (.ref t),some (.ref l),some (.ref d),some (.ref ga),some (.ref rl1),some (.ref rl2),v7,v8,none,none,none] H9:=by
 have hr1:=hr.mono (vV:1<=18);have hr6:=hr.mono (vV:6<=18);have hr12:=hr.mono (vV:12<=18);have hu:=Ql hr;have hu0:(A.deeper (envOfC "law" (zh (top 123)) s.heap.objs.size f cdv)).units < cLine:=by have:=hr.un;lia
 refine ⟨_,(z8 (zK (i:=9) Qz.nd rfl (Or.inr rfl) (z8K FI hr12 rfl hmW (z6 (pvX 2) (z6 (pvX 3) z7))))
  (z8 (jI vn rfl (j5 rfl G.range (z6 zl z7)) (zC (i:=10) Qz.nd rfl (Or.inl rfl))
   (z8 (zK (i:=11) Qz.nd rfl (Or.inl rfl) (z3l (pvX 9) c.cl FP hr1))
   (z8 (zY (zt Z7 (pvX 11) qk (zA _)) (zi (zu QT)) zE)
   (z8 (zY (PW.pt (QA (zt Z7 (zZ zI (pvX 5) (pvX 11) (fun _ _=>rfl)) qk (zA _)) (Z5 (zt (z6i hu0)
     (je (N:=z82) (nt:=1) (ix:=[9]) (cl:=z4b s.heap.objs.size) rfl z9y (jM (zZ zI (pvX 5) (pvX 11) (fun _ _=>rfl))) (fun _ _ _ _=>zC (i:=0) z8W rfl (Or.inl rfl)) (fun _ _ _ _=>Qg (z1H (QU hu (pvX 0) (z3l (pvX 1) c.cl FN' hr1)))) (fun _ _ _ _=>pvX 0))
     (qe z7) (zA _))))) (zi (zu QT)) zE)
   (zi (zp (z3l (pvX 9) c.cl FS hr6)))))))
  (zi (zu QT)))),fun a t l d ga rl1 rl2 v7 v8 as rs fin kvs gv N1 p0 g0 xs1 H9 F P9=>?_⟩
 obtain ⟨hC,hfin,TF,hpush,hkn,hgv,hO1,e0,st0⟩:=F;obtain ⟨hl9,hR9,hd9,h19,hTb9⟩:=P9;refine ⟨_,rfl,_,rfl,?_⟩;obtain ⟨SU,all⟩:=hO1.fin TF;obtain ⟨R0,k0⟩:=Qb SU TF hC 200 0 [] p0 g0 .zero TF.zero e0;intro x dx hx hdx ndx;have sA:=zo hdx (.own x);have hx':(upd H9 dx (.own x)) x=none:=by rw [zj ndx.symm];exact hx
 have sB:=sA.trans (zo hx' (.ins CW dx []));refine ⟨x,l,d,dx,as,rs,fin,kvs,200,p0,g0,H9,rfl,zc,hx,sB,sB _ _ hl9,hR9.same sB,hC,hfin,sB _ _ hd9,hgv.names,e0,fun a0 HC hw W8=>⟨rfl,?_⟩⟩;subst hw;have ok0:OkM ⟨[],kvs,[]⟩ 0:=⟨okVs.nil,fun q hq=>(hgv.all q hq).2,okVs.nil,ki _,by have:=hgv.len;show kvs.length<=_;lia,ki _⟩
 clear sA hx' sB;refine ⟨150,rfl,by decide,by decide,ji (n:=150) (WkL K CW CH rs fin N1 H9 a t l d ga rl1 rl2 v7 v8 a0.wk)
  ⟨none,none,a0,_,_,_,_,_,rfl,rfl,W8,ki _,.inr ⟨p0,rfl,rfl,⟨ok0,st0⟩,R0,fun x hx=>hkn x (SU.zero x (k0 x hx))⟩⟩ ?_ ?_⟩
 ·clear W8;rintro j σ HD hj ⟨v10,v11,aw,m,gs,pas,e,here,rfl,hwk,W,hlen,hinv⟩;rw [<-hwk];obtain ⟨ea,i1,i2⟩:=W.ins;refine ⟨_,rfl,aw.wk,aw.dw,_,rfl,i1,rfl,aw,H9,rs,m,gs,pas,e,here,W,rfl,?_⟩;rcases hinv with rfl | ⟨p,rfl,rfl,hI,hRp,hKn⟩
  ·exact ⟨_,rfl,rfl,_,rfl,iteT (q HD)⟩
  refine ⟨_,rfl,rfl,_,rfl,iteF ?_⟩;obtain ⟨n1,en1⟩:=all p hRp;obtain ⟨y,hy,b1,rfl,hb1⟩:=hTb9.get en1;have h1D:=W.same _ _ h19;refine ⟨_,rfl,_,rfl,rl1,_,_,_,rfl,rfl,SqL.of h1D,zy hy,rfl,_,rfl,iteF ?_⟩;refine ⟨_,rfl,_,rfl,rl1,_,_,_,rfl,rfl,SqL.of h1D,zy hy,b1,rfl,⟨_,SqL.of (W.same _ _ hb1)⟩,fun el hel=>?_⟩;refine qV (K:=K) (a:=b1) (xs:=n1.map V.str) (CpI aw.wk HD el) ⟨⟨none,rfl⟩,rfl,zo hel _,zc⟩ (fun i ys σ HB _ h=>by obtain ⟨_,_,sB,_⟩:=h;exact sB.seq (SqL.of (W.same _ _ hb1))) ?_ ?_
  ·rintro i y ys σ HB hj ⟨⟨v,rfl⟩,rfl,sB,hel'⟩;rw [vh] at hj;obtain ⟨nm,hnm,rfl⟩:=Option.map_eq_some_iff.mp hj;have hjl:i < (n1.map V.str).length:=by rw [kq];exact (kj.mp hnm).1
   have WB:=W.same' sB;obtain ⟨eb,ib,_⟩:=WB.ins;refine jK ?_;refine ⟨_,rfl,_,rfl,aw.wk,aw.dw,_,rfl,ib,rfl,aw,H9,rs,m,gs,pas,onE,some p,WB,rfl,fun nd hnd=>?_⟩;refine ⟨nd,_,rfl,DGet.k (k:=Sum.inr nm) zc,_,rfl,?_⟩;obtain ⟨v0,hv0⟩:=hKn nm ⟨n1,en1,kM hnm⟩;rw [hv0];have sC:=zo hnd (.dK m.kn);exact iteF ⟨(n1.map V.str).length - (i+1),by lia,rfl,hjl,⟨_,rfl⟩,rfl,sB.trans sC,sC _ _ hel'⟩
  ·rintro ys σ HB ⟨_,rfl,sB,hel'⟩;refine ⟨vW,fun e2 he2=>?_⟩;have sC:=zo he2 (.lst []);refine ⟨el,e2,[],rfl,rfl,SqL.of (sC _ _ hel'),SqL.of zc,_,rfl,iteF ?_⟩;have WC:=(W.same' sB).same' sC;obtain ⟨ec,ic,_⟩:=WC.ins;obtain ⟨m',gs',e',here',hstep,_,_,hnx⟩:=z6D TF hC hpush hI (by lia);refine ⟨_,rfl,aw.wk,aw.dw,_,rfl,ic,rfl,aw,H9,rs,m,gs,pas,p,m',gs',pas++[p],e',here',rfl,WC,hstep,fun a' H' ha W'=>?_⟩;refine ⟨_,_,a',m',gs',pas++[p],e',here',rfl,ha,W',by rw [ku];exact Nat.succ_le_succ hlen,?_⟩;rcases hnx with ⟨p',f1,f2,f3⟩ | ⟨f1,_⟩
   ·subst f1;obtain ⟨R',K'⟩:=z2S SU TF hC hpush hI (by lia) hRp hstep hKn;exact .inr ⟨p',rfl,f2,by rw [ku];exact f3,R',K'⟩
   ·exact .inl f1
 ·rintro σ HD ⟨v10,v11,aw,m,gs,pas,e,here,rfl,_⟩;exact q HD
theorem z77 {f:Addr} {cdv:Value} {A:Around} {vY:List Env} {s:Shared} {H:Hp} {E:XK} {Q:VK} {TB:TS} (hr:Room 18 (A.deeper (envOfC "law" (zh (top 123)) s.heap.objs.size f cdv))) (GN:GloN mg) (hTB:PSs (cxOf CX0 P w K mg base N123 "law" (zh (top 123)) f cdv A vY s H E).nox [lst 7,lst 8,lst 9] TB):
  ∃TZ:TS,PSs (cxOf CX0 P w K mg base N123 "law" (zh (top 123)) f cdv A vY s H E).nox [lst 6,lst 7,lst 8,lst 9] TZ/\∀(a t l d ga rl1 rl2:Addr) (rs:List Row) (fin:Fnd) (gv:List Str) (N1 N2:NTab) (xs1 xs2:List V) (H8:Hp),jb rs fin->NO rs fin (· ∈gv) abc N1 []->NO rs fin (· ∈([]:List Str)) abc N2 []->H8 rl1=some (.lst xs1)->TbR H8 xs1 N1->H8 rl2=some (.lst xs2)->TbR H8 xs2 N2->(∀v7 v8 H9,Same H8 H9->TB { nx:=fun _ H'=>Q .non H',rt:=Q } [some (.ref a),some (.ref t),some (.ref l),some (.ref d),some (.ref ga),some (.ref rl1),some (.ref rl2),v7,v8,none,none,none] H9)->
   TZ { nx:=fun _ H'=>Q .non H',rt:=Q } [some (.ref a),some (.ref t),some (.ref l),some (.ref d),some (.ref ga),some (.ref rl1),some (.ref rl2),none,none,none,none,none] H8:=by
 have hu0:(A.deeper (envOfC "law" (zh (top 123)) s.heap.objs.size f cdv)).units < cLine:=by have:=hr.un;lia
 refine ⟨_,(z8 (jI vn rfl (z8I rfl GN.zip (z6 (pvX 5) (z6 (pvX 6) z7))) (jr (n:=2) rfl (zD (zC (i:=7) Qz.nd rfl (Or.inr rfl)) (zD (zC (i:=8) Qz.nd rfl (Or.inl rfl)) qC)))
   (zi (zY (PW.pt (QA (zt z4S (qT Z7 (pvX 7) qk (zA _)) (qT Z7 (pvX 8) qk (zA _)) (zA _))
    (Z5 (PW.pt (QP (zt QV (pvX 7) qk (zA _)) (ZK (zt (z6i hu0)
     (je (N:=z83) (nt:=1) (ix:=[7]) (cl:=z4c s.heap.objs.size) rfl z9z (jM (pvX 8)) (fun _ _ _ _=>zC (i:=0) z8X rfl (Or.inl rfl)) (fun _ _ _ _=>Qg (zt (z4R (K:=K) rfl) (pvX 0) (pvX 1) rfl)) (fun _ _ _ _=>pvX 0))
     (qe z7) (zA _)))))))) (zi (zu QT)) zE))) hTB),fun a t l d ga rl1 rl2 rs fin gv N1 N2 xs1 xs2 H8 TF hO1 hO2 h1' hTb1' h2 hTb2 tl=>?_⟩
 have lx1:xs1.length=rs.length:=(Paired.length hTb1').trans hO1.len;have lx2:xs2.length=rs.length:=(Paired.length hTb2).trans hO2.len;refine ⟨_,rfl,_,rfl,rl1,rl2,rfl,⟨_,SqL.of h1'⟩,⟨_,SqL.of h2⟩,z7e (xs:=xs1) (zs:=xs2) (by lia) (ZpI a t l d ga rl1 rl2 H8)
  ⟨none,none,rfl,Same.refl _⟩ (fun i σ H9 _ h=>by obtain ⟨_,_,_,s9⟩:=h;exact ⟨SqL.of (s9 _ _ h1'),SqL.of (s9 _ _ h2)⟩) ?_ ?_⟩
 ·rintro i x z pp σ H9 hx hz ⟨v7,v8,rfl,s9⟩ hpp;have sp:=zo hpp (.tup [x,z]);have sA:=s9.trans sp;refine ⟨pp,_,rfl,SqT.of zc,rfl,_,_,rfl,_,_,rfl,rfl,?_⟩;generalize upd H9 pp (.tup [x,z])=HA at *;have hi1:i < N1.length:=by have:=(kj.mp hx).1;have:=hO1.len;lia
  have hi2:i < N2.length:=by have:=(kj.mp hz).1;have:=hO2.len;lia
  have en1:N1[i]?=some N1[i]:=kQ hi1;have en2:N2[i]?=some N2[i]:=kQ hi2;generalize N1[i]=o1 at en1;generalize N2[i]=o2 at en2;obtain ⟨x',hx',ho1⟩:=(TbR.keep (fun a ns e=>sA _ _ e) hTb1':TbR HA xs1 N1).get en1;rw [hx] at hx';cases hx';obtain ⟨z',hz',ho2⟩:=(TbR.keep (fun a ns e=>sA _ _ e) hTb2:TbR HA xs2 N2).get en2;rw [hz] at hz';cases hz';have iff:=z2O TF hO1 hO2 en1 en2;cases o1 with
  | none=>
   have e2:=iff.mp rfl;subst e2;have ho1:x=.non:=ho1;have ho2:z=.non:=ho2;subst ho1 ho2;exact ⟨_,rfl,rfl,_,rfl,rfl,rfl,_,rfl,iteF ⟨_,rfl,rfl,_,rfl,iteF (iteF ⟨_,_,rfl,sA⟩)⟩⟩
  | some n1=>
   cases o2 with
   | none=>cases iff.mpr rfl
   | some n2=>
    obtain ⟨b1,rfl,hb1⟩:=ho1;obtain ⟨b2,rfl,hb2⟩:=ho2;have less:=z4w TF hO1 hO2 en1 en2;refine ⟨_,rfl,rfl,_,rfl,rfl,rfl,_,rfl,iteF ⟨_,rfl,rfl,_,rfl,iteT ⟨_,rfl,b2,rfl,⟨_,SqL.of hb2⟩,fun el hel=>?_⟩⟩⟩;refine qV (K:=K) (a:=b2) (xs:=n2.map V.str) (CpI b1 HA el) ⟨⟨none,rfl⟩,rfl,zo hel _,zc⟩ (fun j ys σ HB _ h=>by obtain ⟨_,_,sB,_⟩:=h;exact sB.seq (SqL.of hb2)) ?_ ?_
    ·rintro j y ys σ HB hj ⟨⟨v,rfl⟩,rfl,sB,hel'⟩;rw [vh] at hj;obtain ⟨nm,hnm,rfl⟩:=Option.map_eq_some_iff.mp hj;have hjl:j < (n2.map V.str).length:=by rw [kq];exact (kj.mp hnm).1
     refine jK ?_;refine ⟨_,rfl,_,rfl,nm,b1,n1,rfl,rfl,SqL.of (sB _ _ hb1),_,rfl,?_⟩;rw [ko (less nm (kM hnm))];exact iteF ⟨(n2.map V.str).length - (j+1),by lia,rfl,hjl,⟨_,rfl⟩,rfl,sB,hel'⟩
    ·rintro ys σ HB ⟨_,rfl,sB,hel'⟩;refine ⟨vW,fun e2 he2=>?_⟩;have sC:=zo he2 (.lst []);exact ⟨el,e2,[],rfl,rfl,SqL.of (sC _ _ hel'),SqL.of zc,_,rfl,iteF ⟨_,_,rfl,(sA.trans sB).trans sC⟩⟩
 rintro σ H9 ⟨v7,v8,rfl,s9⟩;exact tl v7 v8 H9 s9
theorem z9l {f:Addr} {fd:FuncData} {G0:Addr} (D:Fun K "law" "law" (top 123) f fd) (G:Glo mg) (GN:GloN mg) (c:Jg K CW) (hmW:mg "Walk"=some (.ref CW)) (FT:FN P w K mg base 1 "_law_town" ["_law_script"] (z5X K)) (FD:FN P w K mg base 1 "_law_draw" Vd (z0k K))
  (FSm:FN P w K mg base 18 "_law_some_code" Vc (z5Z K)) (FG:FN P w K mg base 4 "_law_given" Vc (z32 K)) (FSu:FNS P w K mg base G0)
  (FI:IN P w K mg base 11 CW ["self","code","names"] (z31 K CW CH)) (FP:MN P w K mg base 1 CW "place" ["self"] (z14 K CW CH)) (FN':MN P w K mg base 1 CW "names" ["self"] (Jz K CW CH))
  (FS:MN P w K mg base 6 CW "step" ["self"] (z2V K CW CH)):FnOk P w K mg base CX0 19 f fd ["_law_script"] (z4A K):=by
 obtain ⟨fS,fdS,mS,kpS,kbS,bS,hG0,FS1⟩:=FSu;refine D.ok Qz (fun vs H Q E h=>by obtain ⟨a,ns,rfl,_⟩:=h;rfl) (fun cdv A vY s H vs Q E hr h=>?_);obtain ⟨a,ns,rfl,hS,hns,q⟩:=h;have hr1:=hr.mono (vV:1<=18);have hr4:=hr.mono (vV:4<=18);have hr6:=hr.mono (vV:6<=18);have hr11:=hr.mono (vV:11<=18);have hr12:=hr.mono (vV:12<=18);have hu:=Ql hr;have hu0:(A.deeper (envOfC "law" (zh (top 123)) s.heap.objs.size f cdv)).units < cLine:=by have:=hr.un;lia
 obtain ⟨TB,hTB,tb⟩:=z53 (P:=P) (w:=w) (base:=base) (CH:=CH) (vY:=vY) (H:=H) (E:=E) hr q G c hmW FI FP FN' FS;obtain ⟨TZ,hTZ,tz⟩:=z77 (Q:=Q) hr GN hTB;refine ⟨_,z8 (zK (i:=1) Qz.nd rfl (Or.inr rfl) (zw FT hr1 rfl (z6 (pvX 0) z7)))
  (z8 (zK (i:=2) Qz.nd rfl (Or.inl rfl) (zw FSm hr rfl (z6 (pvX 0) (z6 (pvX 1) z7))))
  (z8 (zK (i:=3) Qz.nd rfl (Or.inr rfl) (zw FG hr4 rfl (z6 (pvX 0) (z6 (pvX 1) z7))))
  (z8 (zK (i:=4) Qz.nd rfl (Or.inl rfl) (jg z05 rfl G.tuple Qn (z6
   (je (N:=z84) (nt:=1) (ix:=[3,0,1]) (cl:=z4d s.heap.objs.size) rfl z9A (z3i (qb (z6 zq (z6 zq (z6 zq z7))))) (fun _ _ _ _=>zC (i:=0) z8Y rfl (Or.inl rfl))
    (fun _ _ _ _=>Qg (PW.pt (QP (z1H (z6f hu (pvX 0) (pvX 1))) (ZK (zt qM (zw FD hr1 rfl (z6 (pvX 2) (z6 (pvX 3) (z6 zl z7)))) zl (zA _)))))) (fun _ _ _ _=>pvX 0)) z7)))
  (z8 (zK (i:=5) Qz.nd rfl (Or.inl rfl) (z4O FS1 hr11 rfl mS kpS kbS z0p (z6 (pvX 2) z7) (z6R (pvX 4) z8H)))
  (z8 (zK (i:=6) Qz.nd rfl (Or.inl rfl) (z1h FS1 hr11 rfl mS kpS bS (dvs:=[.ref G0]) (.cons rfl .nil) z0p (z6 (pvX 2) z7)))
  hTZ))))),?_⟩
 symm
 refine ⟨_,rfl,a,ns,rfl,hS,by lia,fun t H1 s1 ht hT1=>?_⟩;have hS1:Scr K H1 a (ns.map V.int):=hS.keep fun o u e=>s1 _ _ e
 refine ⟨_,rfl,_,rfl,a,t,ns,0,ns,rfl,hS1,by lia,rfl,hT1,by lia,fun l as rs k c2 cells2 H2 hl2 hR2 gd hΓ hk hlo hhi hlt hcl2 hT2 hc2 kp2=>?_⟩;have hS2:=hS1.keep1 kp2 hT1;refine ⟨_,rfl,_,rfl,a,t,ns,c2,cells2,rfl,hS2,by lia,hcl2,hT2,by lia,fun d kvs c3 cells3 H3 hd3 hgv hcl3 hT3 hc3 kp3=>?_⟩;have hS3:=hS2.keep1 kp3 hT2;have hl3:=kp3 _ _ hl2 hlt;have hR3:q0 H3 as rs:=hR2.keep fun b xs e=>kp3 b _ e (zL e hT2 nofun)
 have hC:=gd.code hk hlo (by lia);obtain ⟨Sx,TY⟩:=gd.typed hΓ;obtain ⟨fin,hfin,hfl,_⟩:=z2T TY (by lia);have TF:=z2J (z11 (by lia) hfin);have hpush:=gd.push;have hnam:=z3t gd;obtain ⟨p0,g0,e0,st0⟩:=z1u TF hC (d:=0) 200 0 [] (by have:=hC.hi;lia) TF.zero .nil;have ndt:d≠t:=zL hd3 hT3 nofun;clear hl2 hR2 hT2 hT1 hS1 hS2 hS kp2 kp3 s1 ht TY gd hΓ hcl2;refine ⟨vW,fun tp htp=>⟨tp,rfl,⟨_,SqT.of zc⟩,?_⟩⟩;have sT:=zo htp (.tup [.str "a",.str "b",.str "c"]);have htp4:(upd H3 tp (.tup [.str "a",.str "b",.str "c"])) tp=some (.tup [.str "a",.str "b",.str "c"]):=zc;have hT4:=sT _ _ hT3;have hd4:=sT _ _ hd3;have hl4:=sT _ _ hl3;have hR4:=hR3.same sT;have hS4:Scr K (upd H3 tp (.tup [.str "a",.str "b",.str "c"])) a (ns.map V.int):=hS3.keep fun o u e=>sT _ _ e
 generalize upd H3 tp (.tup [.str "a",.str "b",.str "c"])=H4 at *;clear hT3 hd3 hl3 hR3 hS3 sT htp;intro gl hgl;have ngt:gl≠t:=(ze hT4 hgl).symm;refine z0M (K:=K) (a:=tp) (xs:=abc.map V.str) (CaI kvs c3 ns.length H4 d a t gl)
  ⟨⟨none,rfl⟩,[],c3,cells3,rfl,List.nil_sublist _,fun x hx=>(by cases hx),by lia,hcl3,zo hgl _ _ _ hT4,zc,fun b o e _=>zo hgl _ _ _ e⟩ (fun i ys σ H5 _ h=>by obtain ⟨_,_,_,_,_,_,_,_,_,_,_,kp⟩:=h;exact SqT.of (kp _ _ htp4 (zL htp4 hT4 nofun))) ?_ ?_
 ·rintro i x ys σ H5 hi ⟨⟨v,rfl⟩,gv,c5,cells5,rfl,hsub,hkn,hc5,hcl5,hT5,hg5,kp5⟩;rw [vh] at hi;obtain ⟨nm,hnm,rfl⟩:=Option.map_eq_some_iff.mp hi;have hi3:i < 3:=(kj.mp hnm).1;have hgl3:gv.length<=3:=by
   have:=hsub.length_le
   rw [vp] at this;lia
  have hd5:=kp5 _ _ hd4 ndt;have tk:abc.take (i+1)=abc.take i++[nm]:=jR hnm;refine jK ?_;refine ⟨_,rfl,_,rfl,d,_,rfl,DGet.k (k:=Sum.inr nm) hd5,_,rfl,?_⟩;have no:∀{c6:Nat} {cells6:List Int} {H6:Hp},c6<=c3+(i+1)->cells6.length=ns.length->H6 t=some (.lst (qS c6 cells6))->H6 gl=some (.lst (gv.map V.str))->jc H4 H6 t->
    ∃m',m' < (abc.map V.str).length - i/\m'=(abc.map V.str).length - (i+1)/\i+1<=(abc.map V.str).length/\CaI kvs c3 ns.length H4 d a t gl (i+1) (gv.map V.str) [some (V.str nm),some (V.ref d),some (.ref a),some (.ref t)] H6:=
   fun {c6 cells6 H6} a1 a2 a3 a4 a5=>⟨3 - (i+1),by show 3 - (i+1) < 3 - i;lia,rfl,hi3,⟨_,rfl⟩,gv,c6,cells6,rfl,by rw [tk];exact hsub.trans (List.sublist_append_left _ _),hkn,a1,a2,a3,a4,a5⟩
  cases hv:valV kvs (Sum.inr nm:Key) with
  | none=>exact iteF (iteF (no (by lia) hcl5 hT5 hg5 kp5))
  | some v0=>
   refine iteT ⟨_,rfl,_,rfl,a,t,ns,c5,cells5,2,rfl,hS4.keep1 kp5 hT4,by lia,hcl5,hT5,by lia,by decide,by decide,fun j cells6 H6 j0 j1 hcl6 hT6 kp6=>?_⟩;have kp46:jc H4 H6 t:=fun b o e hb=>kp6 b o (kp5 b o e hb) hb
   have hg6:=kp6 _ _ hg5 ngt;refine ⟨rfl,_,rfl,?_⟩;refine ite2 (fun _=>?_) (fun _=>no (by lia) hcl6 hT6 hg6 kp46);refine ⟨_,rfl,hg6,by rw [kq,sizeLine_eq];lia,3 - (i+1),by show 3 - (i+1) < 3 - i;lia,rfl,hi3,⟨_,rfl⟩,gv++[nm],c5+1,cells6,by rw [kP];rfl,by rw [tk];exact List.Sublist.append hsub (List.Sublist.refl _),fun x hx=>?_,by lia,hcl6,by rw [zj ngt.symm];exact hT6,zc,fun b o e hb=>?_⟩
   ·rcases ya.mp hx with z | z
    ·exact hkn x z
    ·rw [kz.mp z];exact ⟨v0,hv⟩
   ·rw [zj (ze e hgl)];exact kp46 b o e hb
 rintro ys σ H5 ⟨_,gv,c5,cells5,rfl,hsub,hkn,hc5,hcl5,hT5,hg5,kp5⟩;have hG:=z3L (show gv.Sublist abc from hsub);refine ⟨gl,_,rfl,.inl ⟨SqL.of hg5,fun ga hga=>?_⟩⟩;have s5:=zo hga (.tup (gv.map V.str));have hga6:(upd H5 ga (.tup (gv.map V.str))) ga=some (.tup (gv.map V.str)):=zc;have hl6:=s5 _ _ (kp5 _ _ hl4 hlt);have hR6:q0 (upd H5 ga (.tup (gv.map V.str))) as rs:=(hR4.keep fun b xs e=>kp5 b _ e (zL e hT4 nofun)).same s5;have hd6:=s5 _ _ (kp5 _ _ hd4 ndt);generalize upd H5 ga (.tup (gv.map V.str))=H6 at *;clear hT5 hg5 kp5 hd4 hl4 hR4 hS4 hT4 htp4 hgl ngt hga s5 hsub hc5 hcl5;refine ⟨_,rfl,_,rfl,l,ga,as,rs,fin,gv,abc,rfl,hl6,hR6,hC,hfin,TF,SqT.of hga6,hG,by decide,hnam,fun rl1 xs1 N1 H7 s7 hrl1 h1 hTb1 hO1=>?_⟩;refine ⟨_,rfl,l,G0,as,rs,fin,[],abc,rfl,s7 _ _ hl6,hR6.same s7,hC,hfin,TF,hG0.sq _,z3L (List.nil_sublist _),by decide,hnam,fun rl2 xs2 N2 H8 s8 hrl2 h2 hTb2 hO2=>?_⟩;have s68:=s7.trans s8;refine tz a t l d ga rl1 rl2 rs fin gv N1 N2 xs1 xs2 H8 TF hO1 hO2 (s8 _ _ h1) (TbR.keep (fun a ns e=>s8 _ _ e) hTb1) h2 hTb2 fun v7 v8 H9 s9=>?_
 exact tb a t l d ga rl1 rl2 v7 v8 as rs fin kvs gv N1 p0 g0 xs1 H9 ⟨hC,hfin,TF,hpush,hkn,hgv,hO1,e0,st0⟩ ((Hep.mk (s68 _ _ hl6) (hR6.same s68) (s68 _ _ hd6) (s8 _ _ h1) (TbR.keep (fun a ns e=>s8 _ _ e) hTb1)).same s9)
end
section
structure Clss (K:kE) (mg:Str->Option Value) (CW CH:Addr):Prop where
 mW:mg "Walk"=some (.ref CW)
 mH:mg "Hold"=some (.ref CH)
 cW:Jg K CW
 cH:jP K CH
 iW:HasI K CW "Walk.__init__" (My.mW 0)
 iH:HasI K CH "Hold.__init__" (My.mH 0)
 m1:HasM K CW "come_to" "Walk.come_to" (My.mW 1)
 m2:HasM K CW "finish" "Walk.finish" (My.mW 2)
 m3:HasM K CW "take_fault" "Walk.take_fault" (My.mW 3)
 m4:HasM K CW "step" "Walk.step" (My.mW 4)
 m5:HasM K CW "place" "Walk.place" (My.mW 5)
 m7:HasM K CW "names" "Walk.names" (My.mW 7)
end
def LK (K:kE) (f:Addr) (x q:Str) (st:Stmt):Prop:=∃(oc:Value) (od an:Option Addr) (osl:Array (Option Value)) (kV doc pm cdv ct:Value),K.lookup f=some ⟨oc,od,.func (PySem.W.fnOf x q (qr st) (zG st) (zh st) .none kV doc pm an cdv ct),osl⟩/\PySem.W.codeIn K cdv q=true/\PySem.W.keepIn K (.ref f)=true
theorem lk_mk {K:kE} {f:Addr} {x q:Str} {st:Stmt} {oc:Value} {od an:Option Addr} {osl:Array (Option Value)} {kV doc pm cdv ct:Value} (l:K.lookup f=some ⟨oc,od,.func (PySem.W.fnOf x q (qr st) (zG st) (zh st) .none kV doc pm an cdv ct),osl⟩) (c:PySem.W.codeIn K cdv q=true) (k:PySem.W.keepIn K (.ref f)=true):LK K f x q st:=⟨_,_,_,_,_,_,_,_,_,l,c,k⟩
def HD (K:kE) (f:Addr) (x:Str) (n:Nat):Prop:=PySem.W.nsIn K mainGlobals x=some (some (.ref f))/\LK K f x x (top n)
theorem hdm {K:kE} {f:Addr} {x:Str} {n:Nat} {oc:Value} {od an:Option Addr} {osl:Array (Option Value)} {kV doc pm cdv ct:Value} (a:PySem.W.nsIn K mainGlobals x=some (some (.ref f))) (l:K.lookup f=some ⟨oc,od,.func (PySem.W.fnOf x x (qr (top n)) (zG (top n)) (zh (top n)) .none kV doc pm an cdv ct),osl⟩) (c:PySem.W.codeIn K cdv x=true) (k:PySem.W.keepIn K (.ref f)=true):HD K f x n:=⟨a,lk_mk l c k⟩
theorem zak {K:kE} {h:Heap} {mg:Str->Option Value} {x:Str} {n:Nat} {f:Addr} (X:K.In h) (G:h.Ns mainGlobals mg) (l:HD K f x n):zx K mg x (top n):=by
 obtain ⟨a,_,_,_,_,_,_,_,_,_,l,c,k⟩:=l;exact ⟨f,_,z1T l c k,ky X G a⟩
theorem z2v {K:kE} {C:Addr} {x q:Str} {st:Stmt} (l:∃f,PySem.W.findIn K (.ref C) x=some (some (.ref f))/\PySem.W.isFn K (.ref f)=true/\LK K f x q st):HasM K C x q st:=by
 obtain ⟨f,a,i,_,_,_,_,_,_,_,_,_,l,c,k⟩:=l;exact ⟨f,_,z1T l c k,⟨a,i,k⟩⟩
theorem z9c {K:kE} {C:Addr} {q:Str} {st:Stmt} {f:Addr} (mk:PySem.W.makesIn K C=true) (a:PySem.W.findIn K (.ref C) "__init__"=some (some (.ref f))) (i:PySem.W.isFn K (.ref f)=true) (l:LK K f "__init__" q st) (kc:PySem.W.keepIn K (.ref C)=true):HasI K C q st:=by
 obtain ⟨_,_,_,_,_,_,_,_,_,l,c,k⟩:=l;exact ⟨f,_,z1T l c k,⟨mk,a,i,kc⟩⟩
def CN (K:kE) (x:Str) (i:Int):Prop:=∃u,PySem.W.nsIn K mainGlobals x=some (some u)/\RelV (.int i) u
theorem cnm {K:kE} {x:Str} {i:Int} {u:Value} (a:PySem.W.nsIn K mainGlobals x=some (some u)) (r:RelV (.int i) u):CN K x i:=⟨u,a,r⟩
theorem z0O {K:kE} {h:Heap} {mg:Str->Option Value} {x:Str} {i:Int} (X:K.In h) (G:h.Ns mainGlobals mg) (l:CN K x i):∃u,mg x=some u/\RelV (.int i) u:=l.elim fun u q=>⟨u,ky X G q.1,q.2⟩
def KT (K:kE) (w:World) (x:Str) (tab:List (Str × V)):Prop:=∃a,PySem.W.nsIn K mainGlobals x=some (some (.ref a))/\KTab w.params K a tab
theorem ktm {K:kE} {w:World} {x:Str} {tab:List (Str × V)} {a:Addr} {e:Array DictEntry} {n:Nat} (h:PySem.W.nsIn K mainGlobals x=some (some (.ref a))) (l:K.lookup a=some ⟨.type "dict",none,.dict e n,#[]⟩) (k:PySem.W.KeysLit w.params e.toList) (m:(a == sysModules)=false)
  (p:Paired (fun (p:Str × V) (e:DictEntry)=>(∃t,e.key=.str p.1 t)/\RelV p.2 e.val) tab e.toList):KT K w x tab:=⟨a,h,e,n,l,k,m,p⟩
theorem ktg {K:kE} {w:World} {h:Heap} {mg:Str->Option Value} {x:Str} {tab:List (Str × V)} (X:K.In h) (G:h.Ns mainGlobals mg) (l:KT K w x tab):∃d,mg x=some (.ref d)/\KTab w.params K d tab:=l.elim fun d q=>⟨d,ky X G q.1,q.2⟩
def KU (K:kE) (x:Str) (xs:List V):Prop:=∃a,PySem.W.nsIn K mainGlobals x=some (some (.ref a))/\KTup K a xs
def MD (K:kE) (C:Addr) (x q:Str) (st:Stmt):Prop:=∃f,PySem.W.findIn K (.ref C) x=some (some (.ref f))/\PySem.W.isFn K (.ref f)=true/\LK K f x q st
theorem mdm {K:kE} {C f:Addr} {x q:Str} {st:Stmt} (a:PySem.W.findIn K (.ref C) x=some (some (.ref f))) (i:PySem.W.isFn K (.ref f)=true) (l:LK K f x q st):MD K C x q st:=⟨f,a,i,l⟩
theorem z55 {K:kE} {a:Addr} {xs:List V} {o:Obj} {its:Array Value} {n:Nat} (l:K.lookup a=some o) (c:o.cls=.type "tuple") (d:o.data=.seq its n) (v:Vals xs its.toList) (z:xs.length<=1000):KTup K a xs:=
 ⟨o,its,n,l,c,d,by have h1:xs.length=its.toList.length:=v.length;have h2:its.toList.length=its.size:=Array.length_toList;exact z1C (by lia),v⟩
theorem kum {K:kE} {x:Str} {a:Addr} {xs:List V} {o:Obj} {its:Array Value} {n:Nat} (h:PySem.W.nsIn K mainGlobals x=some (some (.ref a))) (l:K.lookup a=some o) (c:o.cls=.type "tuple") (d:o.data=.seq its n) (v:Vals xs its.toList) (z:xs.length<=1000):KU K x xs:=⟨a,h,z55 l c d v z⟩
theorem kug {K:kE} {h:Heap} {mg:Str->Option Value} {x:Str} {xs:List V} (X:K.In h) (G:h.Ns mainGlobals mg) (l:KU K x xs):∃a,mg x=some (.ref a)/\KTup K a xs:=l.elim fun d q=>⟨d,ky X G q.1,q.2⟩
theorem all_mk {l:PySem.W.OpenLaw} {w:World} {K:kE} {h:Heap} {mg:Str->Option Value} {fa CW CH T109 gfirst:Addr} {to109:Obj} {n109:Nat} (X:K.In h) (G:h.Ns mainGlobals mg) (hfa:mg "law"=some (.ref fa))
  {f13 f14 f15 f16 f17 f18 f19 f20 f21 f22 f23 f25 f26 f27 f28 f29 f30 f31 f32 f33 f43 f44 f45 f46 f47 f48 f49 f50 f51 f52 f53 f54 f56 f57 f58 f59 f60 f64 f65 f66 f67 f68 f69 f70 f72 f73 f74 f81 f82 f84 f85 f86 f87 f88 f89 f90 f91 f92 f93 f94 f95 f96 f97 f98 f99 f100 f102 f105 f106 f107 f108 f110 f111 f112 f113 f114 f115 f116 f117 f118 f119 f120 f121 f122 f123 f109 fW0 fH0:Addr} {od109 an109:Option Addr} {sl109:Array (Option Value)} {oc109 kV109 dc109 pm109 cd109 ct109:Value}
  {tfirst:Addr} {ofirst:Obj} {ifirst:Array Value} {nfirst:Nat}
{ogfirst:Obj} {igfirst:Array Value} {ngfirst:Nat}
  {fS G0:Addr} {odS anS:Option Addr} {slS:Array (Option Value)} {ocS kVS dcS pmS cdS ctS:Value} {oG0:Obj} {iG0:Array Value} {nG0:Nat}
  (l13:HD K f13 "is_number" 13)
  (l14:HD K f14 "is_number_within" 14)
  (l15:HD K f15 "is_letters" 15)
  (l16:HD K f16 "is_name" 16)
  (l17:HD K f17 "is_kind" 17)
  (l18:HD K f18 "is_mark" 18)
  (l19:HD K f19 "is_value_within" 19)
  (l20:HD K f20 "is_pushed" 20)
  (l21:HD K f21 "is_copied" 21)
  (l22:HD K f22 "is_swapped_with" 22)
  (l23:HD K f23 "is_none" 23)
  (l25:HD K f25 "is_op" 25)
  (l26:HD K f26 "arg_sort" 26)
  (l27:HD K f27 "arg_fits" 27)
  (l28:HD K f28 "is_row" 28)
  (l29:HD K f29 "label_places" 29)
  (l30:HD K f30 "mark_fits" 30)
  (l31:HD K f31 "first_bad_place" 31)
  (l32:HD K f32 "has_places" 32)
  (l33:HD K f33 "check_code" 33)
  (l43:HD K f43 "uppermost" 43)
  (l44:HD K f44 "depth_asked" 44)
  (l45:HD K f45 "lacks_values" 45)
  (l46:HD K f46 "lacks_guard" 46)
  (l47:HD K f47 "takes_beneath" 47)
  (l48:HD K f48 "moves" 48)
  (l49:HD K f49 "words_lacking" 49)
  (l50:HD K f50 "guards_behind" 50)
  (l51:HD K f51 "next_states" 51)
  (l52:HD K f52 "state_words" 52)
  (l53:HD K f53 "searched" 53)
  (l54:HD K f54 "states" 54)
  (l56:HD K f56 "is_given" 56)
  (l57:HD K f57 "check_given" 57)
  (l58:HD K f58 "set_behind" 58)
  (l59:HD K f59 "ways_on" 59)
  (l60:HD K f60 "names_set" 60)
  (l64:HD K f64 "is_true" 64)
  (l65:HD K f65 "are_same" 65)
  (l66:HD K f66 "sum_of" 66)
  (l67:HD K f67 "difference_of" 67)
  (l68:HD K f68 "product_of" 68)
  (l69:HD K f69 "quotient_of" 69)
  (l70:HD K f70 "rest_of" 70)
  (l72:HD K f72 "made_of_two" 72)
  (l73:HD K f73 "made_of_one" 73)
  (l74:HD K f74 "kind_raised" 74)
  (l81:HD K f81 "is_names" 81)
  (l82:HD K f82 "check_names" 82)
  (l84:HD K f84 "do_push" 84)
  (l85:HD K f85 "do_load" 85)
  (l86:HD K f86 "do_quick" 86)
  (l87:HD K f87 "do_store" 87)
  (l88:HD K f88 "do_clear" 88)
  (l89:HD K f89 "do_drop" 89)
  (l90:HD K f90 "do_copy" 90)
  (l91:HD K f91 "do_swap" 91)
  (l92:HD K f92 "pushed_or_fault" 92)
  (l93:HD K f93 "do_two" 93)
  (l94:HD K f94 "do_one" 94)
  (l95:HD K f95 "do_tell" 95)
  (l96:HD K f96 "do_jump" 96)
  (l97:HD K f97 "do_if" 97)
  (l98:HD K f98 "do_or" 98)
  (l99:HD K f99 "do_return" 99)
  (l100:HD K f100 "do_raise" 100)
  (l102:HD K f102 "do_row" 102)
  (l105:HD K f105 "_law_town" 105)
  (l106:HD K f106 "_law_draw" 106)
  (l107:HD K f107 "_law_pick" 107)
  (l108:HD K f108 "_law_const" 108)
  (l110:HD K f110 "_law_mark" 110)
  (l111:HD K f111 "_law_value" 111)
  (l112:HD K f112 "_law_tried_value" 112)
  (l113:HD K f113 "_law_moved_value" 113)
  (l114:HD K f114 "_law_deed" 114)
  (l115:HD K f115 "_law_choice" 115)
  (l116:HD K f116 "_law_round" 116)
  (l117:HD K f117 "_law_tried" 117)
  (l118:HD K f118 "_law_code" 118)
  (l119:HD K f119 "_law_given" 119)
  (l120:HD K f120 "_law_dense" 120)
  (l121:HD K f121 "_law_hops" 121)
  (l122:HD K f122 "_law_some_code" 122)
  (l123:HD K f123 "law" 123)
  (a109:PySem.W.nsIn K mainGlobals "_law_put"=some (some (.ref f109)))
  (l109:K.lookup f109=some ⟨oc109,od109,.func (PySem.W.fnOf "_law_put" "_law_put" (qr (top 109)) (zG (top 109)) (zh (top 109)) (.ref T109) kV109 dc109 pm109 an109 cd109 ct109),sl109⟩)
  (c109:PySem.W.codeIn K cd109 "_law_put"=true)
  (k109:PySem.W.keepIn K (.ref f109)=true)
  (t109:K.lookup T109=some to109)
  (s109:to109.data=.seq #[Value.none] n109)
  (aCW:PySem.W.nsIn K mainGlobals "Walk"=some (some (.ref CW)))
  (pgCW:PySem.W.plainGet K CW Str.empty=true)
  (hdCW:PySem.W.hasDictIn K CW=true)
  (poCW:PySem.W.plainOver K CW=true)
  (saCW:PySem.W.findIn K (.ref CW) "__setattr__"=some (some (.builtin "object.__setattr__")))
  (mkCW:PySem.W.makesIn K CW=true)
  (kcCW:PySem.W.keepIn K (.ref CW)=true)
  (nCWrows:PySem.W.findIn K (.ref CW) "rows"=some none)
  (nCWgoals:PySem.W.findIn K (.ref CW) "goals"=some none)
  (nCWhold:PySem.W.findIn K (.ref CW) "hold"=some none)
  (nCWwards:PySem.W.findIn K (.ref CW) "wards"=some none)
  (nCWpassed:PySem.W.findIn K (.ref CW) "passed"=some none)
  (nCWending:PySem.W.findIn K (.ref CW) "ending"=some none)
  (nCWhere:PySem.W.findIn K (.ref CW) "here"=some none)
  (aCH:PySem.W.nsIn K mainGlobals "Hold"=some (some (.ref CH)))
  (pgCH:PySem.W.plainGet K CH Str.empty=true)
  (hdCH:PySem.W.hasDictIn K CH=true)
  (poCH:PySem.W.plainOver K CH=true)
  (saCH:PySem.W.findIn K (.ref CH) "__setattr__"=some (some (.builtin "object.__setattr__")))
  (mkCH:PySem.W.makesIn K CH=true)
  (kcCH:PySem.W.keepIn K (.ref CH)=true)
  (nCHheld:PySem.W.findIn K (.ref CH) "held"=some none)
  (nCHknown:PySem.W.findIn K (.ref CH) "known"=some none)
  (nCHsaid:PySem.W.findIn K (.ref CH) "said"=some none)
  (aW0:PySem.W.findIn K (.ref CW) "__init__"=some (some (.ref fW0)))
  (iW0:PySem.W.isFn K (.ref fW0)=true)
  (lW0:LK K fW0 "__init__" "Walk.__init__" (mW 0))
  (aH0:PySem.W.findIn K (.ref CH) "__init__"=some (some (.ref fH0)))
  (iH0:PySem.W.isFn K (.ref fH0)=true)
  (lH0:LK K fH0 "__init__" "Hold.__init__" (mH 0))
  (mm1:MD K CW "come_to" "Walk.come_to" (mW 1))
  (mm2:MD K CW "finish" "Walk.finish" (mW 2))
  (mm3:MD K CW "take_fault" "Walk.take_fault" (mW 3))
  (mm4:MD K CW "step" "Walk.step" (mW 4))
  (mm5:MD K CW "place" "Walk.place" (mW 5))
  (mm7:MD K CW "names" "Walk.names" (mW 7))
  (z_isinstance:PySem.W.nsIn K mainGlobals "isinstance"=some none)
  (z_int:PySem.W.nsIn K mainGlobals "int"=some none)
  (z_bool:PySem.W.nsIn K mainGlobals "bool"=some none)
  (z_str:PySem.W.nsIn K mainGlobals "str"=some none)
  (z_tuple:PySem.W.nsIn K mainGlobals "tuple"=some none)
  (z_list:PySem.W.nsIn K mainGlobals "list"=some none)
  (z_len:PySem.W.nsIn K mainGlobals "len"=some none)
  (z_range:PySem.W.nsIn K mainGlobals "range"=some none)
  (z_enumerate:PySem.W.nsIn K mainGlobals "enumerate"=some none)
  (z_all:PySem.W.nsIn K mainGlobals "all"=some none)
  (z_dict:PySem.W.nsIn K mainGlobals "dict"=some none)
  (z_max:PySem.W.nsIn K mainGlobals "max"=some none)
  (z_min:PySem.W.nsIn K mainGlobals "min"=some none)
  (z_abs:PySem.W.nsIn K mainGlobals "abs"=some none)
  (z_sorted:PySem.W.nsIn K mainGlobals "sorted"=some none)
  (z_zip:PySem.W.nsIn K mainGlobals "zip"=some none)
  (q_rows:CN K "MOST_ROWS" 150)
  (q_line:CN K "MOST_LINE" 9999)
  (q_mark:CN K "MOST_MARK" 99)
  (q_pushed:CN K "MOST_PUSHED" 1000000000)
  (q_name:CN K "LONGEST_NAME" 4)
  (q_kind:CN K "LONGEST_KIND" 8)
  (q_made:CN K "MOST_MADE" 1000000000000000000)
  (q_names:CN K "MOST_NAMES" 8)
  (ta_sorts:KT K w "ARG_SORTS" z35)
  (ta_tests:KT K w "ARG_TESTS" [("value",.ref f20),("name",.ref f16),("copied",.ref f21),("swapped",.ref f22),("mark",.ref f18),("none",.ref f23)])
  (ta_takes:KT K w "TAKES" (z0z zN))
  (ta_pushes:KT K w "PUSHES" (z0z zU))
  (ta_gput:KT K w "GUARDS_PUT" (z0z zS))
  (ta_reck:KT K w "RECKONINGS" [("add",.ref f66),("sub",.ref f67),("mul",.ref f68),("div",.ref f69),("rest",.ref f70)])
  (ta_deeds:KT K w "DEEDS" (Qa ⟨f84,f85,f86,f87,f88,f89,f90,f91,f93,f94,f95,f96,f97,f98,f99,f100⟩))
  (ua_jumping:KU K "JUMPING" (jumping.map V.str))
  (ua_leaving:KU K "LEAVING" (leaving.map V.str))
  (ua_never:KU K "NEVER_ON" (qi.map V.str))
  (ua_faulting:KU K "FAULTING" (faulting.map V.str))
  (ua_next:KU K "NEXT" [.str "next",.non])
  (ua_go:KU K "GO" [.str "go",.non])
  (ua_unset:KU K "UNSET" [.str "fault",.str "Unset"])
  (ua_on:KU K "ON" [.str "on"])
  (ua_first:PySem.W.nsIn K mainGlobals "FIRST_STATE"=some (some (.ref tfirst)))
  (ul_first:K.lookup tfirst=some ofirst)
  (uc_first:ofirst.cls=.type "tuple")
  (ud_first:ofirst.data=.seq ifirst nfirst)
  (uv_first:Vals [.int 0,.ref gfirst] ifirst.toList)
  (ul_gfirst:K.lookup gfirst=some ogfirst)
  (uc_gfirst:ogfirst.cls=.type "tuple")
  (ud_gfirst:ogfirst.data=.seq igfirst ngfirst)
  (uv_gfirst:Vals [] igfirst.toList)
  (aS:PySem.W.nsIn K mainGlobals "surely"=some (some (.ref fS)))
  (lS:K.lookup fS=some ⟨ocS,odS,.func (PySem.W.fnOf "surely" "surely" (qr (top 61)) (zG (top 61)) (zh (top 61)) .none kVS dcS pmS anS cdS ctS),slS⟩)
  (cS:PySem.W.codeIn K cdS "surely"=true)
  (kS:PySem.W.keepIn K (.ref fS)=true)
  (pS:∀S u,PySem.W.peek K S (bindArgs (PySem.W.fnOf "surely" "surely" (qr (top 61)) (zG (top 61)) (zh (top 61)) .none kVS dcS pmS anS cdS ctS) ⟨[u],[]⟩)=some [(("code":Str),u),(("given":Str),.ref G0)])
  (ulS:K.lookup G0=some oG0)
  (ucS:oG0.cls=.type "tuple")
  (udS:oG0.data=.seq iG0 nG0)
  (uvS:Vals [] iG0.toList)
  :∃fd:FuncData,(∀(s:Shared) (v:Value),BindsTo s fd ⟨[v],[]⟩ [("_law_script",v)])/\∀base:Heap,K.In base->base.Ns mainGlobals mg->FnOk l.prog w K mg base CX0 19 fa fd ["_law_script"] (z4A K):=by
 have e:=hfa.symm.trans (ky X G l123.1);cases e;have D {f:Addr} {x:Str} {n:Nat} (l:HD K f x n):zx K mg x (top n):=zak X G l;have DP:z4p K mg "_law_put" (top 109):=⟨f109,T109,oc109,kV109,dc109,pm109,cd109,ct109,od109,an109,sl109,to109,n109,ky X G a109,k109,l109,c109,t109,s109⟩
 have GG:Glo mg:=⟨vk X G z_isinstance,vk X G z_int,vk X G z_bool,vk X G z_str,vk X G z_tuple,vk X G z_list,vk X G z_len,vk X G z_range,vk X G z_enumerate,z0O X G q_rows,z0O X G q_line,z0O X G q_mark,z0O X G q_pushed,z0O X G q_name,z0O X G q_kind,vk X G z_all,vk X G z_dict,vk X G z_max,vk X G z_min,vk X G z_abs,z0O X G q_made,z0O X G q_names⟩
 obtain ⟨dtests,mtests,ktests⟩:=ktg X G ta_tests;obtain ⟨dreck,mreck,kreck⟩:=ktg X G ta_reck;have GN:GloN mg:=⟨vk X G z_sorted,vk X G z_zip⟩
 have HK:HasK K mg G0:=⟨fS,ocS,kVS,dcS,pmS,cdS,ctS,odS,anS,slS,ky X G aS,kS,lS,cS,pS,z55 ulS ucS udS uvS (by decide)⟩
 have TT:Tabs w K mg:=⟨ktg X G ta_sorts,⟨dtests,f20,f16,f21,f22,f18,f23,mtests,ktests,ky X G l20.1,ky X G l16.1,ky X G l21.1,ky X G l22.1,ky X G l18.1,ky X G l23.1⟩⟩
 have T2:z5Q w K mg:=⟨ktg X G ta_takes,ktg X G ta_pushes,ktg X G ta_gput,kug X G ua_jumping,kug X G ua_leaving,kug X G ua_never,kug X G ua_faulting,⟨tfirst,gfirst,ky X G ua_first,z55 ul_first uc_first ud_first uv_first (by show 2<=1000;decide),z55 ul_gfirst uc_gfirst ud_gfirst uv_gfirst (by decide)⟩⟩
 have T3:z9J w K mg ⟨f84,f85,f86,f87,f88,f89,f90,f91,f93,f94,f95,f96,f97,f98,f99,f100⟩:=⟨ktg X G ta_deeds,ky X G l84.1,ky X G l85.1,ky X G l86.1,ky X G l87.1,ky X G l88.1,ky X G l95.1,ky X G l97.1,ky X G l98.1,ky X G l99.1,ky X G l93.1,ky X G l94.1,ky X G l96.1,ky X G l89.1,ky X G l90.1,ky X G l91.1,ky X G l100.1⟩
 have TR:TabR w K mg:=⟨dreck,f66,f67,f68,f69,f70,mreck,kreck,ky X G l66.1,ky X G l67.1,ky X G l68.1,ky X G l69.1,ky X G l70.1⟩
 have CC:Cons K mg:=⟨kug X G ua_next,kug X G ua_go,kug X G ua_unset,kug X G ua_on⟩
 have CL:Clss K mg CW CH:=⟨ky X G aCW,ky X G aCH,⟨⟨pgCW,hdCW,poCW,saCW⟩,nCWrows,nCWgoals,nCWhold,nCWwards,nCWpassed,nCWending,nCWhere⟩,⟨⟨pgCH,hdCH,poCH,saCH⟩,nCHheld,nCHknown,nCHsaid⟩,z9c mkCW aW0 iW0 lW0 kcCW,z9c mkCH aH0 iH0 lH0 kcCH,z2v mm1,z2v mm2,z2v mm3,z2v mm4,z2v mm5,z2v mm7⟩
 obtain ⟨_,_,_,an,_,kV,dc,pm,cd,ct,lk,c,k⟩:=l123;refine ⟨PySem.W.fnOf "law" "law" (qr (top 123)) (zG (top 123)) (zh (top 123)) .none kV dc pm an cd ct,fun s v=>.of_eq rfl,fun base _ _=>?_⟩;have nF {x:Str} {ps:List Str} {sp:Sp} {k:Nat} (F:FN l.prog w K mg base k x ps sp):=F;have nM {C:Addr} {x:Str} {ps:List Str} {sp:Sp} {k:Nat} (F:MN l.prog w K mg base k C x ps sp):=F;have nI {C:Addr} {ps:List Str} {sp:Sp} {k:Nat} (F:IN l.prog w K mg base k C ps sp):=F;have num:=nF (z0G (D l13) GG);have qX:=z3M (D l14) GG num;have Zn:=nF (z2A (D l15) GG);have name:=z7y (D l16) GG Zn;have kind:=z7C (D l17) GG Zn;have mark:=z7z (D l18) GG qX;have value:=z5g (D l19) GG qX kind;have pushed:=z3P (D l20) GG value;have copied:=z3Q (D l21) qX;have swapped:=z2z (D l22) qX;have none:=nF (z7w (D l23));have op:=nF (zar (D l25) GG TT);have sort:=nF (z7m (D l26) TT);have fits:=z7F (D l27) TT sort pushed name copied swapped mark none;have row:=z9g (D l28) GG op fits qX;have labs:=z7B (D l29) GG row;have mfits:=z0F (D l30) sort;have bad:=z9o (D l31) GG row labs mfits;have has:=nF (z9m (D l32) GG);have check:=z5y (D l33) has bad;have up:=up2 (nF (zan (D l43)));have asked:=nF (z5z (D l44) T2);have lackV:=z5q (D l45) asked;have ZN:=nF (z5r (D l46));have qF:=z2C (D l47) GG asked;have moves:=z5n (D l48) T2 lackV ZN;have words:=z5f (D l49) GG lackV ZN qF moves;have gb:=nF (zav (D l50));have next:=z7x (D l51) up moves gb;have sw:=zap (D l52) up words;have searched:=z1p (D l53) GG T2 labs sw next;have states:=z3N (D l54) check searched;have tru:=nF (z7h (D l64) GG);have names:=z5m (D l81) GG name value;have chkn:=z7L (D l82) names;have push:=nF (z7s (D l84) CL.cH CC);have load:=nF (z7A (D l85) CL.cH CC);have quick:=nF (z5l (D l86) CL.cH CC);have store:=nF (z5i (D l87) CL.cH CC);have clear:=nF (z5x (D l88) CL.cH CC);have drop:=nF (z7G (D l89) CL.cH CC);have copy:=nF (z7K (D l90) CL.cH CC);have swap:=nF (z7k (D l91) CL.cH CC);have tell:=nF (z7j (D l95) CL.cH CC);have ifs:=zau (D l97) CL.cH CC tru;have ors:=zaq (D l98) CL.cH CC tru;have ret:=nF (z3O (D l99) CL.cH);have kr:=z5s (D l74) kind;have rais:=z5k (D l100) CL.cH kr;have same:=nF (z7p (D l65) GG);have sum:=nF (z9f (D l66));have diff:=nF (z7I (D l67));have prod:=nF (z7t (D l68));have quot:=nF (z7r (D l69));have rest:=nF (z7q (D l70));have ZF:=z5o (D l72) num same GG TR sum diff prod quot rest;have JO:=z5p (D l73) num tru;have pof:=nF (z9i (D l92) CL.cH CC);have two:=z9e (D l93) CL.cH ZF pof;have one:=z9j (D l94) CL.cH JO pof;have jump:=nF (z7D (C:=CH) (D l96) CC);have dorow:=z5u (D l102) T3 push load quick store clear tell ifs ors ret two one jump drop copy swap rais;have ihold:=nI (z7a CL.iH CL.cH GG);have come:=nM (z93 CL.m1 CL.cW CL.cH GG);have fin:=nM (zaf (CH:=CH) CL.m2 CL.cW);have take:=z91 CL.m3 CL.cW CL.cH fin come;have step:=z92 CL.m4 CL.cW fin take come dorow;have place:=nM (z74 (CH:=CH) CL.m5 CL.cW);have wnames:=nM (z75 CL.m7 CL.cW CL.cH GG);have iwalk:=z79 CL.iW CL.cW GG CC CL.mH states chkn labs ihold come;have town:=nF (z7i (D l105) GG);have draw:=nF (z7H (D l106) GG);have pick:=z7u (D l107) GG draw;have const:=z5w (D l108) pick;have put:=z9h (P:=l.prog) (w:=w) (base:=base) DP GG;have mk:=nF (zat (D l110) GG);have S:jG l.prog w K mg base:=⟨draw,pick,const,put.1,put.2,mk⟩
 have VV:=z0E (D l111) (D l112) (D l113) GG S 3;have DD:=z1X (D l114) (D l115) (D l116) (D l117) S VV 3;have lcode:=z2B (D l118) GG S VV DD;have given:=z5t (D l119) S;have setb:=nF (z7o (D l58) GN);have ways:=z7g (D l59) setb up moves;have nset:=zas (D l60) GG labs ways;have giv:=z9n (D l56) GG GN name;have chkG:=z7M (D l57) giv;have sure:=z7l HK GG states chkG nset;have mv:=z9k (n:=3) (D l113) GG S VV;have hops:=z7E (D l121) GG S;have dense:=z5v (D l120) GG S VV mv DD hops;have some:=z7n (D l122) S dense lcode;exact z9l (z1T (st:=top 123) lk c k) GG GN CL.cW CL.mW town draw some given sure iwalk place wnames step
theorem z8s {K:kE} {H:Hp} {a:Addr} {xs:List V} (hO:Only H) (h:SqL K H a xs):Scr K H a xs:=by
 rcases h with h | h
 ·rcases h with h | ⟨o,h⟩
  ·rcases hO a with z | ⟨o,ys,z⟩
   ·rw [z] at h;cases h
   ·rw [z] at h;cases h
  ·exact .inl ⟨o,h⟩
 ·exact .inr h
theorem walk {l:PySem.W.OpenLaw} {q:Program} {loose:List Str} {XP:(Str->Option Value)->Heap->Prop} {YP:World->Heap->Prop} {d:DefRec} {K:Params->kE} (hn:l.most=some 63) (hdf:d.params.defaults=[])
  (hY:∀(w:World) (h:Heap),YP w h->(K w.params).In h)
  (F:∀(w:World) (mg:Str->Option Value) (fa:Addr) (h:Heap),(K w.params).In h->h.Ns mainGlobals mg->mg d.name=some (.ref fa)->
   ∃fd:FuncData,(∀(s:Shared) (u:Value),BindsTo s fd ⟨[u],[]⟩ [("_law_script",u)])/\∀base:Heap,(K w.params).In base->base.Ns mainGlobals mg->FnOk l.prog w (K w.params) mg base CX0 19 fa fd ["_law_script"] (z4A (K w.params))):
  PySem.W.WalkO q loose XP YP l.row.toRowW d [] (fun f vs=>PySem.call f vs):=
 L2.z6w (n:=63) (k:=19) (x:="_law_script") (CX:=fun _=>CX0) (sp:=fun w=>z4A (K w.params)) hn (by decide) hdf ⟨rfl,by decide,by decide,rfl⟩ hY F (fun _ _ a ns hl hO hS=>⟨a,ns,rfl,z8s hO hS,hl,fun _=>rfl⟩) fun _ _ _ _ _ z=>z
end My
end
namespace PySem.W.Fast
def tw316514102143019080:=Prop
def tw1176975735165151067:=Prop
def tw13698048360955963301:=Prop
def tw906997338810173357:=Prop
def tw6397798872860733234:=Prop
def tw14442895186254868694:=Prop
def tw550859730669387710:=Prop
def tw4944538096920542639:=Prop
def tw13402640891724300857:=Prop
def tw14869557710840242666:=Prop
def tw8629223137936558018:=Prop
def tw16479022912942432158:=Prop
def tw17643754061406199020:=Prop
def tw8348929279939143713:=Prop
def tw8609586542792094281:=Prop
def tw3285859953031059425:=Prop
def tw11889039917686322224:=Prop
def tw10667965978278278033:=Prop
def tw1479287613276173130:=Prop
def tw15886500619415505586:=Prop
def tw6486810437610700802:=Prop
def tw12048056826642495367:=Prop
def tw8428562227566387420:=Prop
def tw4491058772748593153:=Prop
def tw6494943896840636653:=Prop
def tw4135897612330176133:=Prop
def tw5671954072354940063:=Prop
def tw5856596252816178523:=Prop
def tw13436231055378572716:=Prop
def tw7503064181124827805:=Prop
def tw5055051069096525434:=Prop
def tw7398817070849623441:=Prop
def tw12798869161161681673:=Prop
def tw11047245738394521532:=Prop
def tw2257529940240947247:=Prop
def tw5891177449180782854:=Prop
def tw15402286563333779435:=Prop
def tw12533650973541477374:=Prop
def tw4359589691058243886:=Prop
def tw586414817643026165:=Prop
def tw4540636511946744494:=Prop
def tw18013738613805917565:=Prop
def tw17704188385166749297:=Prop
def tw7498633149979677338:=Prop
def tw15335523830956845186:=Prop
def tw8135990882902831502:=Prop
def tw11902711398340702967:=Prop
def tw13840814423707232359:=Prop
def tw11483614926036402024:=Prop
def tw18247377098040606644:=Prop
def tw15515405784836723652:=Prop
def tw9563574807059059695:=Prop
def tw15348117752812372481:=Prop
def tw9292651643026975300:=Prop
def tw2947586027576077979:=Prop
def tw16932301668260661676:=Prop
def tw5587826856885255690:=Prop
def tw18250748109410594776:=Prop
def tw8879981774537637704:=Prop
def tw1349388230604553621:=Prop
def tw6822529714786804032:=Prop
def tw16472409268878238316:=Prop
def tw10700183255674453818:=Prop
def tw9491141301117620824:=Prop
def tw8164005668110941744:=Prop
def tw4770949888891906500:=Prop
def tw8981913638643619018:=Prop
def tw11832926541442806272:=Prop
def tw13426244417702134072:=Prop
def tw1462193419119380569:=Prop
def tw234749781942434899:=Prop
def tw5958337225494893492:=Prop
def tw1191315250883676292:=Prop
def tw1906743188756502811:=Prop
def tw7875376050956498882:=Prop
def tw8426798971799828003:=Prop
def tw11370914782968760983:=Prop
def tw15861331538122591068:=Prop
def tw14501001857826371202:=Prop
def tw4026151001005817321:=Prop
def tw7328447075739424539:=Prop
def tw9435018134839604537:=Prop
def tw16539199913488330184:=Prop
def tw853867870972434600:=Prop
def tw8933567498414919238:=Prop
def tw7492102371377302679:=Prop
def tw8730455100892084961:=Prop
def tw12390559651112219368:=Prop
def tw13113311128994013787:=Prop
def tw14191745827877185554:=Prop
def tw8470894229461020840:=Prop
def tw10155365746132046468:=Prop
def tw2563342435080024164:=Prop
def tw17849293660312457548:=Prop
def tw14613296582639449008:=Prop
def tw12018387782679925087:=Prop
def tw11779420592341035236:=Prop
def tw16745343075639119971:=Prop
def tw16749348522385944071:=Prop
def tw16792704761308240420:=Prop
def tw10561106145012299093:=Prop
def tw1987508650992133761:=Prop
def tw2208741240797131588:=Prop
def tw12027893231959348502:=Prop
def tw12996339429388188178:=Prop
def tw2283480497557504744:=Prop
def tw69414778264802052:=Prop
def tw416062468532545916:=Prop
def tw5017925420398905020:=Prop
def tw16550838102048051623:=Prop
def tw7537285074954141530:=Prop
def tw12300527617525357084:=Prop
def tw4654963303733061616:=Prop
def tw13049474527870934581:=Prop
def tw734138898119960010:=Prop
def tw3479469073905811116:=Prop
def tw16950569574821323974:=Prop
def tw3172541193896328996:=Prop
def tw15248526436251307398:=Prop
def tw3307598998989760257:=Prop
def tw5388663596951873645:=Prop
def tw12673549619886724666:=Prop
def tw10785849952161257653:=Prop
def tw8018341471551460276:=Prop
def tw9488181201213887302:=Prop
def tw2536771547969941856:=Prop
def tw16900098544317168846:=Prop
def tw18269924539489903889:=Prop
def tw1191518686258777599:=Prop
def tw17312996333117680517:=Prop
def tw8829165076331179155:=Prop
def tw12068798485007620914:=Prop
def tw7363425622247834253:=Prop
def tw143287661451841328:=Prop
def tw17305903175009340426:=Prop
def tw17287205074728517176:=Prop
def tw4537827082999213091:=Prop
def tw4203021270051977171:=Prop
def tw3801760983836956406:=Prop
def tw11418939547134857076:=Prop
def tw3094701115853657799:=Prop
def tw1944925098504758534:=Prop
def tw13197444509695450237:=Prop
def tw1385777081429181588:=Prop
def tw4179031660912777645:=Prop
def tw6292166794754334899:=Prop
def tw371976131940695897:=Prop
def tw6586766797330607371:=Prop
def tw15508019666092448443:=Prop
def tw804092199982636349:=Prop
def tw13829591483307370896:=Prop
def tw2133357390318303931:=Prop
def tw17969941481158815411:=Prop
def tw8185526577758514290:=Prop
def tw15213048550514571353:=Prop
def tw16525585646549488262:=Prop
def tw7523960725538707817:=Prop
def tw2133271169735087666:=Prop
def tw17427895641331663283:=Prop
def tw17334881123488906936:=Prop
def tw1165732905965986049:=Prop
def tw4033379813872489195:=Prop
def tw3166399620581321579:=Prop
def tw8866799916698666265:=Prop
def tw8903238766108814736:=Prop
def tw5799554998426481285:=Prop
def tw8181798732573668865:=Prop
def tw539595736760451978:=Prop
def tw16149030986926176842:=Prop
def tw11622863634709415212:=Prop
def tw11636702290074901078:=Prop
def tw7610715734942229976:=Prop
def tw8704305404121857298:=Prop
def tw17186741509365979835:=Prop
def tw4290539585013091505:=Prop
def tw1820406046763328738:=Prop
def tw8436589768386056944:=Prop
def tw18192907663531859256:=Prop
def tw10137764753370060610:=Prop
def tw3103751414666246812:=Prop
def tw6200747210346194187:=Prop
def tw17682402426280554898:=Prop
def tw6708892414054319099:=Prop
def tw13319170342346483122:=Prop
def tw15382044423783582273:=Prop
def tw10097012582147076362:=Prop
def tw12565002596728077416:=Prop
def tw4423298242231065725:=Prop
def tw17721039672839981703:=Prop
def tw112567504061534027:=Prop
def tw182668025278835697:=Prop
def tw9192171586001469603:=Prop
def tw9359623039629485964:=Prop
def tw9455475090630465045:=Prop
def tw17004574920194074796:=Prop
def tw7825248364748044718:=Prop
def tw10097206405949888370:=Prop
def tw4402504706719581215:=Prop
def tw17845374550828520631:=Prop
def tw17619882183920601743:=Prop
def tw14439765378166140033:=Prop
def tw8454840944936950519:=Prop
def tw18221076124747093969:=Prop
def tw10752687858943698738:=Prop
def tw13432873828021710899:=Prop
def tw9629638568524466495:=Prop
def tw17601101962401091345:=Prop
def tw13884827974113296321:=Prop
def tw14864845329073380503:=Prop
def tw4074981978428682757:=Prop
def tw1678685284944356640:=Prop
def tw7249538410202319208:=Prop
def tw13624067223694474022:=Prop
def tw14395535763308203431:=Prop
def tw8556428379479075427:=Prop
def tw7394473655412076685:=Prop
def tw11905978938385298303:=Prop
def tw12976177241038019767:=Prop
def tw10762484250532422250:=Prop
def tw13231743877010270464:=Prop
def tw14566440943485919492:=Prop
def tw14374603453287560736:=Prop
def tw15734334760007649912:=Prop
def tw15069716523494295500:=Prop
def tw9183887234732007851:=Prop
def tw14790834132378566595:=Prop
def tw17798109276220946204:=Prop
def tw5089109622011424599:=Prop
def tw13148303815899264127:=Prop
def tw802917404587063742:=Prop
def tw17546005709695080877:=Prop
def tw11764051201032110199:=Prop
def tw2294854397974045510:=Prop
def tw264859973967348148:=Prop
def tw13101539525013915119:=Prop
def tw6664951462986138201:=Prop
def tw6638926791290424541:=Prop
def tw11769617611247221923:=Prop
def tw15679247252792206210:=Prop
def tw454280894128670149:=Prop
def tw9715166753854553471:=Prop
def tw15632388027458123374:=Prop
def tw5613845454599061817:=Prop
def tw7160180452043601882:=Prop
def tw15431134087688302020:=Prop
def tw16416184580281828324:=Prop
def tw9897558803702562313:=Prop
def tw12978678129208030876:=Prop
def tw12897510573589207426:=Prop
def tw8008005557923197168:=Prop
def tw7194422792647746864:=Prop
def tw9508736203920968164:=Prop
def tw18363613149180712908:=Prop
def tw7900839787485558254:=Prop
def tw10884089432341657690:=Prop
def tw6585068141940680455:=Prop
def tw16878425626841360969:=Prop
def tw6582134788679801411:=Prop
def tw4952506757814975653:=Prop
def tw17548501875881557423:=Prop
def tw5036445103931068615:=Prop
def tw517312751163448032:=Prop
def tw49257221699923509:=Prop
def tw10780761586765376359:=Prop
def tw6834397320308548248:=Prop
def tw17938573788391313690:=Prop
def tw13792483299354683862:=Prop
def tw3482820431698744051:=Prop
def tw4198713400997701141:=Prop
def tw11002848052431835627:=Prop
def tw1313047135445303594:=Prop
def tw6737687440995333003:=Prop
def tw11973505968982382900:=Prop
def tw11289143093466461953:=Prop
def tw16919330064296535691:=Prop
def tw13989995598129119793:=Prop
def tw9516800180062724845:=Prop
def tw1712973634487312807:=Prop
def tw10633877990877389399:=Prop
def tw10042499479572932358:=Prop
def tw1138913362466708187:=Prop
def tw6731276024794131016:=Prop
def tw14010756937746569603:=Prop
def tw4626940704210403192:=Prop
def tw1873328127978622562:=Prop
def tw13305670439411429421:=Prop
def tw14015890951069844909:=Prop
def tw178168908405807006:=Prop
def tw7254989234349611870:=Prop
def tw17996964024917085871:=Prop
def tw15726315211890062517:=Prop
def tw7042659310547366237:=Prop
def tw931956834028986255:=Prop
def tw17857563459279650048:=Prop
def tw9484893572878908112:=Prop
def tw4211952112222678748:=Prop
def tw14729990847023682631:=Prop
def tw1322031339247656150:=Prop
def tw12434779806091606683:=Prop
def tw9791681398072291233:=Prop
def tw1201823643857629683:=Prop
def tw13673065589402620214:=Prop
def tw15740581520725410121:=Prop
def tw3357109249204774647:=Prop
def tw10816505815932434291:=Prop
def tw5107255825281412738:=Prop
def tw380267787363406661:=Prop
def tw3507429394446682220:=Prop
def tw8532528403779714478:=Prop
def tw2348382526199129394:=Prop
def tw15724745641170818534:=Prop
def tw3555141088238359772:=Prop
def tw13481268755573549168:=Prop
def tw5485572742587201778:=Prop
def tw17093224777342109595:=Prop
def tw14255533807856875452:=Prop
def tw4466625985826531108:=Prop
def tw12118316835902595257:=Prop
def tw8237626310708396552:=Prop
def tw17837415989878807268:=Prop
def tw5272677748111154927:=Prop
def tw14207915657524821833:=Prop
def tw5286587840749011222:=Prop
def tw6415066574636824545:=Prop
def tw15862806813707239167:=Prop
def tw17545862747986772839:=Prop
def tw6390373612929051886:=Prop
def tw12132578266924881344:=Prop
def tw9305391788130653963:=Prop
def tw1877735476730380715:=Prop
def tw14624137194681822032:=Prop
def tw15568136977402293060:=Prop
def tw8954067861541931720:=Prop
def tw14199714164133228370:=Prop
def tw5764117369366255280:=Prop
def tw16729703641346728240:=Prop
def tw726985913927333873:=Prop
def tw2385268686561707046:=Prop
def tw2927799364441409784:=Prop
def tw15137687247720179910:=Prop
def tw17513604867990543079:=Prop
def tw2463093255817348941:=Prop
def tw2695001188049097931:=Prop
def tw347805415268056836:=Prop
def tw8605165415444627158:=Prop
def tw1840282097412291383:=Prop
def tw14987661418082201831:=Prop
def tw571030836065106013:=Prop
def tw3382304716988349589:=Prop
def tw2754692670688779762:=Prop
def tw2923001932562327482:=Prop
def tw712222309637291157:=Prop
def tw5426448371682200115:=Prop
def tw3450989490954552525:=Prop
def tw8126552424372712672:=Prop
def tw5661640270340304354:=Prop
def tw17094580856887593759:=Prop
def tw4769901133546641911:=Prop
def tw838488071084229480:=Prop
def tw10069975712529536831:=Prop
def tw4425046354534653865:=Prop
def tw3373145609055282853:=Prop
def tw14722794537435163219:=Prop
def tw18431155831084640082:=Prop
def tw11069628954808310989:=Prop
def tw3892864765347196996:=Prop
def tw7942853410682446962:=Prop
def tw317932667124481529:=Prop
def tw11118301316682269745:=Prop
def tw11188117447681078326:=Prop
def tw16186510892431351131:=Prop
def tw4227517698962585424:=Prop
def tw14749253800190834908:=Prop
def tw9895319725981956093:=Prop
def tw9466130334346563993:=Prop
def tw143782271200020318:=Prop
def tw16554409650746866474:=Prop
def tw11763852733077360975:=Prop
def tw17398146341500462573:=Prop
def tw1877378965866140348:=Prop
def tw306725001281121169:=Prop
def tw17882641709403210578:=Prop
def tw4153491320931672185:=Prop
def tw15545184769064153574:=Prop
def tw10267551232223586437:=Prop
def tw17401831432661337422:=Prop
def tw1647960591809683682:=Prop
def tw2791417458454038152:=Prop
def tw14267268813261638861:=Prop
def tw7266471719974227049:=Prop
def tw12662363693902343356:=Prop
def tw5835942142707902020:=Prop
def tw10015450608781386451:=Prop
def tw3345597093286824917:=Prop
def tw5680315236850328200:=Prop
def tw11786325122171474085:=Prop
def tw15223397061033166810:=Prop
def tw763151578990004582:=Prop
def tw7343611390307366373:=Prop
def tw4543556514994620149:=Prop
def tw7340446101256811000:=Prop
def tw14734032772098568817:=Prop
def tw12815670308626618822:=Prop
def tw8553059368797141306:=Prop
def tw14900259974334564751:=Prop
def tw5769997320742902227:=Prop
def tw2962324470309885386:=Prop
def tw8667492640987031791:=Prop
def tw13669522585143040522:=Prop
def tw11320351676317602388:=Prop
def tw11329467641453361123:=Prop
def tw4693335582198445222:=Prop
def tw13252108370143244208:=Prop
def tw5541168653056121806:=Prop
def tw9945897696225530357:=Prop
def tw6905212232875527693:=Prop
def tw13952158723898717365:=Prop
def tw18012574323051992567:=Prop
def tw7524379617451308511:=Prop
def tw18167724695441219349:=Prop
def tw12392129776423771058:=Prop
def tw15722476443830486393:=Prop
def tw7420531298404749032:=Prop
def tw4968929673044707356:=Prop
def tw1391549112126926301:=Prop
def tw12712400820596877648:=Prop
def tw10846345724684618374:=Prop
def tw13055661147411815287:=Prop
def tw3934833063311361131:=Prop
def tw75764501244781629:=Prop
def tw274189353798237994:=Prop
def tw2873748437651673626:=Prop
def tw6771182271545134960:=Prop
def tw5315833730557488597:=Prop
def tw8891557043749499067:=Prop
def tw4340971767527515617:=Prop
def tw644751248652905101:=Prop
def tw10497823618577955822:=Prop
def tw10497042534595344180:=Prop
def tw14279065940840616024:=Prop
def tw18329075359065952542:=Prop
def tw1267704075650749254:=Prop
def tw7950223703418521501:=Prop
def tw11646726652304972418:=Prop
def tw16463793508043411602:=Prop
def tw4888033052430993751:=Prop
def tw5587484289544270231:=Prop
def tw8131721106225051767:=Prop
def tw5847202018973711932:=Prop
def tw3808584094389355786:=Prop
def tw15261137711255440680:=Prop
def tw10134030333460990790:=Prop
def tw2202087279664922802:=Prop
def tw4773397407553703792:=Prop
def tw3471986238504059686:=Prop
def tw16925118299729312639:=Prop
def tw4799189423077775474:=Prop
def tw17456480263006714056:=Prop
def tw14763428746477059428:=Prop
def tw5363195699714531557:=Prop
def tw1567247161763788871:=Prop
def tw18182889222666715495:=Prop
def tw14335355579717207800:=Prop
def tw7090585071989052306:=Prop
def tw438459731153329746:=Prop
def tw11224361182253327997:=Prop
def tw12111957463147405440:=Prop
def tw11896190001472655623:=Prop
def tw15888159438429106303:=Prop
def tw14873902065993744872:=Prop
def tw4188684199736651882:=Prop
def tw7767600555257307780:=Prop
def tw17338234738716814015:=Prop
def tw18145377420945558387:=Prop
def tw12325562205625792791:=Prop
def tw14113110954290816071:=Prop
def tw10448383514627668160:=Prop
def tw9161490523856799436:=Prop
def tw6760056911573607715:=Prop
def tw10925597439039874015:=Prop
def tw11300376045408061371:=Prop
def tw3369663099759083609:=Prop
def tw18277388166739348960:=Prop
def tw6429450841261186155:=Prop
def tw3133745999044795564:=Prop
def tw3543174748483581286:=Prop
def tw10232147439284725336:=Prop
def tw670427922429333600:=Prop
def tw2374466318677132124:=Prop
def tw12319733152821033628:=Prop
def tw3083371992184736890:=Prop
def tw3302770140995672700:=Prop
def tw10661956449011590994:=Prop
def tw3048301304931576756:=Prop
def tw714049069090440106:=Prop
def tw12487779173672901959:=Prop
def tw10393078302967963895:=Prop
def tw7007158731953197150:=Prop
def tw8478550097109946567:=Prop
def tw6205024481829086969:=Prop
def tw1752935974249381271:=Prop
def tw16884622931589843948:=Prop
def tw5015507407206683207:=Prop
def tw4034687210265294523:=Prop
def tw8621336744817483243:=Prop
def tw1817805791611690161:=Prop
def tw9404357650505672570:=Prop
def tw10728712052571211117:=Prop
def tw11586196018267737339:=Prop
def tw11522840503767320408:=Prop
def tw4842887358765978389:=Prop
def tw14398365135244066966:=Prop
def tw10285885531015897042:=Prop
def tw3321576952164483024:=Prop
def tw17960406059949683352:=Prop
def tw14112606434462084385:=Prop
def tw14593252181223967585:=Prop
def tw3903891618737965568:=Prop
def tw7834740603555865465:=Prop
def tw133755455108545178:=Prop
def tw12514039047250868702:=Prop
def tw5609530884314319229:=Prop
def tw6788773261714906821:=Prop
def tw7945405709010385892:=Prop
def tw12694112234171929671:=Prop
def tw6147076586173037292:=Prop
def tw2484844197603217540:=Prop
def tw7717702957765121957:=Prop
def tw13350131943787299761:=Prop
def tw14731147920152588799:=Prop
def tw11887224372650548316:=Prop
def tw3822784309164373692:=Prop
def tw11389117665151840592:=Prop
def tw5011889884212318148:=Prop
def tw11970942820725077907:=Prop
def tw16717272659965454103:=Prop
def tw14245618210516037357:=Prop
def tw1906461178052628661:=Prop
def tw8848340392469278725:=Prop
def tw8877373362634485534:=Prop
def tw18152145473544675463:=Prop
def tw3981585000120243262:=Prop
def tw12737541344736672974:=Prop
def tw5399014298235654608:=Prop
def tw13949155002146243131:=Prop
def tw4589182232624314844:=Prop
def tw137710508599503078:=Prop
def tw16970792351503237766:=Prop
def tw14949513074056673275:=Prop
def tw13708279966662545973:=Prop
def tw13323373534744806615:=Prop
def tw17129413109452088230:=Prop
def tw17960848765466677729:=Prop
def tw1096354831752916523:=Prop
def tw7263363503728760936:=Prop
def tw16470353201865523573:=Prop
def tw17802128708061929859:=Prop
def tw9835382159548102362:=Prop
def tw2863612454921246160:=Prop
def tw5185991453625059868:=Prop
def tw14650769484350525481:=Prop
def tw5713610079918043996:=Prop
def tw3942624392001961204:=Prop
def tw12328853128172473661:=Prop
def tw6728313399510405491:=Prop
def tw16338214745046372782:=Prop
def tw5921587261177403197:=Prop
def tw11654023200298843171:=Prop
def tw15536387163757344236:=Prop
def tw15719748902143223830:=Prop
end PySem.W.Fast
open PySem PySem.W PyProof.Rows
set_option maxRecDepth 100000
set_option maxHeartbeats 0
open_top head for PySem.Challenge.rw_codemill_k61_whole_sure_is_set
theorem PySem.Challenge.cw_codemill_k61_whole_sure_is_set_holds : PySem.Challenge.rw_codemill_k61_whole_sure_is_set.Holds :=
 head (by
 k_fill
 refine My.walk (l:=PySem.Challenge.rw_codemill_k61_whole_sure_is_set) rfl rfl (fun w h Y=>PySem.W.kIn_of Y) ?F
 case F=>
  intro w mg fa h KX G hmg
  refine' My.all_mk KX G hmg ?_ ?_ ?_ ?_ ?_ ?_ ?_ ?_ ?_ ?_ ?_ ?_ ?_ ?_ ?_ ?_ ?_ ?_ ?_ ?_ ?_ ?_ ?_ ?_ ?_ ?_ ?_ ?_ ?_ ?_ ?_ ?_ ?_ ?_ ?_ ?_ ?_ ?_ ?_ ?_ ?_ ?_ ?_ ?_ ?_ ?_ ?_ ?_ ?_ ?_ ?_ ?_ ?_ ?_ ?_ ?_ ?_ ?_ ?_ ?_ ?_ ?_ ?_ ?_ ?_ ?_ ?_ ?_ ?_ ?_ ?_ ?_ ?_ ?_ ?_ ?_ ?_ ?_ ?_ ?_ ?_ ?_ ?_ ?_ ?_ ?_ ?_ ?_ ?_ ?_ ?_ ?_ ?_ ?_ ?_ ?_ ?_ ?_ ?_ ?_ ?_ ?_ ?_ ?_ ?_ ?_ ?_ ?_ ?_ ?_ ?_ ?_ ?_ ?_ ?_ ?_ ?_ ?_ ?_ ?_ ?_ ?_ ?_ ?_ ?_ ?_ ?_ ?_ ?_ ?_ ?_ ?_ ?_ ?_ ?_ ?_ ?_ ?_ ?_ ?_ ?_ ?_ ?_ ?_ ?_ ?_ ?_ ?_ ?_ ?_ ?_ ?_ ?_ ?_ ?_ ?_ ?_ ?_ ?_ ?_ ?_ ?_ ?_ ?_ ?_ ?_ ?_ ?_ ?_ ?_ ?_ ?_ ?_ ?_ ?_ ?_ ?_ ?_ ?_ ?_ ?_ ?_ ?_ ?_
  any_goals exact My.hdm (by k_is) (by k_is) (by k_is) (by k_is)
  any_goals exact My.cnm (by k_is) (by first | exact rfl | exact ⟨_,rfl⟩)
  any_goals exact My.ktm (by k_is) (by k_is) (by k_keys) (by first | exact rfl | decide) (by repeat (first | exact .nil | refine .cons ⟨⟨_,rfl⟩,(by first | exact rfl | exact ⟨_,rfl⟩)⟩ ?_))
  any_goals exact My.kum (by k_is) (by k_is) rfl rfl (by repeat (first | exact .nil | refine .cons (by first | exact rfl | exact ⟨_,rfl⟩) ?_)) (by decide)
  any_goals k_is
  any_goals exact fun _ _=>rfl
  any_goals exact My.mdm (by k_is) (by k_is) (My.lk_mk (by k_is) (by k_is) (by k_is))
  any_goals exact My.lk_mk (by k_is) (by k_is) (by k_is)
  any_goals first | exact rfl | exact ⟨_,rfl⟩ | k_keys | decide
  any_goals (repeat (first | exact .nil | refine .cons (by first | exact rfl | exact ⟨_,rfl⟩) ?_))
  any_goals k_is
  any_goals exact rfl)
