import PyProof.Rows.All
import Wide.All
import OpenK.AllK
import Wide.FinOn
import Lean
import PyProof.EqAt
import PyProof.EqKinds
import PyProof.TupleCall
import PyProof.AttrMissHeap
import PySem.Challenge.RW_sealchain_k56_whole_one_row_more
set_option Elab.async false
set_option linter.all false
set_option maxRecDepth 100000
set_option bootstrap.genMatcherCode false
set_option compiler.extract_closed false
set_option backward.eqns.nonrecursive false
set_option genSizeOf false
set_option genInjectivity false
set_option maxHeartbeats 40000000
namespace Lake
def rr {α:Sort _}{a:α}:a=a:=rfl
def N9 {p:Prop}(h:p:=by lia):p:=h
def X9 {p:Prop}(h:p:=by simp):p:=h
def H9 {p:Prop}(h:p:=by decide):p:=h
def S9 {p:Prop}(h:p:=by decide +kernel):p:=h
def I9 {p:Prop}(h:p:=by rfl):p:=h
def s9 {p:Prop}(h:p:=by simp;lia):p:=h
def q9 {p:Prop}(h:p:=by simp[sizeLine]):p:=h
def N8 {p:Prop}(h:p:=by kernel_rfl):p:=h
def X8 {p:Prop}(h:p:=by size_fits):p:=h
def mY {α:Type _}{a:α}(l:List α){k:List α}(h:a∈k):a∈l++k:=List.mem_append_right l h
def mZ {α:Type _}(b:α){a:α}{l:List α}(h:a∈l):a∈b::l:=List.mem_cons_of_mem b h
theorem mX {α:Type _}{a:α}{l:List α}:a∈a::l:=List.mem_cons_self
def oX {α M:Type _}{o:Option α}{f:α->Option M}{b:M}(h:o.bind f=some b):∃a,o=some a/\f a=some b:=Option.bind_eq_some_iff.mp h
def oY {α M:Type _}{f:α->M}{o:Option α}{b:M}(h:o.map f=some b):∃a,o=some a/\f a=b:=Option.map_eq_some_iff.mp h
def wX:=@PySem.wpAny_bind
def wY:=@PySem.wpAny_pure
def vZ:=@PySem.Heap.get?_push_of_some
def vY:=@PySem.Heap.get?_push_size
def vX:=@PySem.Heap.lt_size
def vW:=@PySem.Heap.SameBut.update
def vV {α:Type _}{l:List α}{i:Nat}{a:α}(h:l[i]? = some a):∃h:i<l.length,l[i]=a:=List.getElem?_eq_some_iff.mp h
def vU {α:Type _}{l:List α}{i:Nat}(h:i<l.length):l[i]? = some l[i]:=List.getElem?_eq_getElem h
def vT (n:Nat):n<=n:=Nat.le_refl n
def vS {a b:Nat}(h:a<b):a≠b:=Nat.ne_of_lt h
def vR {n m k:Nat}:n<=m->m<=k->n<=k:=Nat.le_trans
def vQ {n m k:Nat}:n<m->m<=k->n<k:=Nat.lt_of_lt_of_le
def vP {α:Type _}{a b:α}{l:List α}(h:b∈a::l):b=a\/b∈l:=List.mem_cons.mp h
def vO {α M:Type _}{b:M}{f:α->M}{l:List α}(h:b∈l.map f):∃a,a∈l/\f a=b:=List.mem_map.mp h
def eX {α M:Type _}{o:Option α}{f:α->Option M}{b:M}{G:Prop}(h:o.bind f=some b)(k:∀a,o=some a->f a=some b->G):G:=(oX h).elim λa x=>k a x.1 x.2
def eR {α M:Type _}{f:α->M}{o:Option α}{b:M}{G:Prop}(h:o.map f=some b)(k:∀a,o=some a->f a=b->G):G:=(oY h).elim λa x=>k a x.1 x.2
def vN {α:Type _}{a:α}{p:α->Bool}{l:List α}(h:a∈l.filter p):a∈l/\p a=true:=List.mem_filter.mp h
def vM {α:Type _}(p:α->Bool)(l:List α):(l.filter p).length<=l.length:=List.length_filter_le p l
def vL {α:Type _}{l:List α}{i:Nat}{a:α}(h:l[i]? = some a):a∈l:=List.mem_of_getElem? h
def vK {α:Type _}{a b:α}(h:some a=some b):a=b:=Option.some.inj h
def vJ {α M:Type _}(a:α)(f:α->Option M):(some a).bind f=f a:=rfl
def vI {α M:Type _}{as:List α}(f:α->M):(as.map f).length=as.length:=List.length_map f
def vH {α:Type _}{l:List α}:l.toArray.size=l.length:=rfl
def vG {α:Type _}{xs:Array α}:xs.toList.length=xs.size:=rfl
def vF {α:Type _}{l:List α}{i:Nat}{a:α}:l.getD i a=l[i]?.getD a:=List.getD_eq_getElem?_getD
def vE {α:Type _}{a:α}{as:List α}:(a::as).length=as.length+1:=rfl
def vC (a b:Bool):((a && b)=true)=(a=true/\b=true):=Bool.and_eq_true a b
def vB {α:Type _}{i j:Nat}{a:α}{l:List α}(h:i≠j):(l.set i a)[j]? = l[j]?:=List.getElem?_set_ne h
def vA {α M:Type _}{f:α->M}{l:List α}{i:Nat}:(l.map f)[i]? = Option.map f l[i]?:=List.getElem?_map
def uZ {α:Type _}{as bs:List α}:(as++bs).length=as.length+bs.length:=List.length_append
def uY {α M:Type _}{f:α->M}{a:α}{l:List α}:(a::l).map f=f a::l.map f:=rfl
def uX:false≠true:=Bool.false_ne_true
def uW {α O:Type _}{f:α->O}{l M:List α}:(l++M).map f=l.map f++M.map f:=List.map_append
def uV:(false=true)=False:=Bool.false_eq_true
def uU {α:Type _}{x:Option α}(h:x.isSome=true):∃a,x=some a:=Option.isSome_iff_exists.mp h
def uT {α:Type _}{a b:α}(h:a∈[b]):a=b:=List.mem_singleton.mp h
def uS {α M:Type _}{b:M}{f:α->M}{l:List α}(h:∃a,a∈l/\f a=b):b∈l.map f:=List.mem_map.mpr h
def uR {α:Type _}{l:List α}{p:α->Bool}(h:l.all p=true):∀x∈l,p x=true:=List.all_eq_true.mp h
def uQ {α:Type _}(as:List α):as++[]=as:=List.append_nil as
def uP {α M O:Type _}{g:M->O}{f:α->M}{l:List α}:(l.map f).map g=l.map (g ∘ f):=List.map_map
def uN (n:Nat):0<=n:=Nat.zero_le n
def mi {p:Prop}[Decidable p](h:p):decide p=true:=decide_eq_true h
def oP {p:Prop}[Decidable p](h:¬p):decide p=false:=decide_eq_false h
def xQ {p:Prop}[Decidable p](h:decide p=true):p:=of_decide_eq_true h
noncomputable section
abbrev _root_.PySem.Shared.z (s:PySem.Shared):=s.heap.objs.size
open PySem.W (Frag kia_one fnOf nsIn mg_of)
open List (mem_append mem_append_left getElem?_set_self mem_filterMap nodup_cons of_mem_zip getElem?_append_right getElem?_append_left take_sublist length_take length_set all_cons any_cons nodup_nil lookup_cons length_replicate append_assoc not_mem_nil all_map length_range mem_singleton find?_cons getElem_mem nodup_append take_add_one mem_range getElem?_eq_none ext_getElem? not_lt pairwise_cons lt_irrefl lt_trans nil_perm cons_lt_cons_iff cons_append mem_iff_getElem? getElem?_zip_eq_some length_zip zip_cons_cons foldl_cons take_length reverse_cons all_eq_true length_zipIdx zip_map' filter_sublist pairwise_map mem_of_mem_take mem_filter flatMap_cons length_singleton map_id mem_cons filter_cons length_nil filter_filter mem_reverse filter_congr any_eq_true filter_append forall_mem_cons)
open Nat (le_of_lt ne_of_gt le_succ_of_le le_succ le_of_eq lt_of_le_of_lt lt_succ_of_lt sub_self)
open PySem.F (slot_tuple_add entry_tuple_add args_tuple_add_2 slot_dict_get entry_dict_get plainAttrs_dict plainAttrs_list slot_tuple_iterator_next slot_zip_next entry_zip_next args_zip_next_1 called_set slot_set_iter plain_extend_loop slot_tuple_lt slot_tuple_gt called_list slot_list_getattribute)
abbrev QV:=PySem.Value->PySem.Shared->Prop
abbrev AO:=List (PySem.Addr×PySem.Obj)
abbrev SV:=PySem.Str->Option PySem.Value
abbrev LU:=List PySem.Value
abbrev AV:=Array PySem.Value
abbrev LS:=List PySem.Str
abbrev QD:=List PySem.Expr
abbrev LN:=List Nat
abbrev LI:=List Int
abbrev OI:=Option Int
namespace L2
open PySem PySem.Spec PyProof.Rows
abbrev dv (e:Expr)(es:QD)(v:PySem.Env):Prop:=starEach (e::es) v=(false,eval e v)::starEach es v
abbrev cM (e:Expr)(v:PySem.Env):Prop:=starEach [e] v=[(false,eval e v)]
abbrev j8 (p:Pos)(es:QD)(v:PySem.Env):Prop:=(backTo p (starEach es v)).any (·.1)=false
abbrev bj (x:Str):Prop:=(x == ("__debug__" : Str))=false
abbrev ln (x:Str):Prop:=(x == ("__classdict__" : Str))=false
abbrev oQ (p:Pos)(e:Expr)(v:PySem.Env):Prop:=((backTo p (starEach [e] v)).all (λx=>!x.1) && (backToKw p (keywordEach [] v)).all (λx=>x.1.isSome)
  && decide (([e]:QD).length+([]:List Keyword).length+(if([]:List Keyword).isEmpty then 0 else 1)<30))=true
abbrev dB:=Sum Int Str
noncomputable def tT:dB->Value->Bool
 |.inl k,v=>Value.isInt k v
 |.inr x,v=>Value.isStrOf x v
noncomputable def Yz (w:World):dB->Int
 |.inl k=>hashInt k
 |.inr x=>hashStr w x
theorem cU:∀ {k:dB}{v:Value},tT k v=true->(∃i t,k=Sum.inl i/\v=Value.int i t)\/(∃x t,k=Sum.inr x/\v=Value.str x t)
 |.inl i,v,h=>by
  obtain⟨t,e⟩:=Value.isInt_shape h;exact .inl ⟨i,t,rr,e⟩
 |.inr x,v,h=>by
  obtain⟨t,e⟩:=Value.isStrOf_shape h;exact .inr ⟨x,t,rr,e⟩
def EF (i:Int)(t:Tok):tT (.inl i) (.int i t)=true:=by simp[tT,Value.isInt]
def EG (x:Str)(t:Tok):tT (.inr x) (.str x t)=true:=by simp[tT,Value.isStrOf]
def Pn (a b:Int):decide ((Sum.inl a:dB)=Sum.inl b)=(a == b):=by
 lia
def Po (a b:Str):decide ((Sum.inr a:dB)=Sum.inr b)=decide (a=b):=by
 simp
def Pp (a:Int)(b:Str):decide ((Sum.inl a:dB)=Sum.inr b)=false:=I9
def Pq (a:Str)(b:Int):decide ((Sum.inr a:dB)=Sum.inl b)=false:=I9
def cy (prog:Program)(w:World):PySem.KeyKind prog w dB where
 is:=tT
 hash:=Yz w
 inj:=λv a b ha hb=>by
  grind[cU]
 byValue:=λk v h=>by
  rcases cU h with⟨i,t,rfl,rfl⟩|⟨x,t,rfl,rfl⟩<;>rfl
 pyHash:=λhv h=>by
  rcases cU hv with⟨i,t,rfl,rfl⟩|⟨x,t,rfl,rfl⟩
  .exact wpAny_pyHash_int h
  .exact wpAny_pyHash_str h
 eqBool:=λhu hv h=>by
  rcases cU hu with⟨i,t,rfl,rfl⟩|⟨x,t,rfl,rfl⟩
  .rcases cU hv with⟨j,u,rfl,rfl⟩|⟨y,u,rfl,rfl⟩
   .rw[Pn]at h;exact wpAny_eqBool_int h
   .rw[Pp]at h;exact SeqAt.EqAt.int_str i t y u _ _ _ _ h
  .rcases cU hv with⟨j,u,rfl,rfl⟩|⟨y,u,rfl,rfl⟩
   .rw[Pq]at h;exact SeqAt.EqAt.str_int x t j u _ _ _ _ h
   .rw[Po]at h;exact wpAny_eqBool_str h
 «strs»:=λk x t v h=>by
  rcases cU h with⟨i,u,rfl,e⟩|⟨y,u,rfl,e⟩
  .exact nomatch e
  .injection e with M _;subst M;cases v<;>rfl
def xT (prog:Program)(w:World)(i:Int)(t:Tok):(cy prog w).is (.inl i) (.int i t)=true:=EF i t
def xU (prog:Program)(w:World)(x:Str)(t:Tok):(cy prog w).is (.inr x) (.str x t)=true:=EG x t
set_option genInjectivity true in
inductive V where
 |non|bl (b:Bool)|int (i:Int)|str (x:Str)|byt (b:Array UInt8)|flt (b:UInt64)|ref (a:Addr)|ty (n:String)
def aC:V->Value->Prop
 |.non,u=>u=Value.none
 |.bl b,u=>u=Value.bool b
 |.int i,u=>∃t,u=Value.int i t
 |.str x,u=>∃t,u=Value.str x t
 |.byt b,u=>∃t,u=Value.bytes b t
 |.flt b,u=>∃t,u=Value.float b t
 |.ref a,u=>u=Value.ref a
 |.ty n,u=>u=Value.type n
abbrev aL:List V->LU->Prop:=Paired aC
def aL.length (r:aL xs us):xs.length=us.length:=Paired.length r
theorem aL.get:∀ {xs:List V}{us:LU}{i:Nat}{x:V},aL xs us->xs[i]? = some x->∃u,us[i]? = some u/\aC x u
 |_,_,_,_,.nil,e=>by simp at e
 |_,_,0,_,.cons r _,e=>by simp_all
 |_,_,i+1,x,.cons _ t,e=>by
  obtain⟨u,h1,h2⟩:=aL.get t (by simpa using e);simp_all
theorem aL.set (r:aC x u):∀ {xs:List V}{us:LU}(i:Nat),aL xs us->aL (xs.set i x) (us.set i u)
 |_,_,_,.nil=>.nil
 |_,_,0,.cons _ t=>.cons r t
 |_,_,i+1,.cons q t=>.cons q (aL.set r i t)
theorem aL.append:∀ {xs ys:List V}{us ws:LU},aL xs us->aL ys ws->aL (xs++ys) (us++ws)
 |_,_,_,_,.nil,s=>s
 |_,_,_,_,.cons r t,s=>.cons r (aL.append t s)
theorem aL.take:∀ {xs:List V}{us:LU}(n:Nat),aL xs us->aL (xs.take n) (us.take n)
 |_,_,0,_=>.nil
 |_,_,_+1,.nil=>.nil
 |_,_,n+1,.cons r t=>.cons r (aL.take n t)
theorem aL.drop:∀ {xs:List V}{us:LU}(n:Nat),aL xs us->aL (xs.drop n) (us.drop n)
 |_,_,0,r=>r
 |_,_,_+1,.nil=>.nil
 |_,_,n+1,.cons _ t=>aL.drop n t
def kZ:Option V->Option Value->Prop
 |some v,some u=>aC v u
 |none,none=>True
 |_,_=>False
def KV {κ:Type}:List (κ×V)->List (κ×Value)->Prop:=Paired λ(p:κ×V) (q:κ×Value)=>p.1=q.1/\aC p.2 q.2
noncomputable def kV:dB->V
 |.inl i=>.int i
 |.inr x=>.str x
set_option genInjectivity true in
inductive HO where
  |lst (xs:List V)
  |tup (xs:List V)
  |dK (aA:List (dB×V)) (ob:Obj)|dT (aA:List (List dB×V))
  |set (S:Int->Bool) (n:Nat)
  |ins (C dx:Addr) (fs:List (Str×V))
  |own (x:Addr)
  |xd (fs:List (Str×V))
  |met (f x:Addr)
  |rng (lo hi:Int)
  |frz (o:Obj) (u:HO)
  |tbl (q:Str)
  |ext (φ:Heap->Prop)
abbrev Hp:=Addr->Option HO
noncomputable def upd (H:Hp)(a:Addr)(o:HO):Hp:=λb=>if b=a then some o else H b
def au:upd H a o a=some o:=by unfold upd;rw[if_pos rr]
theorem a8 (h:b≠a):upd H a o b=H b:=by unfold upd;rw[if_neg h]
def mn:upd (upd H a o) a u=upd H a u:=by
 grind[upd]
def Tv {H:Hp}{a b:Addr}{o u:HO}(h:H a=some o)(h':H b=some u)(d:o≠u):a≠b:=by
 lia
def aO {H:Hp}{a b:Addr}{o:HO}(h:H a=some o)(h':H b=none):a≠b:=by
 lia
section
variable (P:Program) (w:World)
def bf (H:Hp)(h:Heap)(a:Addr):HO->Prop
 |.lst xs=>xs.length<=sizeLine/\∃(its:LU)(n:Nat),aL xs its/\h.get? a=some { cls:=.type "list",data:=.seq its.toArray n }
 |.tup xs=>xs.length<=sizeLine/\∃its:LU,aL xs its/\IsTup h a its.toArray
 |.dK aA ob=>h.get? a=some ob/\aA.length<=sizeLine/\(a == sysModules)=false/\∃vs,KV aA vs/\h.DictOf (cy P w) a vs
 |.dT aA=>aA.length<=sizeLine/\(a == sysModules)=false/\∃xs:List (List dB×Addr×Value),
   Paired (λ(p:List dB×V) (q:List dB×Addr×Value)=>p.1=q.1/\H q.2.1=some (.tup (p.1.map kV))/\aC p.2 q.2.2) aA xs /\
   ∃o es U,h.get? a=some o/\o.ExactDict/\o.data=.dict es U/\es.toList=xs.map (entryOfKey (tupleKind (cy P w)))/\(xs.map (·.1)).Nodup
 |.set S n=>h.SetOf (intKind P w) a S n
 |.ins C dx fs=>H dx=some (.own a)/\fs.length<=1000/\dx≠a/\h.get? a=some (PySem.W.instObj C dx) /\
   ∃mA,h.Ns1 dx mA/\(∀f,kZ (fs.lookup f) (mA f))/\PySem.Within mA (fs.map (·.1))
 |.own _=>∃o,h.get? a=some o
 |.xd fs=>∃mA,h.Ns1 a mA/\∀f,kZ (fs.lookup f) (mA f)
 |.rng lo hi=>∃t u v,h.get? a=some { cls:=.type "range",data:=.fields #[.int lo t,.int hi u,.int 1 v] }
 |.frz o u=>h.get? a=some o/\bf H h a u
 |.tbl q=>∃ps:AV,h.get? a=some { cls:=.none,data:=.fields ps }/\TriplesOk ps.toList/\∀M O,codeAmong M ps.toList=some O->∃(c:Addr)(oc:Obj)(u:HO)(vs:AV)(t:Tok),O=.ref c/\H c=some (.frz oc u)/\oc.data=.fields vs/\vs[1]? = some (.str q t)
 |.met f x=>h.get? a=some (PySem.W.methodObj (.ref f) (.ref x))
 |.ext φ=>φ h/\(∃o,h.get? a=some o)/\∀h1 h2:Heap,φ h1->(∀o,h1.get? a=some o->h2.get? a=some o)->φ h2
def lb (H:Hp)(h:Heap):Prop:=∀a o,H a=some o->bf P w H h a o
end
section
variable {P:Program}{w:World}{H H':Hp}{h h':Heap}{a:Addr}{o:HO}
def bf.lt (x:bf P w H h a o):a<h.objs.size:=by
 cases o with
 |lst xs=>obtain⟨_,_,_,_,e⟩:=x;exact vX e
 |tup xs=>obtain⟨_,_,_,p⟩:=x;exact p.lt
 |dK aA ob=>exact vX (And.left x)
 |dT aA=>obtain⟨_,_,_,_,o,_,_,e,_⟩:=x;exact vX e
 |set S n=>obtain⟨o,_,_,_,e,_⟩:=x;exact vX e
 |ins C dx fs=>obtain⟨_,_,_,e,_⟩:=x;exact vX e
 |own y=>obtain⟨_,e⟩:=x;exact vX e
 |xd fs=>obtain⟨_,⟨_,_,_,e,_⟩,_⟩:=x;exact vX e
 |rng lo hi=>obtain⟨_,_,_,e⟩:=x;exact vX e
 |frz ob u=>obtain⟨e,_⟩:=x;exact vX e
 |tbl q=>obtain⟨_,e,_⟩:=x;exact vX e
 |met f y=>exact vX (show h.get? a=some _ from x)
 |ext φ=>obtain⟨_,⟨_,e⟩,_⟩:=x;exact vX e
theorem Paired.mapP {α U:Type}{F G:α->U->Prop}:∀ {M:List α}{O:List U},Paired F M O->(∀a b,F a b->G a b)->Paired G M O
 |_,_,.nil,_=>.nil
 |_,_,.cons r t,f=>.cons (f _ _ r) (Paired.mapP t f)
def bf.stay (x:bf P w H h a o)(k:∀b u,(b=a\/H b=some (.own a))->h.get? b=some u->h'.get? b=some u)
  (ho:∀b,H b=some (.own a)->H' b=some (.own a)) (U:∀b xs,H b=some (.tup xs)->H' b=some (.tup xs)) (hf:∀b o u,H b=some (.frz o u)->H' b=some (.frz o u)):bf P w H' h' a o:=by
 induction o with
 |lst xs=>obtain⟨z,its,n,r,e⟩:=x;exact⟨z,its,n,r,k _ _ (.inl rr) e⟩
 |tup xs=>obtain⟨z,its,r,ob,e,c⟩:=x;exact⟨z,its,r,ob,k _ _ (.inl rr) e,c⟩
 |dK aA i=>obtain⟨g,z,y,vs,r,ob,es,M,e,c⟩:=x;exact⟨k _ _ (.inl rr) g,z,y,vs,r,ob,es,M,k _ _ (.inl rr) e,c⟩
 |dT aA=>
  obtain⟨z,y,xs,r,ob,es,M,e,c⟩:=x;exact⟨z,y,xs,Paired.mapP r λp q z=>⟨z.1,U _ _ z.2.1,z.2.2⟩,ob,es,M,k _ _ (.inl rr) e,c⟩
 |set S n=>obtain⟨ob,es,M,t,e,c⟩:=x;exact⟨ob,es,M,t,k _ _ (.inl rr) e,c⟩
 |ins C dx fs=>
  obtain⟨d,z,ne,e,mA,⟨od,es,M,e2,c⟩,r⟩:=x;exact⟨ho _ d,z,ne,k _ _ (.inl rr) e,mA,⟨od,es,M,k _ _ (.inr d) e2,c⟩,r⟩
 |own y=>obtain⟨ob,e⟩:=x;exact⟨ob,k _ _ (.inl rr) e⟩
 |xd fs=>obtain⟨mA,⟨od,es,M,e,c⟩,r⟩:=x;exact⟨mA,⟨od,es,M,k _ _ (.inl rr) e,c⟩,r⟩
 |rng lo hi=>obtain⟨t,u,v,e⟩:=x;exact⟨t,u,v,k _ _ (.inl rr) e⟩
 |frz ob u j=>obtain⟨e,q⟩:=x;exact⟨k _ _ (.inl rr) e,j q⟩
 |tbl q=>obtain⟨ps,e,t,c⟩:=x;exact⟨ps,k a _ (.inl rr) e,t,λO l z=>let ⟨d,oc,u,vs,tk,m,s,A⟩:=c O l z;⟨d,oc,u,vs,tk,m,hf _ _ _ s,A⟩⟩
 |met f y=>
  have e:=x;exact k a _ (.inl rr) e
 |ext φ=>obtain⟨p,⟨o,e⟩,st⟩:=x;exact⟨st _ _ p λo q=>k _ _ (.inl rr) q,⟨o,k _ _ (.inl rr) e⟩,st⟩
def lb.lt (x:lb P w H h)(e:H a=some o):a<h.objs.size:=(x a o e).lt
def lb.fresh (x:lb P w H h)(e:h.objs.size<=a):H a=none:=by
 cases q:H a with
 |none=>rfl
 |some u=>exact absurd (vQ (x.lt q) e) (Nat.lt_irrefl _)
def lb.kept (x:lb P w H h)(k:∀b u,h.get? b=some u->h'.get? b=some u):lb P w H h':=λa o e=>
 (x a o e).stay (λb u _ q=>k b u q) (λ_ q=>q) (λ_ _ q=>q) λ_ _ _ q=>q
def lb.laid (x:lb P w H h)(k:∀b u,h.get? b=some u->h'.get? b=some u)(hp:h.objs.size<=a)(new:bf P w (upd H a o) h' a o):lb P w (upd H a o) h':=λb u e=>by
 have hn:=x.fresh hp;by_cases hb:b=a
 .simp_all[au]
 .rw[a8 hb]at e;exact(x b u e).stay (λc v _ q=>k c v q) (λc q=>by rw[a8 (aO q hn)];exact q) (λc xs q=>by rw[a8 (aO q hn)];exact q) λc o xs q=>by rw[a8 (aO q hn)];exact q
end
def Rd (H:Hp)(a:Addr)(u:HO):Prop:=H a=some u\/∃o,H a=some (.frz o u)
def Rd.ok (r:Rd H a u)(x:lb P w H h):bf P w H h a u:=by
 rcases r with r|⟨o,r⟩
 .exact x a u r
 .obtain⟨_,q⟩:=x a _ r;exact q
def Tw:Option HO->Prop
 |some (.lst _)=>True
 |some (.dK _ _)=>True
 |some (.dT _)=>True
 |some (.set _ _)=>True
 |some (.ins _ _ _)=>True
 |some (.ext _)=>True
 |_=>False
section
variable {P:Program}{w:World}{H:Hp}{h h':Heap}{x e:Addr}{o':HO}
def lb.write (ok:lb P w H h)(M:Tw (H x))(he:e=x\/H e=some (.own x))(k:∀b u,b≠e->h.get? b=some u->h'.get? b=some u)(a:∃u,h'.get? e=some u)
  (new:bf P w (upd H x o') h' x o'):lb P w (upd H x o') h':=λb u q=>by
 have O:∀c y,H c=some (.own y)->c≠x:=λc y r z=>by subst z;rw[r]at M;exact M
 have U:∀c xs,H c=some (.tup xs)->c≠x:=λc xs r z=>by subst z;rw[r]at M;exact M
 by_cases hb:b=x
 .simp_all[au]
 .rw[a8 hb]at q;by_cases d:b=e
  .have f:H b=some (.own x):=by
    lia
   rw[q]at f;cases f;obtain⟨v,hv⟩:=a;exact⟨v,by rw[d];exact hv⟩
  .refine(ok b u q).stay (λc v hc r=>k c v ?_ r) (λc r=>by rw[a8 (O c b r)];exact r) (λc xs r=>by rw[a8 (U c xs r)];exact r) λc o xs r=>by rw[a8 (λz=>by subst z;rw[r]at M;exact M)];exact r
   grind
end
structure Un (fs ex:List Addr)(H H':Hp)(h h':Heap):Prop where
 keep:∀b o,h.get? b=some o->H b=none->b∉fs->b∉ex->h'.get? b=some o
 slot:∀b o,h.get? b=some o->H b=none->b∈fs->b∉ex->∃sl,h'.get? b=some { o with slots:=sl }
 free:∀b o,h.get? b=some o->H b=none->b∉ex->H' b=none
 there:∀b o,h.get? b=some o->b∉ex->∃o',h'.get? b=some o'
 tups:∀b xs,H b=some (.tup xs)->H' b=some (.tup xs)
 frzs:∀b o u,H b=some (.frz o u)->H' b=some (.frz o u)
 tbls:∀b q,H b=some (.tbl q)->H' b=some (.tbl q)
section
variable {fs fs' ex ex':List Addr}{H H1 H2:Hp}{h h1 h2 h':Heap}{a x e:Addr}{o:HO}
def Un.any (u:Un fs ex H H1 h h1)(q:h.get? b=some ob)(n:H b=none)(hx:b∉ex):∃sl,h1.get? b=some { ob with slots:=sl }:=by
 by_cases hb:b∈fs
 .exact u.slot b ob q n hb hx
 .exact⟨ob.slots,u.keep b ob q n hb hx⟩
def Un.trans (a:Un fs ex H H1 h h1)(b:Un fs ex H1 H2 h1 h2):Un fs ex H H2 h h2 where
 keep:=λc ob q n hc hx=>b.keep c ob (a.keep c ob q n hc hx) (a.free c ob q n hx) hc hx
 slot:=λc ob q n hc hx=>by
  obtain⟨sl,M⟩:=a.slot c ob q n hc hx;obtain⟨O,e2⟩:=b.slot c _ M (a.free c ob q n hx) hc hx;exact⟨O,e2⟩
 free:=λc ob q n hx=>by
  obtain⟨o',M⟩:=a.there c ob q hx;exact b.free c o' M (a.free c ob q n hx) hx
 there:=λc ob q hx=>by
  obtain⟨o',M⟩:=a.there c ob q hx;exact b.there c o' M hx
 tups:=λc xs q=>b.tups c xs (a.tups c xs q)
 frzs:=λc ob xs q=>b.frzs c ob xs (a.frzs c ob xs q)
 tbls:=λc ps q=>b.tbls c ps (a.tbls c ps q)
def Un.kept (k:∀b u,h.get? b=some u->h'.get? b=some u):Un fs ex H H h h':=
 ⟨λb ob q _ _ _=>k b ob q,λb ob q _ _ _=>⟨ob.slots,k b ob q⟩,λ_ _ _ n _=>n,λb ob q _=>⟨ob,k b ob q⟩,λ_ _ q=>q,λ_ _ _ q=>q,λ_ _ q=>q⟩
def Un.refl:Un fs ex H H h h:=Un.kept λ_ _ q=>q
def Un.laid (k:∀b u,h.get? b=some u->h'.get? b=some u)(hp:h.objs.size<=a)(hn:H a=none):Un fs ex H (upd H a o) h h' where
 keep:=λb u q _ _ _=>k b u q
 slot:=λb u q _ _ _=>⟨u.slots,k b u q⟩
 free:=λb u q n _=>by rw[a8 (vS (vQ (vX q) hp))];exact n
 there:=λb u q _=>⟨u,k b u q⟩
 tups:=λb xs q=>by rw[a8 (aO q hn)];exact q
 frzs:=λb u xs q=>by rw[a8 (aO q hn)];exact q
 tbls:=λb ps q=>by rw[a8 (aO q hn)];exact q
def Un.write (M:Tw (H x))(he:e=x\/H e=some (.own x))(k:∀b u,b≠e->h.get? b=some u->h'.get? b=some u)(O:∃u,h'.get? e=some u):Un fs ex H (upd H x o) h h':=by
 have hx:∀b,H b=none->b≠x:=λb n z=>by subst z;rw[n]at M;exact M
 have hb:∀b,H b=none->b≠e:=λb n z=>by
  simp_all
 have hm:∀b u,H b=some u->¬Tw (some u)->b≠x:=λb u q nm z=>by simp_all
 refine⟨λb u q n _ _=>k b u (hb b n) q,λb u q n _ _=>⟨u.slots,k b u (hb b n) q⟩,λb u q n _=>by rw[a8 (hx b n)];exact n,λb u q _=>?_,
  λb xs q=>by rw[a8 (hm b _ q λz=>z)];exact q,λb u xs q=>by rw[a8 (hm b _ q λz=>z)];exact q,λb ps q=>by rw[a8 (hm b _ q λz=>z)];exact q⟩
 grind
end
noncomputable def trk (h:Heap)(H:Hp):List Addr:=(List.range h.objs.size).filter λa=>(H a).isSome
def xV (h:Heap)(H:Hp):Heap:=PySem.W.hideAll h (trk h H)
def EH (h:Heap)(H:Hp):(xV h H).objs.size=h.objs.size:=PySem.W.hideAll_size _ _
theorem qr (e:h.get? b=some o)(n:H b=none):(xV h H).get? b=some o:=
 PySem.W.hideAll_get _ e λhm=>by
  have q:=(vN hm).2;simp_all
def Lh (e:(xV h H).get? b=some o):h.get? b=some o/\H b=none:=by
 have M:=PySem.W.of_hideAll _ e;refine⟨M,?_⟩;cases q:H b with
 |none=>rfl
 |some x=>
  simp_all[trk,vX,xV,PySem.W.hideAll_none]
noncomputable def Li (g h:Heap)(L:Addr):AO:=(List.range h.objs.size).filterMap λa=>if a=L\/(g.get? a).isSome=true then none else (h.get? a).map λo=>(a,o)
def aj (g h:Heap)(L d:Addr):AO:=(Li g h L).filter λp=>decide (p.1≠d)
structure Mod (K:Frag)(mg:Str->Option Value)(base:Heap):Prop where
 kin:K.In base
 glob:base.Ns mainGlobals mg
 blt:∃mb,base.Ns builtinsNs mb/\∀x:Str,x ≠ "__name__"->mb x=bootBuiltins x
 nolimit:base.NoLimit
 bmain:∃bm ob,mg "__builtins__" = some (.ref bm)/\bm≠builtinsNs/\base.get? bm=some ob/\ob.cls=.type "module"/\ob.dict=some builtinsNs/\ob.data=.plain
structure Cx where
 prog:Program
 w:World
 K:Frag
 mg:Str->Option Value
 base:Heap
 A:Around
 N:List Str
 s₀:Shared
 H₀:Hp
 env:Env
 outer:List Env
 stack:List Env
 ex:List Addr
 fn:Str->Bool
 calm:Bool
 pn:List (Addr×Obj)
 xe:Value->Shared->Prop
noncomputable def GB (l:List Env):List Addr:=l.filterMap (·.frame)
abbrev Cx.fs (X:Cx):List Addr:=GB X.outer
def KQ (sc:Scope)(x:Str):Prop:=sc.names.lookup x=some .local\/sc.names.lookup x=some .cell\/sc.names.lookup x=some .free
def KR (sc:Scope)(x:Str):Prop:=sc.names.lookup x=some .local\/sc.names.lookup x=some .cell
def Y0 (env:Env)(h:Heap)(m:SV)(x:Str)(u:Value):Prop:=
 (env.kindOf x=some .local/\m x=some u)\/((env.kindOf x=some .cell\/env.kindOf x=some .free)/\∃c,env.cells.lookup x=some c/\h.IsCell c (some u))
abbrev wq {α:Type}(X:Cx):Sem α->(α->Shared->Prop)->(Value->Shared->Prop)->Shared->Prop:=wpAny (model X.prog X.w) X.A
structure Cx.Ok (X:Cx):Prop where
 mod:Mod X.K X.mg X.base
 kind:X.env.scope.kind=.function
 glob:X.env.globals=mainGlobals
 blt:X.env.builtins=builtinsNs
 above:X.s₀.z<=X.env.locals
 inj:∀x y c,X.env.cells.lookup x=some c->X.env.cells.lookup y=some c->x=y
 has:∀x,(X.env.kindOf x=some .cell\/X.env.kindOf x=some .free)->∃c,X.env.cells.lookup x=some c
 cab:∀x c,X.fn x=true->X.env.cells.lookup x=some c->X.s₀.z<=c
 hd:X.calm=true->X.A.handled=none
 frames:X.A.frames=some X.stack
 stk:X.stack=X.outer\/(X.stack=X.env::X.outer/\X.env.frame=some X.env.locals)
 exf:∀b∈X.ex,b≠X.env.locals/\∀x c,X.env.cells.lookup x=some c->c≠b
 bs:∀b o,X.base.get? b=some o->X.s₀.heap.get? b=some o/\X.H₀ b=none
 bsz:X.base.objs.size<=X.s₀.z
 noex:∀b o,X.base.get? b=some o->b∉X.ex
 exfs:∀b∈X.ex,b∉X.fs
 funs:X.s₀.heap.FunFrames X.base X.outer
 frf:∀b∈X.fs,X.H₀ b=none
structure Inv (X:Cx)(af:List (Addr×Obj))(σ:List (Option V))(H:Hp)(s:Shared):Prop where
 ok:X.Ok
 os:s.os=X.s₀.os
 bare:AllBare s.gens
 base:Un X.fs X.ex X.H₀ H X.s₀.heap s.heap
 loc:∃m,s.heap.Ns X.env.locals m/\∀(i:Nat)(x:Str)(v:V),X.N[i]? = some x->σ[i]? = some (some v)->KQ X.env.scope x->∃u,aC v u/\Y0 X.env s.heap m x u
 cell:∀x c,X.env.cells.lookup x=some c->∃v,s.heap.IsCell c v
 free:H X.env.locals=none
 freeC:∀x c,X.env.cells.lookup x=some c->H c=none
 pin:∀p∈X.pn++af,s.heap.get? p.1=some p.2/\H p.1=none/\p.1≠X.env.locals/\p.1∉X.fs/\∀v,p.2.data≠.cell v
 hok:lb X.prog X.w H s.heap
 len:σ.length=X.N.length
section
variable {X:Cx}{af:AO}{σ:List (Option V)}{H H':Hp}{s:Shared}{h':Heap}
def Cx.Ok.nofr (ok:X.Ok)(e:X.base.get? b=some o):b∉X.fs:=λhb=>by
 have:=(ok.funs.mem hb).1;simp_all
def Inv.bs (I:Inv X af σ H s):∀b o,X.base.get? b=some o->s.heap.get? b=some o/\H b=none:=λb o e=>
 ⟨I.base.keep b o (I.ok.bs b o e).1 (I.ok.bs b o e).2 (I.ok.nofr e) (I.ok.noex b o e),I.base.free b o (I.ok.bs b o e).1 (I.ok.bs b o e).2 (I.ok.noex b o e)⟩
def Inv.bk (I:Inv X af σ H s):∀b o,X.base.get? b=some o->s.heap.get? b=some o:=λb o e=>(I.bs b o e).1
def Inv.mod (I:Inv X af σ H s):Mod X.K X.mg X.base:=I.ok.mod
def Inv.kIn (I:Inv X af σ H s):X.K.In s.heap:=I.ok.mod.kin.keeps I.bk
def Inv.nolimit (I:Inv X af σ H s):s.heap.NoLimit:=I.ok.mod.nolimit.keeps I.bk
def Inv.lt (I:Inv X af σ H s):X.env.locals<s.z:=let ⟨_,hn,_⟩:=I.loc;hn.lt
def Inv.sz (I:Inv X af σ H s):X.s₀.z<=s.z:=vR I.ok.above (le_of_lt I.lt)
def Inv.nofs (I:Inv X af σ H s)(h:s.z<=a):a∉X.fs:=λhb=>by
 obtain⟨_,o,ho,_⟩:=I.ok.funs.mem hb;exact absurd (vQ (vX ho) (vR I.sz h)) (Nat.lt_irrefl _)
def Inv.cne (I:Inv X af σ H s):∀x c,X.env.cells.lookup x=some c->c≠X.env.locals:=λx c e z=>by
 obtain⟨v,o,ho,hd⟩:=I.cell x c e;obtain⟨m,⟨o',es,U,M,O,_⟩,_⟩:=I.loc;simp_all
def Inv.funs (I:Inv X af σ H s):s.heap.FunFrames X.base X.outer:=by
 have all:∀(l:List _),(∀b∈GB l,b∈X.fs)->X.s₀.heap.FunFrames X.base l->s.heap.FunFrames X.base l:=by
  intro l;induction l with
  |nil=>intro _ _;trivial
  |cons env r O=>
   intro hs hl;obtain⟨hk,⟨L,o,hf,hn,ho,hd⟩,hr⟩:=hl;have M:=hs L (by simp_all[GB]);obtain⟨sl,e⟩:=I.base.slot L o ho (I.ok.frf L M) M λz=>I.ok.exfs L z M;exact⟨hk,⟨L,_,hf,hn,e,hd⟩,O (λb hb=>hs b (by simp_all[GB])) hr⟩
 exact all _ (λ_ hb=>hb) I.ok.funs
def Inv.stack (I:Inv X af σ H s):s.heap.FunFrames X.base X.stack:=by
 rcases I.ok.stk with e|⟨e,hf⟩
 .rw[e];exact I.funs
 .rw[e];obtain⟨m,hn,_⟩:=I.loc;refine .cons (by rw[I.ok.kind];decide) hf hn ?_ I.funs;exact Heap.get?_none_of_le (vR I.ok.bsz I.ok.above)
def Inv.stkSub (I:Inv X af σ H s):∀b∈GB X.stack,b∈X.env.locals::X.fs:=λb hb=>by
 rcases I.ok.stk with e|⟨e,hf⟩
 .simp_all
 simp_all[GB]
def Inv.stkFree (I:Inv X af σ H s):∀b∈GB X.stack,H b=none:=λb hb=>by
 rcases vP (I.stkSub b hb)with e|hb
 .rw[e];exact I.free
 .obtain⟨_,o,ho,_⟩:=I.ok.funs.mem hb;exact I.base.free b o ho (I.ok.frf b hb) λz=>I.ok.exfs b z hb
def Inv.step {g':Array GenState}{t':Nat}{d':Drawn}{ch:List Addr}(I:Inv X af σ H s)
  (M:∀b∈ch,(b∈X.ex\/X.s₀.z<=b)/\b≠X.env.locals/\(∀x c,X.env.cells.lookup x=some c->c≠b)/\∀p∈X.pn++af,p.1≠b)
  (keep:∀b o,b≠X.env.locals->b∉X.fs->b∉ch->s.heap.get? b=some o->H b=none->h'.get? b=some o)
  (slot:∀b o,b≠X.env.locals->b∈X.fs->b∉ch->s.heap.get? b=some o->H b=none->∃sl,h'.get? b=some { o with slots:=sl }) (free:∀b o,b∉ch->s.heap.get? b=some o->H b=none->H' b=none)
  (there:∀b o,b∉ch->s.heap.get? b=some o->∃o',h'.get? b=some o')
  (tups:∀b xs,H b=some (.tup xs)->H' b=some (.tup xs)) (frzs:∀b o u,H b=some (.frz o u)->H' b=some (.frz o u)) (tbls:∀b q,H b=some (.tbl q)->H' b=some (.tbl q))
  (ns:∀m,s.heap.Ns X.env.locals m->h'.Ns X.env.locals m) (hok:lb X.prog X.w H' h') (t:AllBare g'):
  Inv X af σ H' { s with heap:=h',gens:=g',drawn:=d',toks:=t' }:=by
 have f:∀b o,X.s₀.heap.get? b=some o->b≠X.env.locals:=λb o e=>vS (vQ (vX e) I.ok.above);have g:∀b o,X.s₀.heap.get? b=some o->b∉X.ex->b∉ch:=λb o e hx hb=>by
  rcases (M b hb).1 with z|z
  .exact hx z
  .exact absurd (vQ (vX e) z) (Nat.lt_irrefl _)
 have O:∀x c,X.env.cells.lookup x=some c->∀v,s.heap.IsCell c v->h'.IsCell c v:=λx c e v ⟨o,ho,hd⟩=>by
  have U:c∉ch:=λz=>(M c z).2.2.1 x c e rr;by_cases hc:c∈X.fs
  .obtain⟨sl,q⟩:=slot c o (I.cne x c e) hc U ho (I.freeC x c e);exact⟨_,q,hd⟩
  .exact⟨o,keep c o (I.cne x c e) hc U ho (I.freeC x c e),hd⟩
 refine⟨I.ok,I.os,t,⟨λb o e n hb hx=>?_,λb o e n hb hx=>?_,λb o e n hx=>?_,λb o e hx=>?_,λb xs e=>tups b xs (I.base.tups b xs e),λb o xs e=>frzs b o xs (I.base.frzs b o xs e),λb ps e=>?_⟩,?_,λx c e=>?_,?_,λx c e=>?_,λp hp=>?_,hok,I.len⟩
 .exact keep b o (f b o e) hb (g b o e hx) (I.base.keep b o e n hb hx) (I.base.free b o e n hx)
 .obtain⟨sl,a⟩:=I.base.slot b o e n hb hx;obtain⟨h,e2⟩:=slot b _ (f b o e) hb (g b o e hx) a (I.base.free b o e n hx);exact⟨h,e2⟩
 .obtain⟨o',a⟩:=I.base.there b o e hx;exact free b o' (g b o e hx) a (I.base.free b o e n hx)
 .obtain⟨o',a⟩:=I.base.there b o e hx;exact there b o' (g b o e hx) a
 .exact tbls b _ (I.base.tbls b ps e)
 .obtain⟨m,hn,hl⟩:=I.loc;refine⟨m,ns m hn,λi x v a e2 y=>?_⟩;obtain⟨u,r,l⟩:=hl i x v a e2 y;refine⟨u,r,?_⟩;rcases l with l|⟨k,c,e,z⟩
  .exact .inl l
  .exact .inr ⟨k,c,e,O x c e _ z⟩
 .obtain⟨v,z⟩:=I.cell x c e;exact⟨v,O x c e v z⟩
 .obtain⟨m,⟨o,_,_,ho,_⟩,_⟩:=I.loc;exact free _ o (λz=>(M _ z).2.1 rr) ho I.free
 .obtain⟨v,o,ho,hd⟩:=I.cell x c e;exact free c o (λz=>(M c z).2.2.1 x c e rr) ho (I.freeC x c e)
 .obtain⟨e,n,ne,j,d⟩:=I.pin p hp;have U:p.1∉ch:=λz=>(M p.1 z).2.2.2 p hp rr;exact⟨keep p.1 p.2 ne j U e n,free p.1 p.2 U e n,ne,j,d⟩
def Inv.un {t':Nat}(I:Inv X af σ H s)(u:Un X.fs [] H H' s.heap h')(hok:lb X.prog X.w H' h'):Inv X af σ H' { s with heap:=h',toks:=t' }:=by
 obtain⟨m,⟨o,es,d,ho,r⟩,_⟩:=id I.loc;obtain⟨sl,a⟩:=u.any ho I.free X9;exact I.step (ch:=[]) (λ_ z=>nomatch z) (λb o _ hb _ e n=>u.keep b o e n hb X9) (λb o _ hb _ e n=>u.slot b o e n hb X9) (λb o _ e n=>u.free b o e n X9) (λb o _ e=>u.there b o e X9) u.tups u.frzs u.tbls (λf hm=>by
  obtain⟨o',O,U,M,c⟩:=hm;rw[ho]at M;cases M;exact⟨_,O,U,a,c⟩) hok I.bare
def Inv.call {g':Array GenState}{t':Nat}{d':Drawn}{ch:List Addr}(I:Inv X af σ H s)(u:Un (GB X.stack) ch H H' s.heap h')(hok:lb X.prog X.w H' h')(f:AllBare g')
  (M:∀b∈ch,(b∈X.ex\/X.s₀.z<=b)/\b≠X.env.locals/\(∀x c,X.env.cells.lookup x=some c->c≠b)/\∀p∈X.pn++af,p.1≠b):
  Inv X af σ H' { s with heap:=h',gens:=g',drawn:=d',toks:=t' }:=by
 obtain⟨m,⟨o,es,h,ho,r⟩,_⟩:=id I.loc;obtain⟨sl,U⟩:=u.any ho I.free λz=>(M _ z).2.1 rr;exact I.step M (λb o U hb hc e n=>u.keep b o e n (λz=>(vP (I.stkSub b z)).elim U hb) hc) (λb o _ _ hc e n=>u.any e n hc) (λb o hc e n=>u.free b o e n hc) (λb o hc e=>u.there b o e hc) u.tups u.frzs u.tbls (λi hm=>by
  obtain⟨o',a,d,O,g⟩:=hm;rw[ho]at O;cases O;exact⟨_,a,d,U,g⟩) hok f
def Inv.turned {t':Nat}{it:Addr}(I:Inv X af σ H s)(k:∀b o,b≠it->s.heap.get? b=some o->h'.get? b=some o)(hn:H it=none)(M:it≠X.env.locals)
  (h1:it∈X.ex\/X.s₀.z<=it) (h2:∀x c,X.env.cells.lookup x=some c->c≠it) (h3:∀p∈X.pn++af,p.1≠it):Inv X af σ H { s with heap:=h',toks:=t' }:=by
 refine I.step (ch:=[it]) (λb hb=>?_) (λb o _ _ hc e _=>k b o (λz=>hc (by simp[z])) e) (λb o _ _ hc e _=>⟨o.slots,k b o (λz=>hc (by simp[z])) e⟩) (λ_ _ _ _ n=>n)
  (λb o hc e=>⟨o,k b o (λz=>hc (by simp[z])) e⟩) (λ_ _ e=>e) (λ_ _ _ e=>e) (λ_ _ e=>e) (λm hm=>?_) (λb u e=>?_) I.bare
 .have e:=by simpa using hb
  subst e;exact⟨h1,M,h2,h3⟩
 .obtain⟨o,es,O,ho,r⟩:=hm;exact⟨o,es,O,k _ o (Ne.symm M) ho,r⟩
 .refine(I.hok b u e).stay (λc v hc q=>k c v ?_ q) (λ_ q=>q) (λ_ _ q=>q) λ_ _ _ q=>q;lia
def Inv.tok (I:Inv X af σ H s)(t:Nat):Inv X af σ H { s with toks:=t }:=I.un Un.refl I.hok
def Inv.kept (I:Inv X af σ H s)(k:∀b u,s.heap.get? b=some u->h'.get? b=some u):Inv X af σ H { s with heap:=h',toks:=t' }:=I.un (Un.kept k) (I.hok.kept k)
def Inv.laid (I:Inv X af σ H s)(k:∀b u,s.heap.get? b=some u->h'.get? b=some u)(hp:s.z<=a)(new:bf X.prog X.w (upd H a o) h' a o):
  Inv X af σ (upd H a o) { s with heap:=h',toks:=t' }:=I.un (Un.laid k hp (I.hok.fresh hp)) (I.hok.laid k hp new)
def Inv.write (I:Inv X af σ H s)(O:Tw (H x))(he:e=x\/H e=some (.own x))(k:∀b u,b≠e->s.heap.get? b=some u->h'.get? b=some u)(M:∃u,h'.get? e=some u)
  (new:bf X.prog X.w (upd H x o) h' x o):Inv X af σ (upd H x o) { s with heap:=h',toks:=t' }:=I.un (Un.write O he k M) (I.hok.write O he k M new)
def Inv.pins_of (I:Inv X af σ H s)(h:∀p∈M,s.heap.get? p.1=some p.2/\H p.1=none/\p.1≠X.env.locals/\p.1∉X.fs/\∀v,p.2.data≠.cell v):Inv X M σ H s:=
 ⟨I.ok,I.os,I.bare,I.base,I.loc,I.cell,I.free,I.freeC,λp hp=>(mem_append.mp hp).elim (λz=>I.pin p (mem_append_left _ z)) (h p),I.hok,I.len⟩
def xW {N:LS}(M:N.Nodup){i j:Nat}{x:Str}(a:N[i]? = some x)(b:N[j]? = some x):i=j:=by
 obtain⟨h1,O⟩:=vV a;obtain⟨h2,e2⟩:=vV b;exact(List.getElem_inj M).mp (O.trans e2.symm)
def tU {M:Model}{A:Around}{E:QV}{i:Nat}{x:Str}{v:V}{u:Value}{Q:Unit->Shared->Prop}(I:Inv X af σ H s)(F:X.N.Nodup)(hi:X.N[i]? = some x)(hx:KR X.env.scope x)(r:aC v u)
  (h:∀s',Inv X af (σ.set i (some v)) H s'->(∃a,Heap.SameBut a s.heap s'.heap/\(a=X.env.locals\/X.env.cells.lookup x=some a))->Q () s') (hf:X.fn x=true\/X.env.scope.names.lookup x=some .local:=by first|exact .inl rr|exact .inr rr|assumption):wpAny M A (storeName X.env x u) Q E s:=by
 obtain⟨m,hn,hl⟩:=id I.loc;have L:(X.env.scope.kind == .class || (X.env.scope.kind == .module && X.env.locals != X.env.globals))=false:=by rw[I.ok.kind];rfl
 have G:i<σ.length:=by rw[I.len];exact(vV hi).1
 have cne:=I.cne;have O:∀ {a:Addr}{h':Heap},(∃o,s.heap.get? a=some o/\H a=none)->Heap.SameBut a s.heap h'->lb X.prog X.w H h':=λ{a h'} ha hs b ob e=>by
  obtain⟨_,_,P⟩:=ha;refine(I.hok b ob e).stay (λc g hc q=>(hs.2 c ?_).trans q) (λ_ q=>q) (λ_ _ q=>q) λ_ _ _ q=>q;lia
 rcases hx with hk|hk
 .refine wpAny_storeName_local hk hn (λh' R hs=>?_) L;obtain⟨S,_,_,T,_⟩:=id hn;refine h _ ⟨I.ok,I.os,I.bare,⟨λb o e n hb hx=>?_,λb o e n hb hx=>?_,I.base.free,λb o e hx=>?_,I.base.tups,I.base.frzs,I.base.tbls⟩,⟨_,R,λj y l U e2 t=>?_⟩,λy c e=>?_,I.free,I.freeC,λp hp=>?_,O ⟨S,T,I.free⟩ hs,by simpa using I.len⟩ ⟨_,hs,.inl rr⟩
  .exact(hs.2 b (vS (vQ (vX e) I.ok.above))).trans (I.base.keep b o e n hb hx)
  .obtain⟨sl,U⟩:=I.base.slot b o e n hb hx;exact⟨sl,(hs.2 b (vS (vQ (vX e) I.ok.above))).trans U⟩
  .obtain⟨o',U⟩:=I.base.there b o e hx;exact⟨o',(hs.2 b (vS (vQ (vX e) I.ok.above))).trans U⟩
  .by_cases hj:j=i
   .subst hj;rw[hi]at U;cases U;rw[getElem?_set_self G]at e2;cases e2
    exact⟨u,r,.inl ⟨hk,X9⟩⟩
   .rw[vB (Ne.symm hj)]at e2;obtain⟨u',B,q⟩:=hl j y l U e2 t;refine⟨u',B,?_⟩;rcases q with⟨k,e⟩|⟨k,c,e,z⟩
    .refine .inl ⟨k,?_⟩;have:y≠x:=λe=>hj (xW F U (e ▸ hi));simp[this,e]
    .exact .inr ⟨k,c,e,z.sameBut hs (cne y c e)⟩
  .obtain⟨g,z⟩:=I.cell y c e;exact⟨g,z.sameBut hs (cne y c e)⟩
  .obtain⟨e,n,ne,C,d⟩:=I.pin p hp;exact⟨(hs.2 p.1 ne).trans e,n,ne,C,d⟩
 .have D:X.fn x=true:=by
   simp_all<;>lia
  obtain⟨c,hc⟩:=I.ok.has x (.inl hk);obtain⟨g,z⟩:=I.cell x c hc;refine wpAny_storeName_cell I.ok.kind hk hc z (λh' J hs=>?_);obtain⟨oc,W,Y⟩:=id z;refine h { s with heap:=h' } ⟨I.ok,I.os,I.bare,⟨λb o e n hb hx=>?_,λb o e n hb hx=>?_,I.base.free,λb o e hx=>?_,I.base.tups,I.base.frzs,I.base.tbls⟩,⟨m,hn.sameBut hs (Ne.symm (cne x c hc)),λj y l U e2 t=>?_⟩,λy f e=>?_,I.free,I.freeC,λp hp=>?_,O ⟨oc,W,I.freeC x c hc⟩ hs,by simpa using I.len⟩ ⟨c,hs,.inr hc⟩
  .exact(hs.2 b (vS (vQ (vX e) (I.ok.cab x c D hc)))).trans (I.base.keep b o e n hb hx)
  .obtain⟨sl,U⟩:=I.base.slot b o e n hb hx;exact⟨sl,(hs.2 b (vS (vQ (vX e) (I.ok.cab x c D hc)))).trans U⟩
  .obtain⟨o',U⟩:=I.base.there b o e hx;exact⟨o',(hs.2 b (vS (vQ (vX e) (I.ok.cab x c D hc)))).trans U⟩
  .by_cases hj:j=i
   .subst hj;rw[hi]at U;cases U;rw[getElem?_set_self G]at e2;cases e2
    exact⟨u,r,.inr ⟨.inl hk,c,hc,J⟩⟩
   .rw[vB (Ne.symm hj)]at e2;obtain⟨u',B,q⟩:=hl j y l U e2 t;refine⟨u',B,?_⟩;rcases q with q|⟨k,f,e,Z⟩
    .exact .inl q
    .refine .inr ⟨k,f,e,Z.sameBut hs ?_⟩;rintro rfl;exact hj (xW F U (I.ok.inj _ _ _ e hc ▸ hi))
  .by_cases K:f=c
   .subst K;exact⟨_,J⟩
   .obtain⟨w2,z2⟩:=I.cell y f e;exact⟨w2,z2.sameBut hs K⟩
  .obtain⟨e,n,ne,C,d⟩:=I.pin p hp;refine⟨(hs.2 p.1 ?_).trans e,n,ne,C,d⟩;grind
def xX {M:Model}{A:Around}{E:QV}{i:Nat}{x:Str}{v:V}{u:Value}{Q:Unit->Shared->Prop}(I:Inv X af σ H s)(O:X.N.Nodup)(hi:X.N[i]? = some x)(hx:KR X.env.scope x)(r:aC v u)
  (h:∀s',Inv X af (σ.set i (some v)) H s'->Q () s') (hf:X.fn x=true\/X.env.scope.names.lookup x=some .local:=by first|exact .inl rr|exact .inr rr|assumption):wpAny M A (storeName X.env x u) Q E s:=
 tU I O hi hx r (λs' U _=>h s' U) hf
def Inv.call' (I:Inv X af σ H s)(ho:s'.os=s.os)(u:Un (GB X.stack) ch H H' s.heap s'.heap)(hok:lb X.prog X.w H' s'.heap)(O:AllBare s'.gens)
  (M:∀b∈ch,(b∈X.ex\/X.s₀.z<=b)/\b≠X.env.locals/\(∀x c,X.env.cells.lookup x=some c->c≠b)/\∀p∈X.pn++af,p.1≠b):Inv X af σ H' s':=by
 obtain⟨h',g',d',t',o'⟩:=s';have e:=ho;subst e;exact I.call u hok O M
end
abbrev XK:=Value->Option Addr->Hp->Prop
abbrev St:=List (Option V)
abbrev VK:=V->Hp->Prop
abbrev TE:=St->Hp->VK->Prop
abbrev TT:=St->Hp->(Bool->Hp->Prop)->Prop
abbrev TA:=St->Hp->(List V->Hp->Prop)->Prop
structure Ends where
 nx:St->Hp->Prop
 rt:VK
 bk:St->Hp->Prop:=λ_ _=>False
 ct:St->Hp->Prop:=λ_ _=>False
abbrev TS:=Ends->St->Hp->Prop
def EP (X:Cx)(af:AO)(σ:St)(Q:VK)(u:Value)(s':Shared):Prop:=∃v H',Inv X af σ H' s'/\aC v u/\Q v H'
def TP (X:Cx)(af:AO)(σ:St)(Q:Bool->Hp->Prop)(b:Bool)(s':Shared):Prop:=∃H',Inv X af σ H' s'/\Q b H'
def AP (X:Cx)(af:AO)(σ:St)(Q:List V->Hp->Prop)(us:LU)(s':Shared):Prop:=∃vs H',Inv X af σ H' s'/\aL vs us/\Q vs H'
def SP (X:Cx)(af:AO)(D:Ends)(f:Flow)(s':Shared):Prop:=
 match f with
 |.next=>∃M H',Inv X af M H' s'/\D.nx M H'
 |.brk=>∃M H',Inv X af M H' s'/\D.bk M H'
 |.cont=>∃M H',Inv X af M H' s'/\D.ct M H'
 |.ret u=>∃v M H',Inv X af M H' s'/\aC v u/\D.rt v H'
def PE (X:Cx)(e:Expr)(t:TE):Prop:=
 ∀(af:AO)(s:Shared)(σ:St)(H:Hp)(Q:VK),Inv X af σ H s->t σ H Q->wq X (eval e X.env) (EP X af σ Q) X.xe s
def PT (X:Cx)(e:Expr)(t:TT):Prop:=
 ∀(af:AO)(s:Shared)(σ:St)(H:Hp)(Q:Bool->Hp->Prop),Inv X af σ H s->t σ H Q->wq X (isTrue e X.env (eval e X.env)) (TP X af σ Q) X.xe s
def PW (X:Cx)(e:Expr)(t:TT):Prop:=
 ∀(M:Sem Value)(af:AO)(s:Shared)(σ:St)(H:Hp)(Q:Bool->Hp->Prop),Inv X af σ H s->t σ H Q->wq X (isTrue e X.env M) (TP X af σ Q) X.xe s
def PW.pt (h:PW X e t):PT X e t:=h _
def PA (X:Cx)(es:QD)(t:TA):Prop:=
 ∀(M:Pos)(af:AO)(s:Shared)(σ:St)(H:Hp)(Q:List V->Hp->Prop),Inv X af σ H s->t σ H Q->wq X (spliced (backTo M (starEach es X.env))) (AP X af σ Q) X.xe s
def PS (X:Cx)(st:Stmt)(t:TS):Prop:=
 ∀(af:AO)(s:Shared)(σ:St)(H:Hp)(D:Ends),Inv X af σ H s->t D σ H->wq X (exec st X.env) (SP X af D) X.xe s
def tV (X:Cx)(st:List Stmt)(t:TS):Prop:=
 ∀(af:AO)(s:Shared)(σ:St)(H:Hp)(D:Ends),Inv X af σ H s->t D σ H->wq X (execs st X.env) (SP X af D) X.xe s
def bJ {α:Type}{t:Sem α}{Q O:α->Shared->Prop}{M:Model}{A:Around}{E:QV}{s:Shared}(h:wpAny M A t Q E s)(U:∀a s,Q a s->O a s):wpAny M A t O E s:=wpAny_mono h U λ_ _ x=>x
section
variable {X:Cx}
def GC (i:Nat):TE:=λσ H Q=>∃v,σ[i]? = some (some v)/\Q v H
def tC (v:V):TE:=λ_ H Q=>Q v H
def j9 (U:X.N[i]? = some x)(hv:KQ X.env.scope x)(hd:bj x:=by decide)(O:ln x:=by decide):PE X (.Name x pos) (GC i):=by
 intro af s σ H Q I h;obtain⟨v,e,h⟩:=h;obtain⟨m,hn,hl⟩:=I.loc;obtain⟨u,r,l⟩:=hl i x v U e hv;have dQ:EP X _ σ Q u s:=⟨v,H,I,r,h⟩;rcases l with⟨hk,hm⟩|⟨hk,c,hc,M⟩
 .exact wpAny_Name (wpAny_loadName_local I.ok.kind hk hn hm dQ) hd
 .rcases hk with hk|hk
  .exact wpAny_Name (wpAny_loadName_cell I.ok.kind hk hc M dQ) hd
  .exact wpAny_Name (wpAny_loadName_free I.ok.kind hk hc M dQ O) hd
def Pr {i j M}:PE X (.Constant (.int i) j M) (tC (.int i)):=λ_ _ _ H _ I h=>wpAny_Constant_int ⟨.int i,H,I.tok _,⟨_,rr⟩,h⟩
def Tz {b j M}:PE X (.Constant (.bool b) j M) (tC (.bl b)):=λ_ _ _ H _ I h=>Constant_bool ⟨.bl b,H,I,rr,h⟩
def Ps {j M}:PE X (.Constant .none j M) (tC .non):=λ_ _ _ H _ I h=>Constant_none ⟨.non,H,I,rr,h⟩
def Pt {x j M}:PE X (.Constant (.str x) j M) (tC (.str x)):=λ_ _ _ H _ I h=>Calls.Constant_str ⟨.str x,H,I.tok _,⟨_,rr⟩,h⟩
def Gl (X:Cx)(x:Str):Prop:=X.env.kindOf x=some .globalImplicit
def wl {E:QV}{af:AO}{s:Shared}{σ:St}{H:Hp}{x:Str}{u:Value}{M:Pos}{Q:QV}(I:Inv X af σ H s)(O:Gl X x)(hm:X.mg x=some u)(h:Q u s)
  (hd:bj x:=by decide):wq X (eval (.Name x M) X.env) Q E s:=
 Calls.Name_function_global I.ok.kind O (Calls.loadGlobal_global (by rw[I.ok.glob];exact I.mod.glob.keeps I.bk) hm h) hd
def fE {E:QV}{af:AO}{s:Shared}{σ:St}{H:Hp}{x:Str}{u:Value}{M:Pos}{Q:QV}(I:Inv X af σ H s)(O:Gl X x)(hm:X.mg x=none)(hv:bootBuiltins x=some u)(h:Q u s)
  (hn:x ≠ "__name__":=by decide) (hd:bj x:=by decide):wq X (eval (.Name x M) X.env) Q E s:=by
 obtain⟨mb,h1,h2⟩:=I.mod.blt;exact Calls.Name_function_global I.ok.kind O (Calls.loadGlobal_builtin (by rw[I.ok.glob];exact I.mod.glob.keeps I.bk) hm (by rw[I.ok.blt];exact h1.keeps I.bk) ((h2 x hn).trans hv) h) hd
def pR (M:Gl X x)(hm:X.mg x=some u)(r:aC v u)(hd:bj x:=by decide):PE X (.Name x O) (tC v):=
 λ_ _ _ H _ I h=>wl I M hm ⟨v,H,I,r,h⟩ hd
def Lj (M:Gl X x)(hm:X.mg x=none)(hv:bootBuiltins x=some u)(r:aC v u)(hn:x ≠ "__name__":=by decide)(hd:bj x:=by decide):PE X (.Name x O) (tC v):=
 λ_ _ _ H _ I h=>fE I M hm hv ⟨v,H,I,r,h⟩ hn hd
def t2I (ta tb:TE)(k:Int->Int->Hp->Prop):St->Hp->Prop:=λσ H=>ta σ H λx M=>tb σ M λy H2=>∃i j,x=.int i/\y=.int j/\k i j H2
variable {a b:Expr}{ta tb:TE}{pos:Pos}
def PC (X:Cx)(op:CmpOp)(a b:Expr)(t:TE):Prop:=
 ∀(af:AO)(s:Shared)(σ:St)(H:Hp)(Q:VK),Inv X af σ H s->t σ H Q ->
  wq X (eval a X.env) (λv M=>wq X (eval b X.env) (λu O=>wq X (compareOp op v u) (EP X af σ Q) X.xe O) X.xe M) X.xe s
def Y1 (p:Int->Int->Bool)(ta tb:TE):TE:=λσ H Q=>t2I ta tb (λi j H2=>Q (.bl (p i j)) H2) σ H
abbrev Y2:TE->TE->TE:=Y1 λi j=>decide (i<j)
def tB (t:TE):TT:=λσ H Q=>t σ H λx M=>∃c,x=.bl c/\Q c M
def Pu (h:PC X op a b t)(h1:behindInMarks op b=false:=by rfl):PE X (.Compare a [op] [b] pos) t:=λaf s σ H Q I hw=>wpAny_Compare1 (h _ s σ H Q I hw) h1
def Pw {op:CmpOp}{t:TE}(h:PC X op a b t)(h1:behindInMarks op b=false:=by rfl):PT X (.Compare a [op] [b] pos) (tB t):=by
 intro af s σ H Q I hw;refine wpAny_isTrue_Compare1 (bJ (h _ s σ H _ I hw) λv s1 h1=>bJ h1 λu s2 h2=>bJ h2 λc f ⟨x,M,O,U,e⟩=>?_) h1;obtain⟨d,rfl,q⟩:=e;cases U
 exact wpAny_truthy_bool ⟨M,O,q⟩
def Px {e:Expr}{t:TE}(h:PE X e t)(he:∀M,isTrue e X.env M=(do let v <-M;standAt e.pos;holding [v] (truthy v)):=by intro _;rfl):PT X e (tB t):=by
 intro af s σ H Q I hw;refine isTrue_plain (bJ (h _ s σ H _ I hw) λv s1 ⟨x,O,U,c,f⟩=>?_) (he _);obtain⟨d,rfl,q⟩:=f;cases c
 exact wpAny_truthy_bool ⟨O,U,q⟩
variable {tA Yd:TT}{aj:QD}
def T1 (t u:TT):TT:=λσ H Q=>t σ H λc M=>if c=true then u σ M Q else Q false M
def tOr (t u:TT):TT:=λσ H Q=>t σ H λc M=>if c=true then Q true M else u σ M Q
def T2 (t:TT):TT:=λσ H Q=>t σ H λc M=>Q (!c) M
def Ll (ha:PT X a tA):PW X (.BoolOp .And [a] pos) tA:=by
 intro wh af s σ H Q I h;refine isTrue_and (bJ (ha _ s σ H Q I h) λc s1 e=>?_);grind[isTrue_and_nil]
def Py (ha:PT X a tA):PW X (.BoolOp .Or [a] pos) tA:=by
 intro wh af s σ H Q I h;refine isTrue_or (bJ (ha _ s σ H Q I h) λc s1 e=>?_);grind[isTrue_or_nil]
def Pz (ha:PT X a tA)(hb:PW X (.BoolOp .And (b::aj) pos) Yd):PW X (.BoolOp .And (a::b::aj) pos) (T1 tA Yd):=by
 intro wh af s σ H Q I h;refine isTrue_and (bJ (ha _ s σ H _ I h) λc s1 ⟨M,O,U⟩=>?_);cases c with
 |true=>exact hb wh _ s1 σ M Q O U
 |false=>exact⟨M,O,U⟩
def T3 (ha:PT X a tA)(hb:PW X (.BoolOp .Or (b::aj) pos) Yd):PW X (.BoolOp .Or (a::b::aj) pos) (tOr tA Yd):=by
 intro wh af s σ H Q I h;refine isTrue_or (bJ (ha _ s σ H _ I h) λc s1 ⟨M,O,U⟩=>?_);cases c with
 |true=>exact⟨M,O,U⟩
 |false=>exact hb wh _ s1 σ M Q O U
def P0 (ha:PT X a tA):PT X (.UnaryOp .Not a pos) (T2 tA):=by
 intro af s σ H Q I h;exact isTrue_not (ha _ s σ H _ I h)
def T4 (ta tb:TE):TE:=λσ H Q=>ta σ H λx M=>∃c,x=.bl c/\if c=true then tb σ M Q else Q (.bl false) M
def Y3 (ta tb:TE):TE:=λσ H Q=>ta σ H λx M=>∃c,x=.bl c/\if c=true then Q (.bl true) M else tb σ M Q
def T5 (ta:TE):TE:=λσ H Q=>ta σ H λx M=>∃c,x=.bl c/\Q (.bl (!c)) M
def P1 {op}(h:PE X a t):PE X (.BoolOp op [a] pos) t:=λaf s σ H Q I hw=>BoolOp_one (h _ s σ H Q I hw)
def P2 (ha:PE X a ta)(hb:PE X (.BoolOp .And (b::aj) pos) tb):PE X (.BoolOp .And (a::b::aj) pos) (T4 ta tb):=by
 intro af s σ H Q I h;refine BoolOp_and (bJ (ha _ s σ H _ I h) λv s1 ⟨x,O,U,d,M⟩=>?_);obtain⟨c,rfl,M⟩:=M;cases d
 refine wpAny_truthy_bool ?_;cases c with
 |true=>exact hb _ s1 σ O Q U M
 |false=>exact⟨.bl _,O,U,rr,M⟩
def T6 (ha:PE X a ta)(hb:PE X (.BoolOp .Or (b::aj) pos) tb):PE X (.BoolOp .Or (a::b::aj) pos) (Y3 ta tb):=by
 intro af s σ H Q I h;refine BoolOp_or (bJ (ha _ s σ H _ I h) λv s1 ⟨x,O,U,d,M⟩=>?_);obtain⟨c,rfl,M⟩:=M;cases d
 refine wpAny_truthy_bool ?_;cases c with
 |false=>exact hb _ s1 σ O Q U M
 |true=>exact⟨.bl _,O,U,rr,M⟩
def P4 (ha:PE X a ta):PE X (.UnaryOp .Not a pos) (T5 ta):=by
 intro af s σ H Q I h;refine UnaryOp_ (bJ (ha _ s σ H _ I h) λv s1 ⟨x,O,U,d,M⟩=>?_);obtain⟨c,rfl,M⟩:=M;cases d
 exact not_of (wpAny_truthy_bool ⟨.bl _,O,U,rr,M⟩)
end
def eO (K:Frag)(H:Hp)(a:Addr)(xs:List V):Prop:=
 Rd H a (.lst xs) \/
  ∃(o:Obj)(its:AV)(n:Nat),K.lookup a=some o/\o.cls=.type "list"/\o.dict=none/\o.data=.seq its n/\its.size<=sizeLine/\aL xs its.toList
def gR (K:Frag)(H:Hp)(a:Addr)(xs:List V):Prop:=
 Rd H a (.tup xs) \/
  ∃(o:Obj)(its:AV)(n:Nat),K.lookup a=some o/\o.cls=.type "tuple"/\o.data=.seq its n/\its.size<=sizeLine/\aL xs its.toList
noncomputable def Y4:Value->Option V
 |.none=>some .non
 |.bool b=>some (.bl b)
 |.int i _=>some (.int i)
 |.str x _=>some (.str x)
 |.bytes b _=>some (.byt b)
 |.float b _=>some (.flt b)
 |.ref a=>some (.ref a)
 |.type n=>some (.ty n)
 |_=>none
def aC.abs (r:aC x u):Y4 u=some x:=by
 cases x with
 |non=>cases r;rfl
 |bl _=>cases r;rfl
 |int _=>obtain⟨t,rfl⟩:=r;rfl
 |str _=>obtain⟨t,rfl⟩:=r;rfl
 |byt _=>obtain⟨t,rfl⟩:=r;rfl
 |flt _=>obtain⟨t,rfl⟩:=r;rfl
 |ref _=>cases r;rfl
 |ty _=>cases r;rfl
def aC.inj (r:aC x u)(q:aC y u):x=y:=vK (r.abs.symm.trans q.abs)
theorem aL.inj:∀ {xs ys:List V}{us:LU},aL xs us->aL ys us->xs=ys
 |_,_,_,.nil,.nil=>rr
 |_,_,_,.cons r t,.cons M t'=>by rw[r.inj M,aL.inj t t']
section
variable {X:Cx}{af:AO}{σ:St}{H:Hp}{s:Shared}{a:Addr}{xs ys:List V}
def eO.of {K:Frag}(h:H a=some (.lst xs)):eO K H a xs:=.inl (.inl h)
def gR.of {K:Frag}(h:H a=some (.tup xs)):gR K H a xs:=.inl (.inl h)
def Inv.list (I:Inv X af σ H s)(h:eO X.K H a xs):∃its:LU,aL xs its/\PlainL s.heap a its.toArray/\xs.length<=sizeLine:=by
 rcases h with h|⟨o,its,n,hk,hc,hd,hs,hz,r⟩
 .obtain⟨z,its,n,r,e⟩:=h.ok I.hok;exact⟨its,r,⟨_,n,e,rr,rr,rr⟩,z⟩
 .refine⟨its.toList,r,⟨o,n,I.kIn a o hk,hc,hd,by simpa using hs⟩,?_⟩;have e:=r.length;simp_all
def Inv.lisE {G:Prop}(I:Inv X af σ H s)(h:eO X.K H a xs)(k:∀its:LU,aL xs its->PlainL s.heap a its.toArray->xs.length<=sizeLine->G):G:=let⟨i,d,p,z⟩:=I.list h;k i d p z
def Inv.tuple (I:Inv X af σ H s)(h:gR X.K H a xs):∃its:LU,aL xs its/\IsTup s.heap a its.toArray/\xs.length<=sizeLine:=by
 rcases h with h|⟨o,its,n,hk,hc,hs,hz,r⟩
 .obtain⟨z,its,r,p⟩:=h.ok I.hok;exact⟨its,r,p,z⟩
 .refine⟨its.toList,r,⟨o,I.kIn a o hk,hc,n,by simpa using hs⟩,?_⟩;have e:=r.length;simp_all
def Inv.tupE {G:Prop}(I:Inv X af σ H s)(h:gR X.K H a xs)(k:∀its:LU,aL xs its->IsTup s.heap a its.toArray->xs.length<=sizeLine->G):G:=let⟨i,d,p,z⟩:=I.tuple h;k i d p z
def Inv.list_inj (I:Inv X af σ H s)(h:eO X.K H a xs)(h':eO X.K H a ys):xs=ys:=by
 obtain⟨its,r,⟨o,n,e,_,_,d⟩,_⟩:=I.list h;obtain⟨its',M,⟨o',U,O,_,_,d'⟩,_⟩:=I.list h';rw[e]at O;have:its=its':=by simp_all
 subst this;exact r.inj M
def Inv.tuple_inj (I:Inv X af σ H s)(h:gR X.K H a xs)(h':gR X.K H a ys):xs=ys:=by
 obtain⟨its,r,⟨o,e,_,n,d⟩,_⟩:=I.tuple h;obtain⟨its',M,⟨o',O,_,U,d'⟩,_⟩:=I.tuple h';rw[e]at O;have:its=its':=by simp_all
 subst this;exact r.inj M
end
noncomputable abbrev Cx.wish (X:Cx)(E:QV):Cx:={ X with xe:=E }
abbrev Cx.nox (X:Cx):Cx:=X.wish λ_ _=>False
def Cx.Ok.wish {X:Cx}(ok:X.Ok)(E:QV):(X.wish E).Ok:=
 ⟨ok.mod,ok.kind,ok.glob,ok.blt,ok.above,ok.inj,ok.has,ok.cab,ok.hd,ok.frames,ok.stk,ok.exf,ok.bs,ok.bsz,ok.noex,ok.exfs,ok.funs,ok.frf⟩
def Cx.Ok.unwish {X:Cx}{E:QV}(ok:(X.wish E).Ok):X.Ok:=
 ⟨ok.mod,ok.kind,ok.glob,ok.blt,ok.above,ok.inj,ok.has,ok.cab,ok.hd,ok.frames,ok.stk,ok.exf,ok.bs,ok.bsz,ok.noex,ok.exfs,ok.funs,ok.frf⟩
section
variable {X:Cx}{af:AO}{σ:St}{H:Hp}{s:Shared}{E:QV}
def Inv.wish (I:Inv X af σ H s)(E:QV):Inv (X.wish E) af σ H s:=⟨I.ok.wish E,I.os,I.bare,I.base,I.loc,I.cell,I.free,I.freeC,I.pin,I.hok,I.len⟩
def Inv.unwish (I:Inv (X.wish E) af σ H s):Inv X af σ H s:=⟨I.ok.unwish,I.os,I.bare,I.base,I.loc,I.cell,I.free,I.freeC,I.pin,I.hok,I.len⟩
def SP.unwish (h:SP (X.wish E) af D f s'):SP X af D f s':=by
 cases f with
 |next=>obtain⟨M,H',I,q⟩:=h;exact⟨M,H',I.unwish,q⟩
 |brk=>obtain⟨M,H',I,q⟩:=h;exact⟨M,H',I.unwish,q⟩
 |cont=>obtain⟨M,H',I,q⟩:=h;exact⟨M,H',I.unwish,q⟩
 |ret u=>obtain⟨v,M,H',I,r,q⟩:=h;exact⟨v,M,H',I.unwish,r,q⟩
def tV.nox {st:List Stmt}{t:TS}(h:tV X.nox st t):tV X st t:=λaf s σ H D I hw=>
 wpAny_mono (h _ s σ H D (I.wish _) hw) (λ_ _ q=>q.unwish) λ_ _ z=>False.elim z
end
section
variable {X:Cx}{st:Stmt}{aj:List Stmt}{t u:TS}{e:Expr}{te:TE}{pos:Pos}
def Ow:TS:=λD σ H=>D.nx σ H
def T7 (t u:TS):TS:=λD σ H=>t { D with nx:=u D } σ H
def Lm:tV X [] Ow:=λ_ _ σ H _ I h=>wpAny_execs_nil ⟨σ,H,I,h⟩
def GD (h1:PS X st t)(h2:tV X aj u):tV X (st::aj) (T7 t u):=by
 intro af s σ H D I h;refine wpAny_execs_cons (bJ (h1 _ s σ H _ I h) λf s1 q=>?_);cases f with
 |next=>
  obtain⟨M,H',O,q⟩:=q;exact h2 _ s1 _ H' D O q
 |ret v=>exact q
 |brk=>exact q
 |cont=>exact q
def Ln (h1:PS X st t):tV X [st] t:=by
 intro af s σ H D I h;refine wpAny_execs_cons (bJ (h1 _ s σ H D I h) λf s1 q=>?_);cases f with
 |next=>exact wpAny_execs_nil q
 |ret v=>exact q
 |brk=>exact q
 |cont=>exact q
def T8:TS:=λD σ H=>D.ct σ H
def xY:PS X (.Continue pos) T8:=λ_ _ σ H _ I h=>wpAny_Continue ⟨σ,H,I,h⟩
def Inv.quiet (I:Inv X af σ H s):interactive X.env=false:=by simp[interactive,I.ok.kind]
def T9 (te:TE):TS:=λD σ H=>te σ H λ_ M=>D.nx σ M
def Cc (he:PE X e te)(hs:swapsWith e none pos.line X.env=pure false:=by rfl):PS X (.Expr e pos) (T9 te):=by
 intro af s σ H D I h;exact wpAny_Expr_any (bJ (he _ s σ H _ I h) λv s1 ⟨x,M,O,a,U⟩=>⟨σ,M,O,U⟩) I.quiet hs
def P5 (te:TE):TS:=λD σ H=>te σ H D.rt
def GF (he:PE X e te):PS X (.Return (some e) pos) (P5 te):=by
 intro af s σ H D I h;exact wpAny_Return_some (bJ (he _ s σ H _ I h) λv s1 ⟨x,M,O,U,a⟩=>⟨x,σ,M,O,U,a⟩)
def TB (c:TT)(t u:TS):TS:=λD σ H=>c σ H λb M=>if b=true then t D σ M else u D σ M
def TC {c:Expr}{a b:List Stmt}{M:TT}(hc:PT X c M)(ha:tV X a t)(hb:tV X b u):PS X (.If c a b pos) (TB M t u):=by
 intro af s σ H D I h;refine wpAny_If (bJ (hc _ s σ H _ I h) λd s1 ⟨O,U,f⟩=>?_);cases d with
 |true=>exact ha _ s1 σ O D U f
 |false=>exact hb _ s1 σ O D U f
end
abbrev TG:=V->St->Hp->(St->Hp->Prop)->Prop
abbrev P6:=List V->St->Hp->(St->Hp->Prop)->Prop
def PG (X:Cx)(M:Expr)(t:TG):Prop:=
 ∀(af:AO)(s:Shared)(σ:St)(H:Hp)(v:V)(u:Value)(Q:St->Hp->Prop),Inv X af σ H s->aC v u->t v σ H Q ->
  wq X (assign M X.env u) (λ_ s'=>∃O H',Inv X af O H' s'/\Q O H') X.xe s
def XU (X:Cx)(O:QD)(t:P6):Prop:=
 ∀(af:AO)(s:Shared)(σ:St)(H:Hp)(vs:List V)(us:LU)(Q:St->Hp->Prop),Inv X af σ H s->aL vs us->t vs σ H Q ->
  wq X (assignInOrder ((assignEach O X.env).map (·.2)) us) (λ_ s'=>∃M H',Inv X af M H' s'/\Q M H') X.xe s
abbrev P7:=V->V->V->Hp->(Hp->Prop)->Prop
def TD (X:Cx)(t:P7):Prop:=
 ∀(af:AO)(s:Shared)(σ:St)(H:Hp)(o i v:V)(M iv u:Value)(Q:Hp->Prop),Inv X af σ H s->aC o M->aC i iv->aC v u->t o i v H Q ->
  wq X (setItem M iv u) (λ_ s'=>∃H',Inv X af σ H' s'/\Q H') X.xe s
section
variable {X:Cx}{pos:Pos}
def iB (i:Nat):TG:=λv σ H Q=>Q (σ.set i (some v)) H
def Ce (M:X.N.Nodup)(hi:X.N[i]? = some x)(hx:KR X.env.scope x)(hf:X.fn x=true\/X.env.scope.names.lookup x=some .local:=by first|exact .inl rr|exact .inr rr|assumption):PG X (.Name x pos) (iB i):=by
 intro af s σ H v u Q I r h;exact wpAny_assign_Name (xX I M hi hx r (λs' O=>⟨_,H,O,h⟩) hf)
def TF:P6:=λvs σ H Q=>vs=[]/\Q σ H
def Ox (t:TG)(u:P6):P6:=λvs σ H Q=>∃v r,vs=v::r/\t v σ H λM H'=>u r M H' Q
def wm:XU X [] TF:=by
 intro af s σ H vs us Q I r h;obtain⟨e,h⟩:=h;exact assignInOrder_nil ⟨σ,H,I,h⟩
def iC {e:Expr}{es:QD}{t:TG}{u:P6}(h1:PG X e t)(h2:XU X es u)
  (hs:(assignEach (e::es) X.env).map (·.2)=assign e X.env::(assignEach es X.env).map (·.2):=by rfl):XU X (e::es) (Ox t u):=by
 intro af s σ H vs us Q I r h;obtain⟨v,d,M,h⟩:=h;subst M;cases r with
 |cons r O=>
  rw[hs];refine assignInOrder_cons (bJ (h1 _ s σ H _ _ _ I r h) λ_ s1 ⟨U,a,b,c⟩=>?_);exact h2 _ s1 _ a _ _ Q b O c
def GG (K:Frag)(n:Nat)(t:P6):TG:=λv σ H Q=>∃a xs,v=.ref a/\gR K H a xs/\xs.length=n/\t xs σ H Q
def AB (hc:X.calm=true)(h:XU X es t)
  (hn:(assignEach es X.env).length=n:=by rfl) (M:(assignEach es X.env).findIdx? (·.1)=none:=by rfl):PG X (.Tuple es k pos) (GG X.K n t):=by
 intro af s σ H v u Q I r hw;obtain⟨a,xs,U,hq,hl,hw⟩:=hw;subst U;cases r
 refine I.tupE hq λits O c hz=>?_;refine assign_Tuple_tuple (I.ok.hd hc) c (by simp[hn,<-hl,O.length]) M λh' hx=>?_;have d:=I.kept (t':=s.toks) λb o e=>hx b o (vS (vX e)) e;exact h _ _ σ H xs _ Q d (by simpa using O) hw
def Y5 (to ti:TE)(t:P7):TG:=λv σ H Q=>to σ H λo M=>ti σ M λi H2=>t o i v H2 λO=>Q σ O
def P8 {o i:Expr}{to ti:TE}{t:P7}(ho:PE X o to)(hi:PE X i ti)(hs:TD X t)
  (ha:∀v,assign (.Subscript o i pos) X.env v=(do
   let M <-holding [v] (eval o X.env)
   let iv <-holding [v,M] (eval i X.env)
   standAt pos
   holding [v,M,iv] (setItem M iv v)
   release [v,M,iv] []):=by intro _;rfl):PG X (.Subscript o i pos) (Y5 to ti t):=by
 intro af s σ H v u Q I r h;refine wX (wpAny_holding (bJ (ho _ s σ H _ I h) λM s1 ⟨x,O,U,a,b⟩=>?_));refine wX (wpAny_holding (bJ (hi _ s1 σ O _ U b) λiv s2 ⟨y,H2,c,d,q2⟩=>?_));refine wX (wpAny_standAt (wX (wpAny_holding (bJ (hs _ s2 σ H2 x y v M iv u _ c a d r q2) λ_ j ⟨e,f,g⟩=>?_))));exact wpAny_release ⟨σ,e,f,g⟩
def EI (M:TE)(g:TG):TS:=λD σ H=>M σ H λx O=>g x σ O D.nx
def P9 {tg e:Expr}{M:TE}{g:TG}(he:PE X e M)(O:PG X tg g)(hs:swapsWithSole [tg] e pos.line X.env=pure false:=by rfl)(hw:swappedStores [tg] e X.env=pure none:=by rfl)
  (h1:(assignEach [tg] X.env).map (·.2)=[assign tg X.env]:=by rfl):PS X (.Assign [tg] e pos) (EI M g):=by
 intro af s σ H D I h;refine wpAny_Assign_stores (bJ (he _ s σ H _ I h) λv s1 ⟨x,U,a,b,c⟩=>?_) hs hw;rw[h1];exact bJ (O _ s1 σ U x v _ a b c) λ_ s2 q=>q
def wn {i:Nat}{x:Str}{e:Expr}{O:TE}{M:Pos}(U:X.N.Nodup)(hi:X.N[i]? = some x)(hx:KR X.env.scope x)(he:PE X e O)(hs:swapsWith e (some (.Name x M)) pos.line X.env=pure false:=by rfl)(hf:X.fn x=true\/X.env.scope.names.lookup x=some .local:=by first|exact .inl rr|exact .inr rr|assumption):
  PS X (.Assign [.Name x M] e pos) (EI O (iB i)):=by
 intro af s σ H D I h;refine wpAny_Assign_Name (bJ (he _ s σ H _ I h) λv s1 ⟨y,a,b,c,d⟩=>?_) hs;exact xX b U hi hx c (λs2 f=>⟨_,a,f,d⟩) hf
end
section
variable {X:Cx}{pos:Pos}
def GH (c:TT)(tb:TS):TS:=λD σ H=>∃W:Nat->St->Hp->Prop,(∃m,W m σ H)/\∀m σ H,W m σ H ->
 c σ H λb O=>if b=true then ∃N:St->Hp->Prop,(∀M H',N M H'->∃U,U<m/\W U M H')/\tb { D with nx:=N,ct:=N,bk:=D.nx } σ O else D.nx σ O
def GI {c:Expr}{M:List Stmt}{l:TT}{tb:TS}(hp:PassesOwn (model X.prog X.w) X.A X.env X.xe)(hc:PT X c l)(hb:tV X M tb):PS X (.While c M [] pos) (GH l tb):=by
 intro af s σ H D I h;obtain⟨W,⟨q,r⟩,U⟩:=h;refine wpAny_While (codeAny_whileLoop (λn s'=>∃a H',Inv X _ a H' s'/\W n a H') ?_ q ⟨σ,H,I,r⟩);rintro n s1 ⟨g,m,t,u⟩;refine wpAny_passesOwn hp (bJ (hc _ s1 _ m _ t (U n _ m u)) λb s2 ⟨H2,o,q2⟩=>?_);cases b with
 |true=>
  obtain⟨N,p,q2⟩:=q2;refine wpAny_passesOwn hp (bJ (hb _ s2 _ H2 _ o q2) λf x e=>?_);cases f with
  |next=>
   obtain⟨O,d,i,n3⟩:=e;obtain⟨j,hm,k⟩:=p _ d n3;exact⟨j,hm,O,d,i,k⟩
  |cont=>
   obtain⟨O,d,i,n3⟩:=e;obtain⟨j,hm,k⟩:=p _ d n3;exact⟨j,hm,O,d,i,k⟩
  |brk=>exact e
  |ret v=>exact e
 |false=>
  exact wpAny_execs_nil ⟨g,H2,o,q2⟩
end
structure It where
 go:Nat->Hp->Prop
 yld:Nat->Hp->V->Hp->Prop
 stop:Nat->Hp->Prop
def lf (X:Cx)(af:AO)(H:Hp)(b:Addr):Prop:=
 H b=none/\b≠X.env.locals/\b∉X.fs/\(b∈X.ex\/X.s₀.z<=b)/\(∀x c,X.env.cells.lookup x=some c->c≠b)/\∀p∈X.pn++af,p.1≠b
def Inv.fpOk (I:Inv X af σ H s)(hb:s.z<=b)(hn:H' b=none):lf X af H' b:=by
 refine⟨hn,ne_of_gt (vQ I.lt hb),I.nofs hb,.inr (vR I.sz hb),λx c e z=>?_,λp hp z=>?_⟩
 .obtain⟨v,q⟩:=I.cell x c e;exact absurd (vQ q.lt (by rw[z];exact hb)) (Nat.lt_irrefl _)
 .exact absurd (vQ (vX (I.pin p hp).1) (by rw[z];exact hb)) (Nat.lt_irrefl _)
structure Turn (P:Program)(w:World)(K:Frag)(tg:Expr)(J:It)(fp:List Addr)(it:Addr)(tn:Nat->Heap->Prop):Prop where
 mem:it∈fp
 obj:∀i h,tn i h->∀b∈fp,∃o,h.get? b=some o/\∀v,o.data≠.cell v
 keep:∀i h h',tn i h->(∀b∈fp,∀o,h.get? b=some o->h'.get? b=some o)->tn i h'
 item:∀(X:Cx),X.prog=P->X.w=w->X.K=K->X.calm=true->∀(i:Nat)(af:List (Addr×Obj))(s:Shared)(σ:St)(H:Hp)(E:Value->Shared->Prop),Inv X af σ H s->(∀b∈fp,lf X af H b)->tn i s.heap->J.go i H ->
  wpAny (model P w) X.A (pyNext (.ref it)) (λr s1=>∃u,r=some u /\
   wpAny (model P w) X.A (letOwnedTupleGo tg (.ref it) u) (λ_ s2=>∃x H',Inv X af σ H' s2/\aC x u/\J.yld i H x H'/\tn (i+1) s2.heap/\∀b∈fp,H' b=none) E s1) E s
 done:∀(X:Cx),X.prog=P->X.w=w->X.K=K->X.calm=true->∀(i:Nat)(af:List (Addr×Obj))(s:Shared)(σ:St)(H:Hp)(E:Value->Shared->Prop),Inv X af σ H s->(∀b∈fp,lf X af H b)->tn i s.heap->J.stop i H ->
  wpAny (model P w) X.A (pyNext (.ref it)) (λr s1=>r=none/\Inv X af σ H s1) E s
 self:∀(A:Around)(i:Nat)(s:Shared)(Q:Value->Shared->Prop)(E:Value->Shared->Prop),tn i s.heap->Q (.ref it) s->wpAny (model P w) A (pyIter (.ref it)) Q E s
abbrev TI:=St->Hp->(It->Hp->Prop)->Prop
def PIE (X:Cx)(af:AO)(σ:St)(tg:Expr)(R:It->Hp->Prop)(M:Value)(s2:Shared):Prop:=
 ∃(it:Addr)(fp:List Addr)(tn:Nat->Heap->Prop)(J:It)(H':Hp),M=.ref it/\Inv X af σ H' s2/\Turn X.prog X.w X.K tg J fp it tn/\tn 0 s2.heap/\(∀b∈fp,lf X af H' b)/\R J H'
def PI (X:Cx)(tg M:Expr)(O:TI):Prop:=
 ∀(af:AO)(s:Shared)(σ:St)(H:Hp)(R:It->Hp->Prop),Inv X af σ H s->O σ H R ->
  wq X (eval M X.env) (λv s1=>wq X (pyIter v) (PIE X af σ tg R) X.xe s1) X.xe s
def qt (ho:s.heap.get? it=some o)(hc:o.cls=.type n)(hd:o.data=.fields vs)
    (hn:["enumerate","zip","dict_itemiterator","dict_reverseitemiterator","odict_iterator","itertools.zip_longest","itertools.pairwise"].contains n=false) (O:Q () s):wpAny M A (letOwnedTupleGo tg (.ref it) u) Q E s:=by
  cases tg<;>first
    |exact wY O
    | (cases u<;>first
        |exact wY O
        | (refine wX (wpAny_load ho ?_)
           rw[hc,hd]
           show wpAny M A (if(["enumerate","zip","dict_itemiterator","dict_reverseitemiterator","odict_iterator","itertools.zip_longest","itertools.pairwise"].contains n && vs[0]? == some _)=true then _ else _) Q E s
           rw[if_neg (by intro h;rw[hn]at h;cases h)]
           exact wY O))
noncomputable def Itl (K:Frag)(a:Addr):It:=
 ⟨λi H=>∃xs x,eO K H a xs/\xs[i]? = some x,λi H x H'=>H'=H/\∀xs,eO K H a xs->xs[i]? = some x,λi H=>∃xs,eO K H a xs/\xs.length<=i⟩
noncomputable def Itt (K:Frag)(a:Addr):It:=
 ⟨λi H=>∃xs x,gR K H a xs/\xs[i]? = some x,λi H x H'=>H'=H/\∀xs,gR K H a xs->xs[i]? = some x,λi H=>∃xs,gR K H a xs/\xs.length<=i⟩
noncomputable def XV (lo:Int)(n:Nat):It:=⟨λi _=>i<n,λi H x H'=>H'=H/\x=.int (lo+i),λi _=>n<=i⟩
def EJ {P:Program}{w:World}{K:Frag}{tg:Expr}(a it:Addr):Turn P w K tg (Itl K a) [it] it (λi h=>h.IsListIter it a i) where
 mem:=X9
 obj:=λi h st b hb=>by
  have e:=by simpa using hb
  obtain⟨o,e,c,d⟩:=st;simp_all
 keep:=λi h h' st k=>st.at λo e=>k it X9 o e
 item:=by
  intro X O hw U hc i af s σ H E I hf st f;subst O hw U;obtain⟨xs,x,hq,hx⟩:=f;refine I.lisE hq λits g p hz=>?_;obtain⟨u,hu,ru⟩:=g.get hx;obtain⟨j,f1,f2,l,m,n⟩:=hf it X9;refine wpAny_pyNext_list_item st p.isList (by simpa using hu) λh' M q=>?_;have r:=I.turned (t':=s.toks) (λb o hb e=>(q.2 b hb).trans e) j f1 l m n;obtain⟨o,e,c,d⟩:=id M;exact⟨u,rr,qt e c d H9 ⟨x,H,r,ru,⟨rr,λys hy=>by rw[I.list_inj hy hq];exact hx⟩,M,λb hb=>(hf b hb).1⟩⟩
 done:=by
  intro X O hw U hc i af s σ H E I hf st f;subst O hw U;obtain⟨xs,hq,hx⟩:=f;refine I.lisE hq λits g p hz=>?_;obtain⟨j,f1,f2,l,m,n⟩:=hf it X9;have hl:=g.length;exact wpAny_pyNext_list_end (I.ok.hd hc) st p.isList s9 λh' t=>⟨rr,I.turned (λb o hb e=>t b o hb e) j f1 l m n⟩
 self:=λ_ _ _ _ _ st h=>wpAny_pyIter_listiter st h
def AD {P:Program}{w:World}{K:Frag}{tg:Expr}(a it:Addr):Turn P w K tg (Itt K a) [it] it (λi h=>h.IsTupleIter it a i) where
 mem:=X9
 obj:=λi h st b hb=>by
  have e:=by simpa using hb
  obtain⟨o,e,c,d⟩:=st;simp_all
 keep:=λi h h' st k=>st.at λo e=>k it X9 o e
 item:=by
  intro X O hw U hc i af s σ H E I hf st f;subst O hw U;obtain⟨xs,x,hq,hx⟩:=f;refine I.tupE hq λits g p hz=>?_;obtain⟨u,hu,ru⟩:=g.get hx;obtain⟨j,f1,f2,l,m,n⟩:=hf it X9;refine wpAny_pyNext_tuple_item st (show s.heap.IsTuple a _ from p) (by simpa using hu) λh' M q=>?_;have r:=I.turned (t':=s.toks) (λb o hb e=>(q.2 b hb).trans e) j f1 l m n;obtain⟨o,e,c,d⟩:=id M;exact⟨u,rr,qt e c d H9 ⟨x,H,r,ru,⟨rr,λys hy=>by rw[I.tuple_inj hy hq];exact hx⟩,M,λb hb=>(hf b hb).1⟩⟩
 done:=by
  intro X O hw U hc i af s σ H E I hf st f;subst O hw U;obtain⟨xs,hq,hx⟩:=f;refine I.tupE hq λits g p hz=>?_;obtain⟨j,f1,f2,l,m,n⟩:=hf it X9;have hl:=g.length;exact wpAny_pyNext_tuple_end (I.ok.hd hc) st (show s.heap.IsTuple a _ from p) s9 λh' t=>⟨rr,I.turned (λb o hb e=>t b o hb e) j f1 l m n⟩
 self:=λ_ _ _ _ _ st h=>wpAny_pyIter_tupleiter st h
def AE {P:Program}{w:World}{K:Frag}{tg:Expr}(it:Addr)(lo:Int)(n:Nat):Turn P w K tg (XV lo n) [it] it (λi h=>IsRangeIter h it (lo+(i:Nat)*1) ((n:Int) - (i:Nat)) 1) where
 mem:=X9
 obj:=λi h st b hb=>by
  simp_all
 keep:=λi h h' st k=>k it X9 _ st
 item:=by
  intro X f hw g hc i af s σ H E I hf st O;subst f hw g;obtain⟨U,f1,f2,a,c,d⟩:=hf it X9;have W:=Walks.range (prog:=X.prog) (w:=X.w) (I.ok.hd hc) it lo 1 n;refine W.item i s _ _ O st λv h' tk hv M j=>?_;obtain⟨t,rfl⟩:=hv;have l:Inv X _ σ H { s with heap:=h',toks:=tk }:=I.turned (λb o hb e=>j b o (by simpa using hb) e) U f1 a c d;refine⟨_,rr,qt M rr rr H9 ⟨.int _,H,l,⟨t,?_⟩,⟨rr,rr⟩,M,λb hb=>(hf b hb).1⟩⟩;simp
 done:=by
  intro X f hw g hc i af s σ H E I hf st O;obtain⟨U,f1,f2,a,c,d⟩:=hf it X9;exact wpAny_pyNext_range_end (I.ok.hd hc) st (by have:n<=i:=O;lia) λh' m=>⟨rr,I.turned (λb o hb e=>m b o hb e) U f1 a c d⟩
 self:=λ_ _ _ _ _ st h=>wpAny_pyIter_rangeiter st h
section
variable {X:Cx}{tg:Expr}
def TH (K:Frag)(tl:TE):TI:=λσ H R=>tl σ H λx M=>∃a,x=.ref a/\(∃xs,eO K M a xs)/\R (Itl K a) M
def Y6 (K:Frag)(tl:TE):TI:=λσ H R=>tl σ H λx M=>∃a,x=.ref a/\(∃xs,gR K M a xs)/\R (Itt K a) M
def Lo {l:Expr}{tl:TE}(hl:PE X l tl):PI X tg l (TH X.K tl):=by
 intro af s σ H R I h;refine bJ (hl _ s σ H _ I h) λv s1 ⟨x,O,M,U,c⟩=>?_;obtain⟨a,e,⟨xs,hq⟩,q⟩:=c;subst e;cases U
 refine M.lisE hq λits d p hz=>?_;refine wpAny_pyIter_list p.isList ?_;refine⟨s1.z,[s1.z],_,_,O,rr,M.kept λb o e=>vZ _ e,EJ a _,⟨_,vY _ rr,rr,rr⟩,λb hb=>?_,q⟩;have e:=by simpa using hb
 subst e;exact M.fpOk (vT _) (M.hok.fresh (vT _))
def PB {l:Expr}{tl:TE}(hl:PE X l tl):PI X tg l (Y6 X.K tl):=by
 intro af s σ H R I h;refine bJ (hl _ s σ H _ I h) λv s1 ⟨x,O,M,U,c⟩=>?_;obtain⟨a,e,⟨xs,hq⟩,q⟩:=c;subst e;cases U
 refine M.tupE hq λits d p hz=>?_;refine wpAny_pyIter_tuple (show s1.heap.IsTuple a _ from p) ?_;refine⟨s1.z,[s1.z],_,_,O,rr,M.kept λb o e=>vZ _ e,AD a _,⟨_,vY _ rr,rr,rr⟩,λb hb=>?_,q⟩;have e:=by simpa using hb
 subst e;exact M.fpOk (vT _) (M.hok.fresh (vT _))
def GJ {af:AO}{σ:St}{H:Hp}{s:Shared}{R:It->Hp->Prop}{E:QV}{lo hi:Int}{t u v:Tok}{tk:Nat}(I:Inv X af σ H s)(h1 : -(2 ^ 62)<=lo)(h2:lo<2 ^ 62)(h3 : -(2 ^ 62)<=hi)(h4:hi<2 ^ 62)
  (q:R (XV lo (hi - lo).toNat) H):wq X (pyIter (.ref s.z)) (PIE X af σ tg R) E { s with heap:=s.heap.push { cls:=.type "range",data:=.fields #[.int lo t,.int hi u,.int 1 v] },toks:=tk }:=by
 refine wpAny_pyIter_range (IsRange.new ..) (small_one h1 h2 h3 h4) ?_;have M:Inv X _ σ H { s with heap:=s.heap.push { cls:=.type "range",data:=.fields #[.int lo t,.int hi u,.int 1 v] },toks:=tk }:=I.kept λb o e=>vZ _ e;refine⟨(s.heap.push _).objs.size,[(s.heap.push _).objs.size],_,_,H,rr,
  M.kept λb o e=>vZ _ e,AE _ lo _,?_,λb hb=>?_,q⟩
 .have O:lo+((0:Nat):Int)*1=lo:=X9
  have e2:(((hi - lo).toNat:Nat):Int) - ((0:Nat):Int)=Builtin.Range.rangeSize lo hi 1:=by rw[rangeSize_one];split<;>lia
  rw[O,e2];exact vY _ rr
 .have e:b=(s.heap.push { cls:=.type "range",data:=.fields #[.int lo t,.int hi u,.int 1 v] }).objs.size:=by simpa using hb
  subst e;exact M.fpOk (vT _) (M.hok.fresh (vT _))
def TJ (ta:TA):TI:=λσ H R=>ta σ H λvs M=>∃j:Int,vs=[.int j]/\-(2 ^ 62)<=j/\j<2 ^ 62/\R (XV 0 j.toNat) M
def EK {a:Expr}{ta:TA}{p M:Pos}(U:Gl X "range")(hm:X.mg "range" = none)(ha:PA X [a] ta)(hs:cM a X.env:=by rfl):PI X tg (.Call (.Name "range" p) [a] [] M) (TJ ta):=by
 intro af s σ H R I h;refine Call_ (fE I U hm boot_range (PyProof.Rows.callWith_type1 (bJ (ha _ _ s σ H _ I h) λus s1 ⟨vs,f,b,c,O⟩=>?_) hs rr));obtain⟨j,e,O,q2,q⟩:=O;subst e;cases c with
 |cons r d=>
  cases d
  obtain⟨t,rfl⟩:=r;exact call_range_1 (GJ b N9 N9 O q2 (by simpa using q))
def PD (a:TI)(g:TG)(tb:TS):TS:=λD σ H=>a σ H λJ b=>∃W:Nat->Nat->St->Hp->Prop,(∃m,W 0 m σ b)/\∀i m σ H,W i m σ H ->
 (J.stop i H/\D.nx σ H)\/(J.go i H/\∃N:St->Hp->Prop,(∀M H',N M H'->∃U,U<m/\W (i+1) U M H')/\∀x H',J.yld i H x H'->g x σ H' λO H2=>tb { D with nx:=N,ct:=N,bk:=D.nx } O H2)
def qu (fp:List Addr)(h:Heap):AO:=fp.filterMap λb=>(h.get? b).map λo=>(b,o)
def iX {fp:List Addr}{h:Heap}{b:Addr}{o:Obj}(hb:b∈fp)(e:h.get? b=some o):(b,o)∈qu fp h:=mem_filterMap.mpr ⟨b,hb,by rw[e];rfl⟩
def EL (hp:p∈qu fp h):p.1∈fp/\h.get? p.1=some p.2:=by
 obtain⟨b,hb,e⟩:=mem_filterMap.mp hp;simp_all<;>lia
def Inv.pinned (I:Inv X af σ H s)(hf:∀b∈fp,lf X af H b)(ho:∀b∈fp,∃o,s.heap.get? b=some o/\∀v,o.data≠.cell v):Inv X (af++qu fp s.heap) σ H s:=
 I.pins_of λp hp=>(mem_append.mp hp).elim (λz=>I.pin p (mY _ z)) λz=>by
  obtain⟨hb,e⟩:=EL z;obtain⟨M,f1,f2,_⟩:=hf _ hb;grind
def Inv.unpinned (I:Inv X (af++pl) σ H s):Inv X af σ H s:=I.pins_of λp hp=>I.pin p (mY _ (mem_append_left _ hp))
def GK {O:Expr}{l:List Stmt}{F:TI}{g:TG}{tb:TS}{y:Pos}(hp:PassesOwn (model X.prog X.w) X.A X.env X.xe)(hc:X.calm=true)(hi:PI X tg O F)(Q:PG X tg g)(hb:tV X l tb)
  (hs:∀x,foldedSetIterable O X.env x=pure x:=by intro _;rfl):PS X (.For tg O l [] y) (PD F g tb):=by
 intro af s σ H D I h;refine wpAny_For (bJ (hi af s σ H _ I h) λv s1 h1=>bJ h1 λR s2 h2=>?_) hs;obtain⟨it,fp,tn,J,H2,e,S,T,V,f2,W,⟨Y,Z⟩,Sl⟩:=h2;subst e
 -- what stays true of the iterator's objects through the loop
 have U:∀ {H':Hp},(∀b∈fp,H' b=none)->∀b∈fp,lf X af H' b:=λhn b hb=>⟨hn b hb,(f2 b hb).2⟩;refine codeAny_forLoop_any (λn s'=>∃i a H',Inv X af a H' s'/\tn i s'.heap/\(∀b∈fp,H' b=none)/\W i n a H') ?_ Y ⟨0,σ,H2,S,V,λb hb=>(f2 b hb).1,Z⟩;rintro n G ⟨i,c,t,K,L,q,w3⟩;rcases Sl i n c t w3 with⟨stop,qn⟩|⟨go,N,hN,step⟩
 .refine wpAny_passesOwn hp (bJ (T.done X rr rr rr hc i af G c t X.xe K (U q) L stop) λr s4 ⟨hr,I4⟩=>?_);subst hr;exact wpAny_execs_nil ⟨c,t,I4,qn⟩
 .refine wpAny_passesOwn hp (bJ (T.item X rr rr rr hc i af G c t X.xe K (U q) L go) λr s4 ⟨u,hr,h4⟩=>?_);subst hr;refine wpAny_passesOwn hp (bJ h4 λ_ s5 ⟨x,P,I5,r5,y5,z,ZM⟩=>?_);have B:=I5.pinned (U ZM) (T.obj _ _ z);refine wpAny_passesOwn hp (bJ (Q _ s5 c P x u _ B r5 (step x P y5)) λ_ s6 ⟨C,H6,I6,q6⟩=>?_);refine wpAny_passesOwn hp (bJ (hb _ s6 C H6 _ I6 q6) λf E p=>?_);have again:∀ {M:St}{j:Hp},Inv X _ M j E->N M j->∃m,m<n/\∃i a H',Inv X af a H' E/\tn i E.heap/\(∀b∈fp,H' b=none)/\W i m a H':=λ{M j} k n7=>by
   obtain⟨m',hm,w7⟩:=hN M j n7;refine⟨m',hm,i+1,M,j,k.unpinned,T.keep _ _ _ z λb hb o e=>(k.pin (b,o) (mY _ (mY _ (iX hb e)))).1,λb hb=>?_,w7⟩;obtain⟨o,e,d⟩:=T.obj _ _ z b hb;exact(k.pin (b,o) (mY _ (mY _ (iX hb e)))).2.1
  cases f with
  |next=>obtain⟨M,j,k,n7⟩:=p;exact again k n7
  |cont=>obtain⟨M,j,k,n7⟩:=p;exact again k n7
  |brk=>obtain⟨M,j,k,p⟩:=p;exact⟨M,j,k.unpinned,p⟩
  |ret v=>obtain⟨x7,M,j,k,r7,p⟩:=p;exact⟨x7,M,j,k.unpinned,r7,p⟩
end
abbrev R2:=V->V->Hp->VK->Prop
def cH (X:Cx)(f:Value->Value->Sem Value)(r:R2):Prop:=
 ∀(af:AO)(s:Shared)(σ:St)(H:Hp)(x y:V)(v u:Value)(Q:VK),Inv X af σ H s->aC x v->aC y u->r x y H Q ->
  wq X (f v u) (EP X af σ Q) X.xe s
def TK (X:Cx)(f:Value->Sem Value)(r:V->Hp->VK->Prop):Prop:=
 ∀(af:AO)(s:Shared)(σ:St)(H:Hp)(x:V)(v:Value)(Q:VK),Inv X af σ H s->aC x v->r x H Q ->
  wq X (f v) (EP X af σ Q) X.xe s
def b8 (X:Cx)(f:Value)(r:List V->Hp->VK->Prop):Prop:=
 ∀(af:AO)(s:Shared)(σ:St)(H:Hp)(xs:List V)(us:LU)(Q:VK),Inv X af σ H s->aL xs us->r xs H Q ->
  wq X (call f us) (EP X af σ Q) X.xe s
def XW (r:R2)(ta tb:TE):TE:=λσ H Q=>ta σ H λx M=>tb σ M λy H2=>r x y H2 Q
def tUn (r:V->Hp->VK->Prop)(ta:TE):TE:=λσ H Q=>ta σ H λx M=>r x M Q
def rI (C:Int->Int->Prop)(g:Int->Int->V):R2:=λx y H Q=>∃i j,x=.int i/\y=.int j/\C i j/\Q (g i j) H
def KS (g:Int->Int->V):R2:=λx y H Q=>∃i j,x=.int i/\y=.int j/\Q (g i j) H
def rU (g:Int->V):V->Hp->VK->Prop:=λx H Q=>∃i,x=.int i/\Q (g i) H
section
variable {X:Cx}{a b c:Expr}{ta tb tc:TE}{pos:Pos}
def PF (ha:PE X a ta)(hb:PE X b tb){af:AO}{s:Shared}{σ:St}{H:Hp}{R:V->V->Hp->Prop}(I:Inv X af σ H s)
  (h:ta σ H λx U=>tb σ U λy H2=>R x y H2) {Q:QV}{f:Value->Value->Sem Value}
  (hf:∀v u s2 x y H2,Inv X af σ H2 s2->aC x v->aC y u->R x y H2->wq X (f v u) Q X.xe s2):
  wq X (eval a X.env) (λv M=>wq X (eval b X.env) (λu O=>wq X (f v u) Q X.xe O) X.xe M) X.xe s:=by
 refine bJ (ha _ s σ H _ I h) λv s1 ⟨x,U,d,e,g⟩=>?_;refine bJ (hb _ s1 σ U _ d g) λu s2 ⟨y,H2,i,j,q2⟩=>?_;exact hf v u s2 x y H2 i e j q2
def TL {op:Operator}{r:R2}(ho:cH X (binaryOp op) r)(ha:PE X a ta)(hb:PE X b tb):PE X (.BinOp a op b pos) (XW r ta tb):=by
 intro af s σ H Q I h;exact wpAny_BinOp (PF ha hb I h λv u s2 x y H2 M O U q=>ho _ s2 σ H2 x y v u Q M O U q)
def TM {op:UnaryOp}{r:V->Hp->VK->Prop}(ho:TK X (unaryOp op) r)(ha:PE X a ta):PE X (.UnaryOp op a pos) (tUn r ta):=by
 intro af s σ H Q I h;exact UnaryOp_ (bJ (ha _ s σ H _ I h) λv s1 ⟨x,M,O,U,d⟩=>ho _ s1 σ M x v Q O U d)
def TN {f:Value->Value->Sem Value}{C:Int->Int->Prop}{g:Int->Int->Int}
  (rule:∀(i j:Int)(t u:Tok)(s:Shared)(Q:QV)(E:QV),C i j->Q (.int (g i j) s.toks) { s with toks:=s.toks+1 }->wq X (f (.int i t) (.int j u)) Q E s):
  cH X f (rI C λi j=>.int (g i j)):=by
 intro af s σ H x y v u Q I M O h;obtain⟨i,j,rfl,rfl,hc,q⟩:=h;obtain⟨t,rfl⟩:=M;obtain⟨t',rfl⟩:=O;exact rule i j t t' s _ _ hc ⟨.int _,H,I.tok _,⟨_,rr⟩,q⟩
def PH {f:Value->Value->Sem Value}{g:Int->Int->Int}
  (rule:∀(i j:Int)(t u:Tok)(s:Shared)(Q:QV)(E:QV),Q (.int (g i j) s.toks) { s with toks:=s.toks+1 }->wq X (f (.int i t) (.int j u)) Q E s):
  cH X f (KS λi j=>.int (g i j)):=by
 intro af s σ H x y v u Q I M O h;obtain⟨i,j,rfl,rfl,q⟩:=h;obtain⟨t,rfl⟩:=M;obtain⟨t',rfl⟩:=O;exact rule i j t t' s _ _ ⟨.int _,H,I.tok _,⟨_,rr⟩,q⟩
def Lp {f:Value->Value->Sem Value}{g:Int->Int->Bool}
  (rule:∀(i j:Int)(t u:Tok)(s:Shared)(Q:QV)(E:QV),Q (.bool (g i j)) s->wq X (f (.int i t) (.int j u)) Q E s):
  cH X f (KS λi j=>.bl (g i j)):=by
 intro af s σ H x y v u Q I M O h;obtain⟨i,j,rfl,rfl,q⟩:=h;obtain⟨t,rfl⟩:=M;obtain⟨t',rfl⟩:=O;exact rule i j t t' s _ _ ⟨.bl _,H,I,rr,q⟩
def TQ (i j:Int):Prop:=0<j/\j<1073741824
def TR (i j:Int):Prop:=0<=j/\j<=1000000/\i.natAbs<2 ^ 64
def Lq (i j:Int):Prop:=(-(2 ^ 64)<i/\i<2 ^ 64)\/(-(2 ^ 64)<j/\j<2 ^ 64)
def Lq.ok (h:Lq i j):IntMulOk i j:=by
 rcases h with⟨h1,h2⟩|⟨h1,h2⟩
 .exact .of_left (intBits_le_64 h1 h2)
 .exact .of_right (intBits_le_64 h1 h2)
def PJ:cH X (binaryOp .Add) (KS λi j=>.int (i+j)):=PH λ_ _ _ _ _ _ _ q=>add_int q
def PK:cH X (binaryOp .Sub) (KS λi j=>.int (i - j)):=PH λ_ _ _ _ _ _ _ q=>sub_int q
def PL:cH X (binaryOp .Mult) (rI Lq λi j=>.int (i*j)):=TN λ_ _ _ _ _ _ _ hc q=>mul_int q hc.ok
def Lr:cH X (binaryOp .FloorDiv) (rI TQ λi j=>.int (i / j)):=TN λi j _ _ _ _ _ hc q=>by
 have h1:=hc.1;have h2:=hc.2;grind[floordiv_int,PyProof.noPylong_small]
def PM:cH X (binaryOp .Mod) (rI (λ_ j=>0<j) λi j=>.int (i % j)):=TN λi j _ _ _ _ _ hc q=>by
 exact mod_int' N9 (by rw[Int.fmod_eq_emod_of_nonneg i N9];exact q)
def PP:cH X (binaryOp .Pow) (rI TR λi j=>.int (i ^ j.toNat)):=TN λ_ _ _ _ _ _ _ hc q=>pow_int_small hc.1 hc.2.1 hc.2.2 q
def PQ:cH X (binaryOp .BitAnd) (KS λi j=>.int (Builtin.bitAnd i j)):=PH λ_ _ _ _ _ _ _ q=>and_int q
def unI {f:Value->Sem Value}{g:Int->Int}
  (rule:∀(i:Int)(t:Tok)(s:Shared)(Q:QV)(E:QV),Q (.int (g i) s.toks) { s with toks:=s.toks+1 }->wq X (f (.int i t)) Q E s):
  TK X f (rU λi=>.int (g i)):=by
 intro af s σ H x v Q I M h;obtain⟨i,rfl,q⟩:=h;obtain⟨t,rfl⟩:=M;exact rule i t s _ _ ⟨.int _,H,I.tok _,⟨_,rr⟩,q⟩
def PR:TK X (unaryOp .USub) (rU λi=>.int (-i)):=unI λ_ _ _ _ _ q=>neg_int q
def EM:cH X (binaryOp .Add) (λx y H Q=>∃i k,x=.int i/\y=.bl k/\Q (.int (i+b2i k)) H):=by
 intro af s σ H x y v u Q I M O h;obtain⟨i,k,rfl,rfl,q⟩:=h;obtain⟨t,rfl⟩:=M;cases O
 exact add_int_bool ⟨.int _,H,I.tok _,⟨_,rr⟩,q⟩
end
section
variable {X:Cx}{a b c:Expr}{ta tb tc:TE}{pos:Pos}
def TU:cH X (compareOp .Lt) (KS λi j=>.bl (decide (i<j))):=Lp λ_ _ _ _ _ _ _ q=>lt_int q
def TV:cH X (compareOp .LtE) (KS λi j=>.bl (decide (i<=j))):=Lp λ_ _ _ _ _ _ _ q=>le_int q
def TW:cH X (compareOp .Gt) (KS λi j=>.bl (decide (j<i))):=Lp λ_ _ _ _ _ _ _ q=>gt_int q
def TX:cH X (compareOp .GtE) (KS λi j=>.bl (decide (j<=i))):=Lp λ_ _ _ _ _ _ _ q=>ge_int q
def Ls (ho:cH X (compareOp op) r)(ha:PE X a ta)(hb:PE X b tb)(hm:behindInMarks op b=false):PE X (.Compare a [op] [b] pos) (XW r ta tb):=by
 intro af s σ H Q I h;exact wpAny_Compare1 (PF ha hb I h λv u s2 x y H2 M O U q=>ho _ s2 σ H2 x y v u Q M O U q) hm
def Oy (t:TE):TT:=λσ H Q=>t σ H λx H'=>∃k,x=.bl k/\Q k H'
def Cf {op:CmpOp}{r:R2}(ho:cH X (compareOp op) r)(ha:PE X a ta)(hb:PE X b tb)(hm:behindInMarks op b=false):PT X (.Compare a [op] [b] pos) (Oy (XW r ta tb)):=by
 intro af s σ H Q I h;refine wpAny_isTrue_Compare1 (bJ (ha _ s σ H _ I h) λv s1 ⟨x,M,O,U,d⟩=>bJ (hb _ s1 σ M _ O d) λu s2 ⟨y,H2,f,g,q2⟩=>
  bJ (ho _ s2 σ H2 x y v u _ f U g q2) λc n ⟨z,i,j,l,k,e,m⟩=>?_) hm
 subst e;cases l
 exact wpAny_truthy_bool ⟨i,j,m⟩
def AF (r O:R2)(ta tb tc:TE):TE:=λσ H Q=>ta σ H λx U=>tb σ U λy H2=>r x y H2 λz M=>∃k,z=.bl k /\
 (if k=true then tc σ M λd e=>O y d e Q else Q (.bl false) M)
def GL {op M:CmpOp}{r U:R2}(ho:cH X (compareOp op) r)(O:cH X (compareOp M) U)(ha:PE X a ta)(hb:PE X b tb)(hc:PE X c tc)
  (hm:lastMarks [op,M] [b,c]=false:=by with_unfolding_all rfl):PE X (.Compare a [op,M] [b,c] pos) (AF r U ta tb tc):=by
 intro af s σ H Q I h;refine Compare_chain (bJ (ha _ s σ H _ I h) λv s1 ⟨x,l,m,n,o⟩=>chain_link (bJ (hb _ s1 σ l _ m o) λu s2 ⟨y,H2,p,f,q2⟩=>
  bJ (ho _ s2 σ H2 x y v u _ p n f q2) λd q ⟨z,g,i,t,k,e,j⟩=>?_)) hm
 subst e;cases t
 refine wpAny_truthy_bool ?_;cases k with
 |false=>exact ite_ff ⟨.bl _,g,i,rr,j⟩
 |true=>exact ite_tt (chain_last (bJ (hc _ q σ g _ i j) λw A ⟨B,C,D,E,F⟩=>O _ A σ C y B u w Q D f E F))
def GN {op M:CmpOp}{r U:R2}(ho:cH X (compareOp op) r)(O:cH X (compareOp M) U)(ha:PE X a ta)(hb:PE X b tb)(hc:PE X c tc)
  (hm:lastMarks [op,M] [b,c]=false:=by with_unfolding_all rfl):PT X (.Compare a [op,M] [b,c] pos) (Oy (AF r U ta tb tc)):=by
 intro af s σ H Q I h;refine isTrue_chain (bJ (ha _ s σ H _ I h) λv s1 ⟨x,l,m,n,o⟩=>test_link (bJ (hb _ s1 σ l _ m o) λu s2 ⟨y,H2,p,f,q2⟩=>
  bJ (ho _ s2 σ H2 x y v u _ p n f q2) λd q ⟨z,g,i,t,k,e,j⟩=>?_)) hm
 subst e;cases t
 refine wpAny_truthy_bool ?_;cases k with
 |false=>
  obtain⟨k',w,A⟩:=j;cases w
  exact ite_ff ⟨g,i,A⟩
 |true=>
  refine ite_tt (test_last (bJ (hc _ q σ g _ i j) λB C ⟨D,E,F,G,J⟩=>bJ (O _ C σ E y D u B _ F f G J) λd' R ⟨S,K,L,N,k2,e2,P⟩=>?_));subst e2;cases N
  exact wpAny_truthy_bool ⟨K,L,P⟩
def nM:(sizeLine:Nat)<2 ^ 63:=H9
def AG:cH X (binaryOp .Add) (λx y H Q=>∃i j,x=.str i/\y=.str j/\i.length+j.length<=sizeLine/\Q (.str (i++j)) H):=by
 intro af s σ H x y v u Q I M O h;obtain⟨i,j,rfl,rfl,hz,q⟩:=h;obtain⟨t,rfl⟩:=M;obtain⟨t',rfl⟩:=O;exact add_str (λt' tk=>⟨.str _,H,I.tok _,⟨_,rr⟩,q⟩) hz
def fZ (r:aL [x] us):∃u,us=[u]/\aC x u:=by
 cases r with
 |cons M O=>cases O;exact⟨_,rr,M⟩
def GO (r:aL [x,y] us):∃u M,us=[u,M]/\aC x u/\aC y M:=by
 cases r with
 |cons O U=>
  cases U with
  |cons d e=>cases e;exact⟨_,_,rr,O,d⟩
def EN (hc:X.calm=true):b8 X (.builtin "min") (λxs H Q=>∃i j,xs=[.int i,.int j]/\Q (.int (if j<i then j else i)) H):=by
 intro af s σ H xs us Q I r h;obtain⟨i,j,rfl,q⟩:=h;obtain⟨u,M,rfl,⟨t,rfl⟩,⟨t',rfl⟩⟩:=GO r;refine min_two_ints (I.ok.hd hc) λh' tk k=>⟨_,H,I.kept k,?_,q⟩;by_cases hj:j<i
 .rw[if_pos hj,if_pos hj];exact⟨_,rr⟩
 .rw[if_neg hj,if_neg hj];exact⟨_,rr⟩
end
structure Oo (h:Heap)(x dx C:Addr)(mA:Str->Option Value):Prop where
 obj:h.get? x=some (PySem.W.instObj C dx)
 ns:h.Ns1 dx mA
 ne:dx≠x
def EO {h:Heap}{dx:Addr}{mA:SV}(n:h.Ns1 dx mA):∃od,h.get? dx=some od/\∀name,PySem.W.lookIn name od=some (mA name):=by
 obtain⟨o,es,O,ho,hd,hk,_,hm⟩:=n;refine⟨o,ho,λname=>?_⟩;have e:=hm name;unfold nsFind findBy at e;rw[<-Array.find?_toList]at e;unfold PySem.W.lookIn;rw[hd];dsimp;split
 .simp_all
 .have a:es.toList.any (·.refKey)=false:=by
   rw[List.any_eq_false];intro y hy;obtain⟨z,t,M⟩:=hk y (Array.mem_toList_iff.mp hy);simp[DictEntry.refKey,M]
  split<;>simp_all
def Oo.look (I:Oo h x dx C mA):∃od,PySem.W.InstAt h x (PySem.W.instObj C dx) C (some od)/\∀name,PySem.W.lookIn name od=some (mA name):=
 let ⟨od,ho,hl⟩:=EO I.ns
 ⟨od,⟨I.obj,rr,rr,ho⟩,hl⟩
section
variable {prog:Program}{w:World}{A:Around}{E:QV}{s:Shared}{K:Frag}{x dx C f:Addr}{mA:SV}{name:Str}{v:Value}
end
def kZ.some_of (r:kZ (some v) o):∃u,o=some u/\aC v u:=by
 cases o with
 |none=>exact(show False from r).elim
 |some u=>exact⟨u,rr,r⟩
section
variable {P:Program}{w:World}{H H':Hp}{h h':Heap}{a C dx:Addr}{fs fs':List (Str×V)}
def Cg (hok:lb P w H h)(e:H a=some (.ins C dx fs)):∃mA,Oo h a dx C mA/\(∀f,kZ (fs.lookup f) (mA f))/\PySem.Within mA (fs.map (·.1))/\fs.length<=1000/\H dx=some (.own a):=by
 obtain⟨d,z,ne,ob,mA,n,r,q⟩:=(show bf P w H h a _ from hok a _ e);exact⟨mA,⟨ob,n,ne⟩,r,q,z,d⟩
end
structure Cls (K:Frag)(C:Addr):Prop where
 pg:PySem.W.plainGet K C Str.empty=true
 hd:PySem.W.hasDictIn K C=true
 po:PySem.W.plainOver K C=true
 sa:PySem.W.findIn K (.ref C) "__setattr__" = some (some (.builtin "object.__setattr__"))
def Cls.get {K:Frag}{C:Addr}(c:Cls K C)(f:Str):PySem.W.plainGet K C f=true:=c.pg
structure Meth (K:Frag)(C:Addr)(m:Str)(f:Addr):Prop where
 at_:PySem.W.findIn K (.ref C) m=some (some (.ref f))
 fn:PySem.W.isFn K (.ref f)=true
 kp:PySem.W.keepIn K (.ref f)=true
section
variable {X:Cx}{af:AO}{σ:St}{H:Hp}{s:Shared}{a C dx:Addr}{fs:List (Str×V)}{f:Str}{v:V}{A:Around}{E:QV}
end
section
variable {X:Cx}{o e value:Expr}{f:Str}{pos K9 Sm:Pos}{ta tv:TE}
end
section
variable {X:Cx}{af:AO}{σ:St}{H:Hp}{s:Shared}{A:Around}{E:QV}{Q:QV}{c:Value}{b:Bool}
inductive TyOf (K:Frag)(H:Hp):V->Value->Prop where
 |non:TyOf K H .non (.type "NoneType")
 |bl (x:Bool):TyOf K H (.bl x) (.type "bool")
 |int (i:Int):TyOf K H (.int i) (.type "int")
 |str (x:Str):TyOf K H (.str x) (.type "str")
 |flt (x:UInt64):TyOf K H (.flt x) (.type "float")
 |lst {a:Addr}{xs:List V}(e:H a=some (.lst xs)):TyOf K H (.ref a) (.type "list")
 |frz {a:Addr}{o:Obj}{xs:List V}(e:H a=some (.frz o (.lst xs))):TyOf K H (.ref a) (.type "list")
 |tup {a:Addr}{xs:List V}(e:H a=some (.tup xs)):TyOf K H (.ref a) (.type "tuple")
 |dK {a:Addr}{aA:List (dB×V)}{ob:Obj}(e:H a=some (.dK aA ob)):TyOf K H (.ref a) (.type "dict")
 |dT {a:Addr}{aA:List (List dB×V)}(e:H a=some (.dT aA)):TyOf K H (.ref a) (.type "dict")
 |ins {a C dx:Addr}{fs:List (Str×V)}(e:H a=some (.ins C dx fs)) (cl:Cls K C) (ha:PySem.W.findIn K (.ref C) "__class__" = some (some (.builtin "object.__class__")))
   (hn:PySem.W.specialIn K (.builtin "object.__class__") "__get__" = some (some (.builtin "getset_descriptor.__get__"))) (htk:PySem.W.takesIn K (.builtin "object.__class__")=some true)
   (hm:PySem.W.mroIn K C (.type "object")=some true):TyOf K H (.ref a) (.ref C)
def fT (I:Inv X af σ H s)(M:aC x u)(ty:TyOf X.K H x t)(e:PySem.W.kitOne X.K t c=some b)(h:∀tk,Q (.bool b) { s with toks:=tk }):
  wpAny (model X.prog X.w) A (call (.builtin "isinstance") [u,c]) Q E s:=by
 cases ty with
 |non=>cases (show u=Value.none from M);exact kia_one PySem.W.kitx_none I.kIn True.intro e (λz=>nomatch z) h
 |bl y=>cases (show u=Value.bool y from M);exact kia_one PySem.W.kitx_bool I.kIn True.intro e (λz=>nomatch z) h
 |int i=>obtain⟨t,q⟩:=(show ∃t,u=Value.int i t from M);cases q;exact kia_one PySem.W.kitx_int I.kIn True.intro e (λz=>nomatch z) h
 |str y=>obtain⟨t,q⟩:=(show ∃t,u=Value.str y t from M);cases q;exact kia_one PySem.W.kitx_str I.kIn True.intro e (λz=>nomatch z) h
 |flt y=>obtain⟨t,q⟩:=(show ∃t,u=Value.float y t from M);cases q;exact kia_one PySem.W.kitx_float I.kIn True.intro e (λz=>nomatch z) h
 |@lst a xs U=>
  cases (show u=Value.ref a from M)
  obtain⟨_,_,n,_,h1⟩:=(show bf X.prog X.w H s.heap a (.lst xs)from I.hok a _ U);exact kia_one PySem.W.kitx_list I.kIn ⟨_,h1,rr⟩ e (λz=>nomatch z) h
 |@frz a ob xs U=>
  cases (show u=Value.ref a from M)
  obtain⟨_,_,_,n,_,h1⟩:=(show bf X.prog X.w H s.heap a (.frz ob (.lst xs))from I.hok a _ U);exact kia_one PySem.W.kitx_list I.kIn ⟨_,h1,rr⟩ e (λz=>nomatch z) h
 |@tup a xs U=>
  cases (show u=Value.ref a from M)
  obtain⟨_,_,_,p⟩:=(show bf X.prog X.w H s.heap a (.tup xs)from I.hok a _ U);obtain⟨o,h1,h2,_⟩:=p;exact kia_one PySem.W.kitx_tuple I.kIn ⟨o,h1,h2⟩ e (λz=>nomatch z) h
 |@dK a aA ob U=>
  cases (show u=Value.ref a from M)
  obtain⟨_,_,_,vs,_,p⟩:=(show bf X.prog X.w H s.heap a (.dK aA ob)from I.hok a _ U);obtain⟨o,es,d,h1,h2,_⟩:=p;exact kia_one PySem.W.kitx_dict I.kIn ⟨o,h1,h2.1⟩ e (λz=>nomatch z) h
 |@dT a aA U=>
  cases (show u=Value.ref a from M)
  obtain⟨_,_,xs,_,o,es,d,h1,h2,_⟩:=(show bf X.prog X.w H s.heap a (.dT aA)from I.hok a _ U);exact kia_one PySem.W.kitx_dict I.kIn ⟨o,h1,h2.1⟩ e (λz=>nomatch z) h
 |@ins a C dx fs U cl ha hn htk hm=>
  cases (show u=Value.ref a from M)
  obtain⟨mA,O,_⟩:=Cg I.hok U;obtain⟨od,J,_⟩:=O.look;exact kia_one (PySem.W.kitx_own (cl.get _) cl.hd ha hn htk hm) I.kIn J e (λz=>nomatch z) h
end
structure dF (k:Nat)(A:Around):Prop where
 hd:A.handled=none
 dp:A.depth+3*k+5<recursionLimit
 un:A.units+16*k+200<cLine
def dF.mono (r:dF k A)(h:j<=k):dF j A:=⟨r.hd,by have:=r.dp;lia,by have:=r.un;lia⟩
def dF.deeper (r:dF (k+1) A)(env:Env):dF k (A.deeper env):=
 ⟨r.hd,by have:=r.dp;show A.depth+1+3*k+5<_;lia,by have:=r.un;simp<;>lia⟩
def dF.in1 (r:dF (k+1) A):dF k A.in1:=
 ⟨r.hd,by have:=r.dp;lia,by have:=r.un;lia⟩
def dF.depth (r:dF k A):A.depth<recursionLimit:=by have:=r.dp;lia
def TZ:TA:=λ_ H Q=>Q [] H
def O0 (ta:TE)(M:TA):TA:=λσ H Q=>ta σ H λx O=>M σ O λxs H2=>Q (x::xs) H2
section
variable {X:Cx}{e:Expr}{es:QD}{te:TE}{t:TA}{pos:Pos}
def fF:PA X [] TZ:=λ_ _ _ _ H Q I h=>Calls.spliced_nil ⟨[],H,I,.nil,h⟩
def de (ha:PE X e te)(hr:PA X es t)(hs:dv e es X.env:=by rfl):PA X (e::es) (O0 te t):=by
 intro pos af s σ H Q I h;rw[hs];refine Calls.spliced_cons (bJ (ha _ s σ H _ I h) λu s1 ⟨x,M,O,U,a⟩=>?_);exact bJ (hr _ _ s1 σ M _ O a) λus s2 ⟨xs,H2,b,c,q2⟩=>⟨x::xs,H2,b,.cons U c,q2⟩
def Ua (t:TA):TE:=λσ H Q=>t σ H λxs M=>xs.length<=sizeLine/\∀p,M p=none->Q (.ref p) (upd M p (.tup xs))
def Y8 (t:TA):TE:=λσ H Q=>t σ H λxs M=>xs.length<=sizeLine/\∀p,M p=none->Q (.ref p) (upd M p (.lst xs))
def wo {U}(h:PA X es t):PE X (.Tuple es U pos) (Ua t):=by
 intro af s σ H Q I hq;refine wpAny_Tuple_spliced (bJ (h _ _ s σ H _ I hq) λus s1 ⟨xs,O,M,r,z,q⟩=>⟨by rw[<-r.length];exact z,?_⟩);have hf:=M.hok.fresh (vT _);refine⟨.ref _,upd O _ _,M.laid (λb u e=>vZ _ e) (vT _) ?_,rr,q _ hf⟩;exact⟨z,us,r,⟨_,vY _ rr,rr,_,rr⟩⟩
def PX (h:PA X es t):PE X (.List es pos) (Y8 t):=by
 intro af s σ H Q I hq;refine wpAny_List_spliced (bJ (h _ _ s σ H _ I hq) λus s1 ⟨xs,O,M,r,z,q⟩=>⟨by rw[<-r.length];exact z,?_⟩);have hf:=M.hok.fresh (vT _);refine⟨.ref _,upd O _ _,M.laid (λb u e=>vZ _ e) (vT _) ?_,rr,q _ hf⟩;exact⟨z,us,0,r,vY _ rr⟩
end
abbrev Sp:=List V->Hp->VK->XK->Prop
abbrev O1:=List Env->Hp->Shared->XK->QV
structure Env0 (P:Program)(w:World)(K:Frag)(mg:Str->Option Value)(base:Heap)(A:Around)(outer:List Env)(s:Shared)(H:Hp):Prop where
 frames:A.frames=some outer
 mod:Mod K mg base
 bs:∀b o,base.get? b=some o->s.heap.get? b=some o/\H b=none
 bsz:base.objs.size<=s.z
 funs:s.heap.FunFrames base outer
 frf:∀b∈GB outer,H b=none
 hok:lb P w H s.heap
 bare:AllBare s.gens
def CE (outer:List Env)(P:Program)(w:World)(H:Hp)(s:Shared)(Q:VK)(u:Value)(s':Shared):Prop:=
 ∃v H',s'.os=s.os/\AllBare s'.gens/\Un (GB outer) [] H H' s.heap s'.heap/\lb P w H' s'.heap/\aC v u/\Q v H'
def CR (CX:O1)(outer:List Env)(P:Program)(w:World)(H:Hp)(s:Shared)(Q:VK)(E:XK)(r:Result)(s':Shared):Prop:=
 match r with
 |.ok (.ret u)=>CE outer P w H s Q u s'
 |.ok _=>False
 |.error e=>CX outer H s E e s'
structure t8 (P:Program)(w:World)(K:Frag)(mg:Str->Option Value)(base:Heap)(CX:O1)(k:Nat)(f:Addr)(fd:FuncData)(ps:List Str)(sp:Sp):Prop where
 len:∀vs H Q E,sp vs H Q E->vs.length=ps.length
 run:∀(A:Around)(outer:List Env)(s:Shared)(H:Hp)(args:Args)(us:List Value)(vs:List V)(Q:VK)(E:XK),dF k A->Env0 P w K mg base A outer s H->BindsTo s fd args (ps.zip us)->aL vs us->sp vs H Q E ->
  codeAny (model P w) A (.call (.ref f) args) (CR CX outer P w H s Q E) s
section
variable {X:Cx}{af:AO}{σ:St}{H:Hp}{s s':Shared}
def Inv.env0 (I:Inv X af σ H s):Env0 X.prog X.w X.K X.mg X.base X.A X.stack s H:=
 ⟨I.ok.frames,I.ok.mod,I.bs,vR I.ok.bsz I.sz,I.stack,I.stkFree,I.hok,I.bare⟩
def Inv.after (I:Inv X af σ H s)(h:CE X.stack X.prog X.w H s Q u s'):EP X af σ Q u s':=by
 obtain⟨v,H',os,bare,un,hok,r,q⟩:=h;obtain⟨hh,g,d,t,M⟩:=s';obtain rfl:M=s.os:=os;exact⟨v,H',I.call un hok bare (λb z=>absurd z X9),r,q⟩
end
def Ub (sp:Sp)(M:List V)(E:XK)(t:TA):TE:=λσ H Q=>t σ H λvs O=>sp (vs++M) O Q E
def oR (K:Frag)(fd:FuncData)(ps:LS)(ds:LU):Prop:=
 ∀(s:Shared)(us:LU),K.In s.heap->(us++ds).length=ps.length->BindsTo s fd ⟨us,[]⟩ (ps.zip (us++ds))
def oR.all {K:Frag}{fd:FuncData}{ps:LS}(h:∀us:LU,us.length=ps.length->bindArgs fd ⟨us,[]⟩=pure (ps.zip us)):oR K fd ps []:=λs us _ hl=>by
 rw[uQ]at hl |-;exact .of_eq (h us hl)
def AI (CX:O1)(X:Cx)(E:XK):Prop:=∀(af:AO)(σ:St)(H:Hp)(s:Shared)(e:Value)(s':Shared),Inv X af σ H s->CX X.stack H s E e s'->X.xe e s'
section
variable {X:Cx}{CX:O1}{k:Nat}{f C:Addr}{fd:FuncData}{ps:LS}{sp:Sp}{Xl:List V}{ds:LU}{E:XK}{x m:Str}{p pos cn:Pos}{e o:Expr}{es:QD}{ta:TE}{t:TA}
def PY {af:AO}{σ:St}{H:Hp}{s:Shared}{Q:VK}{us:LU}{vs:List V}(F:t8 X.prog X.w X.K X.mg X.base CX k f fd ps sp)(hr:dF k X.A)(hb:oR X.K fd ps ds)(hd:aL Xl ds)(hx:AI CX X E)
  (I:Inv X af σ H s) (r:aL vs us) (h:sp (vs++Xl) H Q E):wq X (call (.ref f) us) (EP X af σ Q) X.xe s:=by
 have M:=r.append hd;have hl:(us++ds).length=ps.length:=by rw[<-M.length];exact F.len _ _ _ _ h
 refine wpAny_call (codeAny_mono (F.run _ _ s H _ _ _ Q E hr I.env0 (hb s us I.kIn hl) M h) λr s' hq=>?_);cases r with
 |error e=>exact hx _ σ H s e s' I hq
 |ok fl=>
  cases fl with
  |ret u=>exact I.after hq
  |next=>exact False.elim hq
  |brk=>exact False.elim hq
  |cont=>exact False.elim hq
def Lu (F:t8 X.prog X.w X.K X.mg X.base CX k f fd ps sp)(hr:dF k X.A)(a:Gl X x)(hm:X.mg x=some (.ref f))(hk:PySem.W.keepIn X.K (.ref f)=true)(hb:oR X.K fd ps ds)(hd:aL Xl ds)(hx:AI CX X E)
  (ha:PA X (e::es) t) (M:bj x:=by decide) (he:dv e es X.env:=by rfl) (O:j8 pos es X.env:=by rfl):
  PE X (.Call (.Name x p) (e::es) [] pos) (Ub sp Xl E t):=by
 intro af s σ H Q I h;refine wpAny_Call_Name_kw (wl I a hm ?_ M);refine PySem.W.callWith_K I.ok.mod.kin hk (bJ (ha _ _ s σ H _ I h) λus s1 ⟨vs,b,U,r,q⟩=>⟨U.kIn,?_⟩) he O;exact PY F hr hb hd hx U r q
end
structure FnScope (N P:List Str)(sc:Scope):Prop where
 kind:sc.kind=.function
 co:sc.isCoroutine=false
 gen:sc.isGenerator=false
 nd:N.Nodup
 pre:N.take P.length=P
 par:∀x∈P,sc.names.lookup x=some .local\/sc.names.lookup x=some .cell
 nofree:∀y∈sc.names,y.2≠.free
theorem tW {kindOf:Str->Option NameKind}{x:Str}:∀ {binds:List (Str×Value)}{m:SV},(∀v,(x,v)∉binds)->bindL kindOf binds m x=m x
 |[],_,_=>rr
 | (n,v)::r,m,h=>by
  unfold bindL;rw[tW λw hw=>h w (mZ _ hw)];split
  .grind
  .rfl
theorem tX {kindOf:Str->Option NameKind}{x:Str}:∀ {binds:List (Str×Value)}{m:SV},(∀v,(x,v)∉binds)->bindC kindOf binds m x=m x
 |[],_,_=>rr
 | (n,v)::r,m,h=>by
  unfold bindC;rw[tX λw hw=>h w (mZ _ hw)];split
  .rfl
  grind
theorem tY {kindOf:Str->Option NameKind}{x:Str}{v:Value}:∀ {P:LS}{vs:LU}{i:Nat}{m:SV},P.Nodup->P[i]? = some x->vs[i]? = some v->kindOf x=some .local ->
  bindL kindOf (P.zip vs) m x=some v
 |[],_,_,_,_,h,_,_=>by simp at h
 |_::_,[],_,_,_,_,h,_=>by simp at h
 |p::P,w::vs,0,m,nd,h1,h2,hk=>by
  simp at h1 h2;subst h1;subst h2;show bindL _ ((p,w)::P.zip vs) m p=_;unfold bindL;rw[tW λv hv=>(nodup_cons.mp nd).1 (of_mem_zip hv).1,if_pos hk];simp
 |p::P,w::vs,i+1,m,nd,h1,h2,hk=>by
  unfold bindL;exact tY (nodup_cons.mp nd).2 (by simpa using h1) (by simpa using h2) hk
theorem tZ {kindOf:Str->Option NameKind}{x:Str}{v:Value}:∀ {P:LS}{vs:LU}{i:Nat}{m:SV},P.Nodup->P[i]? = some x->vs[i]? = some v->kindOf x≠some .local ->
  bindC kindOf (P.zip vs) m x=some v
 |[],_,_,_,_,h,_,_=>by simp at h
 |_::_,[],_,_,_,_,h,_=>by simp at h
 |p::P,w::vs,0,m,nd,h1,h2,hk=>by
  simp at h1 h2;subst h1;subst h2;show bindC _ ((p,w)::P.zip vs) m p=_;unfold bindC;rw[tX λv hv=>(nodup_cons.mp nd).1 (of_mem_zip hv).1,if_neg hk];simp
 |p::P,w::vs,i+1,m,nd,h1,h2,hk=>by
  unfold bindC;exact tZ (nodup_cons.mp nd).2 (by simpa using h1) (by simpa using h2) hk
noncomputable def lq (N:LS)(vs:List V):St:=vs.map some++List.replicate (N.length - vs.length) none
noncomputable def qw (CX:O1)(P:Program)(w:World)(K:Frag)(mg:SV)(base:Heap)(N:LS)(qual:Str)(scope:Scope)(f:Addr)(cd:Value)(A:Around)(outer:List Env)(s:Shared)(H:Hp)(E:XK):Cx where
 prog:=P
 w:=w
 K:=K
 mg:=mg
 base:=base
 A:=A.deeper (envOfC qual scope s.z f cd)
 N:=N
 s₀:=s
 H₀:=H
 env:=envOfC qual scope s.z f cd
 outer:=outer
 stack:=envOfC qual scope s.z f cd::outer
 ex:=[]
 calm:=true
 fn:=λ_=>true
 pn:=[]
 xe:=λe s'=>wpAny (model P w) (A.deeper (envOfC qual scope s.z f cd)) (leaving (envOfC qual scope s.z f cd) e) (λ_ M=>CX outer H s E e M) (λO M=>CX outer H s E O M) s'
def qx {sc:Scope}{n:Nat}{x:Str}(h:sc.names.lookup x=some .cell):∃c,(cellsFrom n sc.names []).lookup x=some c:=by
 have q:=PySem.W.cellsFrom_some _ n [] (.inl h);exact uU q
def EQ {CX:O1}{P:Program}{w:World}{K:Frag}{mg:SV}{base:Heap}{N ps:LS}{qual:Str}{scope:Scope}{f:Addr}{cd:Value}{A:Around}{outer:List Env}{s s1:Shared}{H:Hp}{E:XK}{us:LU}{vs:List V}
  (S:FnScope N ps scope) (hd:A.handled=none) (M:Env0 P w K mg base A outer s H) (hl:vs.length=ps.length) (r:aL vs us)
  (x:InCallC s s.z (bindL (envOfC qual scope s.z f cd).kindOf (ps.zip us) λ_=>none) (cellsFrom (s.z+1) scope.names []) (bindC (envOfC qual scope s.z f cd).kindOf (ps.zip us) λ_=>none) s1):
  Inv (qw CX P w K mg base N qual scope f cd A outer s H E) [] (lq N vs) H s1:=by
 have d:ps.length<=N.length:=by have:=congrArg List.length S.pre;grind
 obtain⟨h1,tk,rfl,hk⟩:=x.done;have O:∀b:Addr,b∉(qw CX P w K mg base N qual scope f cd A outer s H E).ex:=λb z=>absurd (show b∈([]:List Addr)from z) X9;refine⟨⟨M.mod,S.kind,rr,rr,vT _,λy z c h1 h2=>?_,λy hy=>?_,λy c _ h=>?_,λ_=>hd,Around.frames_deeper M.frames,.inr ⟨rr,rr⟩,λb z=>absurd z (O b),M.bs,M.bsz,λb _ _=>O b,λb z=>absurd z (O b),M.funs,M.frf⟩,
  rr,M.bare,Un.kept hk,⟨_,x.toInCall.ns,λi y v h1 h2 h3=>?_⟩,λy c h=>⟨_,x.cell y c h⟩,M.hok.fresh (vT _),λy c h=>?_,λp hp=>absurd (show p∈([]:AO)from hp) X9,M.hok.kept hk,?_⟩
 .exact name_of_addr x.apart (PySem.mem_of_lookup h1) (PySem.mem_of_lookup h2)
 .rcases hy with hy|hy
  .exact qx hy
  .exact absurd rr (S.nofree _ (PySem.mem_of_lookup hy))
 .exact le_of_lt (x.above y c (PySem.mem_of_lookup h))
 .have hi:i<vs.length:=by
   unfold lq at h2;by_cases hi:i<vs.length
   .exact hi
   .rw[getElem?_append_right (by simpa using hi)]at h2;rw[List.getElem?_replicate]at h2;split at h2<;>cases h2
  have ha:vs[i]? = some v:=by
   simp_all[lq,getElem?_append_left]
  obtain⟨u,hu,a⟩:=r.get ha;have hp:ps[i]? = some y:=by
   rw[<-S.pre,List.getElem?_take_of_lt N9];exact h1
  have U:ps.Nodup:=by rw[<-S.pre];exact S.nd.sublist (take_sublist _ _)
  refine⟨u,a,?_⟩;rcases S.par y (vL hp)with k|k
  .exact .inl ⟨k,tY U hp hu k⟩
  .obtain⟨c,e⟩:=qx (n:=s.z+1) k;refine .inr ⟨.inl k,c,e,?_⟩;have q:=x.cell y c e;rw[tZ U hp hu (by show scope.names.lookup y≠_;rw[k];decide)]at q;exact q
 .exact M.hok.fresh (le_of_lt (x.above y c (PySem.mem_of_lookup h)))
 .unfold lq;show _=N.length;simp_all
def O2 {CX:O1}{P:Program}{w:World}{K:Frag}{mg:SV}{base:Heap}{k:Nat}{f:Addr}{name qual:Str}{params:Arguments}{M:List Stmt}{scope:Scope}{g kV doc pm dR ct oc:Value}{an od:Option Addr}
  {nL:Array (Option Value)}{N ps:LS}{sp:Sp}(j:K.lookup f=some ⟨oc,od,.func (fnOf name qual params M scope g kV doc pm an dR ct),nL⟩) (l:PySem.W.codeIn K dR qual=true) (S:FnScope N ps scope)
  (len:∀vs H Q E,sp vs H Q E->vs.length=ps.length)
  (U:∀(A:Around)(outer:List Env)(s:Shared)(H:Hp)(vs:List V)(Q:VK)(E:XK),dF k (A.deeper (envOfC qual scope s.z f dR))->sp vs H Q E ->
   ∃t,tV (qw CX P w K mg base N qual scope f dR A outer s H E) M t/\t { nx:=λ_ H'=>Q .non H',rt:=Q } (lq N vs) H):
  t8 P w K mg base CX (k+1) f (fnOf name qual params M scope g kV doc pm an dR ct) ps sp:=by
 refine⟨len,λA outer s H args us vs Q E hr a hb r h=>?_⟩;have hl:=len _ _ _ _ h;have i:=a.mod.kin.keeps λb o e=>(a.bs b o e).1;have c:=a.mod.nolimit.keeps λb o e=>(a.bs b o e).1;have m:∀y∈ps.zip us,scope.names.lookup y.1=some _\/(scope.names.lookup y.1=some .cell/\((cellsFrom (s.z+1) _ []).lookup y.1).isSome=true):=λ⟨n,v⟩ hy=>by
  rcases S.par n (of_mem_zip hy).1 with q|q
  .exact .inl q
  .exact .inr ⟨q,PySem.W.cellsFrom_some _ _ _ (.inl q)⟩
 refine codeAny_call_function hr.depth (i _ _ j) rr S.co S.gen rr (PySem.W.codeRec_of i l) (hb _ _ _ _ ?_);refine wpAny_newFunctionEnv_cells S.kind m λenv he s1 x=>?_;subst he;refine⟨c.keeps x.toInCall.keep,codeAny_func ?_⟩;obtain⟨t,p,hq⟩:=U A outer s H vs Q E (hr.deeper _) h;have I:Inv (qw CX P w K mg base N qual scope f dR A outer s H E) [] _ H s1:=EQ S hr.hd a hl r x;refine wpAny_mono (p [] s1 _ H _ I hq) (λfl s' hs=>?_) λe s' hs=>hs;have dQ:∀ {O:St}{H':Hp}{v:V}{u:Value},Inv (qw CX P w K mg base N qual scope f dR A outer s H E) [] O H' s'->aC v u->Q v H'->CE outer P w H s Q u s':=
  λ{O H' v u} J d q=>⟨v,H',J.os,J.bare,J.base,J.hok,d,q⟩
 cases fl with
 |ret u=>
  obtain⟨v,O,H',J,d,q⟩:=hs;exact dQ J d q
 |next=>
  obtain⟨O,H',J,q⟩:=hs;exact dQ (v:=V.non) J rr q
 |brk=>
  obtain⟨_,_,_,q⟩:=hs;simp_all
 |cont=>
  obtain⟨_,_,_,q⟩:=hs;simp_all
section
variable {X:Cx}{x:Str}{p pos:Pos}{e:Expr}{es:QD}{t:TA}{id T:String}{r:List V->Hp->VK->Prop}
def tCB (r:List V->Hp->VK->Prop)(t:TA):TE:=λσ H Q=>t σ H λvs M=>r vs M Q
def qy (hc:b8 X (.builtin id) r)(U:Gl X x)(hm:X.mg x=none)(hv:bootBuiltins x=some (.builtin id))(ha:PA X (e::es) t)(hn:x ≠ "__name__":=by decide)(M:bj x:=by decide)
  (he:dv e es X.env:=by rfl) (O:j8 pos es X.env:=by rfl):PE X (.Call (.Name x p) (e::es) [] pos) (tCB r t):=by
 intro af s σ H Q I h;refine wpAny_Call_Name_kw (fE I U hm hv ?_ hn M);exact PyProof.Rows.callWith_builtin1 (bJ (ha _ _ s σ H _ I h) λus s1 ⟨vs,a,b,c,d⟩=>hc _ s1 σ a vs us Q b c d) he O
def nN (hc:b8 X (.type T) r)(U:Gl X x)(hm:X.mg x=none)(hv:bootBuiltins x=some (.type T))(ha:PA X (e::es) t)(hn:x ≠ "__name__":=by decide)(M:bj x:=by decide)
  (he:dv e es X.env:=by rfl) (O:j8 pos es X.env:=by rfl):PE X (.Call (.Name x p) (e::es) [] pos) (tCB r t):=by
 intro af s σ H Q I h;refine wpAny_Call_Name_kw (fE I U hm hv ?_ hn M);exact PyProof.Rows.callWith_type1 (bJ (ha _ _ s σ H _ I h) λus s1 ⟨vs,a,b,c,d⟩=>hc _ s1 σ a vs us Q b c d) he O
end
end L2
namespace HT
open PySem PyProof.Rows
section
open PySem.SeqAt
open PySem.AutoSeq1 (wpAny_loadPart')
open PySem.MeetsSeq PySem.MeetsSeq2 PySem.MeetsSeq3
end
section
variable {prog:Program}{w:World}{A:Around}{E:QV}{s:Shared}
def Lv (d:IsTup s.heap t vs.toArray)(hb:IsTup s.heap b ws.toArray)(hv:vs≠[])
  (h1:ws=[]->Q (.ref t) s) (h2:ws≠[]->Q (.ref s.z) { s with heap:=s.heap.push { cls:=.type "tuple",data:=.seq (vs++ws).toArray } })
  (hsz:vs.length+ws.length<=sizeLine):wpAny (model prog w) A (binaryOp .Add (.ref t) (.ref b)) Q E s:=by
 obtain⟨⟨cls,dd,data,sl⟩,ho,hc,n,hd⟩:=id d;obtain⟨⟨f,O,data2,U⟩,M,a,n2,c⟩:=id hb;simp only at hc hd a c;subst hc hd a c;have e:vs.toArray++ws.toArray=(vs++ws).toArray:=X9
 by_cases hw:ws=[]
 .exact concat_meets ⟨_,ho,rr⟩ ⟨_,M,rr⟩ noFill_tuple_add seq_tuple_add slot_tuple_add entry_tuple_add (args_tuple_add_2 _ _)
   (tuple_addW1 t b vs.toArray ws.toArray n n2 dd O sl U (by simpa using hv) (by simp[hw])) ⟨ho,M,h1 hw⟩
 .refine concat_meets ⟨_,ho,rr⟩ ⟨_,M,rr⟩ noFill_tuple_add seq_tuple_add slot_tuple_add entry_tuple_add (args_tuple_add_2 _ _)
   (tuple_addW2 t b vs.toArray ws.toArray n n2 dd O sl U (by simpa using hv) (by simpa using hw) (by simp_all)) ⟨ho,M,?_⟩
  rw[e];exact h2 hw
noncomputable def df (n d:Nat):OI->Nat
 |none=>d
 |some v=>if v<0 then (v+(n:Int)).toNat else min v.toNat n
def GQ (n d:Nat):df n d none=d:=rfl
def Lx (n d k:Nat):df n d (some (k:Int))=min k n:=by
 rfl
def PZ (n d:Nat)(hd:d<=n)(o:OI):df n d o<=n:=by
 cases o with
 |none=>exact hd
 |some v=>
  show(if v<0 then (v+(n:Int)).toNat else min v.toNat n)<=n;by_cases hv:v<0
  .rw[if_pos hv];lia
  .rw[if_neg hv];exact Nat.min_le_right _ _
def Ch (v:Int)(n d:Nat):(if v<0 then max (v+(n:Int)) 0 else min v (n:Int))=((df n d (some v):Nat):Int):=by
 show(if v<0 then max (v+(n:Int)) 0 else min v (n:Int))=(((if v<0 then (v+(n:Int)).toNat else min v.toNat n):Nat):Int);grind
def AJ (lo hi:OI)(n:Nat):Builtin.Slice.sliceAdjust lo hi 1 (n:Int)=(((df n 0 lo:Nat):Int),((df n n hi:Nat):Int)):=by
 have h1:¬((1:Int)<0):=N9
 unfold Builtin.Slice.sliceAdjust;simp only[h1,if_false];refine Prod.ext ?_ ?_
 .cases lo with
  |none=>rfl
  |some v=>exact Ch v n 0
 .cases hi with
  |none=>rfl
  |some v=>exact Ch v n n
def AK (i j:Nat):Builtin.Slice.slicePlaces (i:Int) (j:Int) 1=j - i:=by
 unfold Builtin.Slice.slicePlaces;simp<;>lia
def qz (p:IsPart v o)(h:Q o s):wpAny (model prog w) A (Builtin.Slice.slicePartIndex v) Q E s:=by
 cases p with
 |none=>exact slicePart_none h
 |int i t=>exact slicePart_int h
def iD {sl:Addr}{vl U:Value}{lo hi:OI}{n:Nat}{Q:Int×Int×Nat->Shared->Prop}(hs:s.heap.IsSliceOf sl vl U .none)(pl:IsPart vl lo)(a:IsPart U hi)
  (h:Q (((df n 0 lo:Nat):Int),1,df n n hi - df n 0 lo) s):wpAny (model prog w) A (Builtin.Slice.sliceApplied (.ref sl) (pure (n:Int))) Q E s:=by
 obtain⟨os,M,b,O⟩:=id hs;unfold Builtin.Slice.sliceApplied Builtin.Slice.sliceFields;refine wX (wX (wpAny_field M O (x:=vl) rr (wX (wpAny_field M O (x:=U) rr (wX (wpAny_field M O (x:=.none) rr (wY ?_)))))));refine wX (slicePart_none ?_);show wpAny _ _ (if((1:Int) == 0)=true then _ else _) _ _ s;rw[if_neg H9];refine wX (qz pl (wX (qz a (wX (wY ?_)))));show wpAny _ _ (match Builtin.Slice.sliceAdjust lo hi 1 (n:Int) with|(lo,hi)=>pure (lo,(1:Int),Builtin.Slice.slicePlaces lo hi 1)) _ _ s;rw[AJ lo hi n];show wpAny _ _ (pure (((df n 0 lo:Nat):Int),(1:Int),Builtin.Slice.slicePlaces ((df n 0 lo:Nat):Int) ((df n n hi:Nat):Int) 1)) _ _ s;rw[AK];exact wY h
def GS (xs:AV)(i k:Nat):((List.range k).filterMap λ(m:Nat)=>xs[((i:Int)+(m:Int)*1).toNat]?).toArray=((xs.toList.drop i).take k).toArray:=by
 have e:(λ(m:Nat)=>xs[((i:Int)+(m:Int)*1).toNat]?)=λm=>xs[i+m]?:=by
  funext m;have:((i:Int)+(m:Int)*1).toNat=i+m:=N9
  rw[this]
 rw[e];have:=pick_run xs i k;rw[List.filterMap_map]at this;have e2:((λx=>xs[x]?) ∘ λx=>i+x)=λm=>xs[i+m]?:=rr;simp_all
def mo {t sl:Addr}{items:AV}{vl c:Value}{lo hi:OI}{Q:QV}(O:IsTup s.heap t items)(hs:s.heap.IsSliceOf sl vl c .none)(pl:IsPart vl lo)(d:IsPart c hi)
  (hw:¬(df items.size 0 lo=0/\df items.size items.size hi=items.size))
  (h:Q (.ref s.z) { s with heap:=s.heap.push { cls:=.type "tuple",data:=.seq ((items.toList.drop (df items.size 0 lo)).take (df items.size items.size hi - df items.size 0 lo)).toArray } })
  (hsz:items.size<=sizeLine):wpAny (model prog w) A (getItem (.ref t) (.ref sl)) Q E s:=by
 have M:sizeOk (.seq ((items.toList.drop (df items.size 0 lo)).take (df items.size items.size hi - df items.size 0 lo)).toArray):=by
  show((items.toList.drop (df items.size 0 lo)).take (df items.size items.size hi - df items.size 0 lo)).toArray.size<=sizeLine
  exact Nat.le_trans (((items.toList.drop _).take_sublist _).trans (items.toList.drop_sublist _)).length_le hsz
 have hj:df items.size items.size hi<=items.size:=PZ _ _ (vT _) hi
 obtain⟨os,U,e,f⟩:=id hs
 have a:s.TypeIs (.ref sl) "slice":=⟨os,U,e⟩
 unfold getItem
 try with_reducible refine wpAny_holding ?_
 first|refine wX (wY ?_)|skip
 refine wX (wpAny_sequenceKey O.typeIs H9 ?_)
 refine wX (wpAny_callSpecial?_slot (name:=Str.ofString "__getitem__") O.typeIs PyProof.Rows.slot_tuple_getitem
  (wpAny_call_entry PyProof.Rows.slot_tuple_getitem O.typeIs entry_tuple_getitem ?_ (args_tuple_getitem _ _)))
 show wpAny _ _ (Builtin.Tuple.tupleItemsOf (.ref t)>>=_) _ _ s
 refine wX (tupleItemsOf_ O ?_)
 refine wX (wpAny_typeOf a ?_)
 rw[if_pos H9]
 refine wX (iD hs pl d ?_)
 have b:¬((((df items.size 0 lo:Nat):Int) == 0 && (1:Int) == 1 && (df items.size items.size hi - df items.size 0 lo) == items.size)=true):=by
  simp_all
 show wpAny _ _ (if(((df items.size 0 lo:Nat):Int) == 0 && (1:Int) == 1 && (df items.size items.size hi - df items.size 0 lo) == items.size)=true then _ else _) _ _ s
 rw[if_neg b,GS]
 first
  |exact wX (m:=Builtin.Tuple.tupleExact _) (wpAny_newObj_type (wY ⟨_,rr,wY h⟩) M)
  |exact wX (m:=Builtin.Tuple.tupleExact _) (wpAny_newObj_type (wX (wY (wY ⟨_,rr,wY h⟩))) M)
  |exact wX (wX (m:=Builtin.Tuple.tupleExact _) (wpAny_newObj_type (wY (wY ⟨_,rr,wY h⟩)) M))
  |exact wX (wX (m:=Builtin.Tuple.tupleExact _) (wpAny_newObj_type (wY ⟨_,rr,wY h⟩) M))
end
end HT
namespace L2
open PySem PySem.Spec PyProof.Rows
abbrev TO:=St->Hp->(OI->Hp->Prop)->Prop
def PO (X:Cx)(e:Option Expr)(t:TO):Prop:=
 ∀(af:AO)(s:Shared)(σ:St)(H:Hp)(Q:OI->Hp->Prop),Inv X af σ H s->t σ H Q ->
  wq X (evalPart e X.env) (λu s'=>∃o H',Inv X af σ H' s'/\IsPart u o/\Q o H') X.xe s
def Ly:TO:=λ_ H Q=>Q none H
def Uc (t:TE):TO:=λσ H Q=>t σ H λx M=>∃i,x=.int i/\Q (some i) M
section
variable {X:Cx}{e:Expr}{te:TE}{lo hi:Option Expr}{tl th:TO}{pos p2:Pos}
def Lz:PO X none Ly:=by
 intro af s σ H Q I h;rw[evalPart_none];exact wY ⟨none,H,I,.none,h⟩
def L0 (h:PE X e te):PO X (some e) (Uc te):=by
 intro af s σ H Q I hw;rw[evalPart_some];refine bJ (h af s σ H _ I hw) λu s1 ⟨x,M,O,U,a⟩=>?_;obtain⟨i,rfl,q⟩:=a;obtain⟨t,rfl⟩:=U;exact⟨some i,M,O,.int i t,q⟩
def G3 (X:Cx)(r:V->OI->OI->Hp->VK->Prop):Prop:=
 ∀(af:AO)(s:Shared)(σ:St)(H:Hp)(x:V)(v vl M:Value)(lo hi:OI)(sl:Addr)(Q:VK),Inv X af σ H s->aC x v->s.heap.IsSliceOf sl vl M .none->IsPart vl lo->IsPart M hi->r x lo hi H Q ->
  ∃T id,typeLookup (.type T) "__getitem__" = pure (some (.builtin id))/\s.TypeIs v T/\wq X (getItem v (.ref sl)) (EP X af σ Q) X.xe s
def G3.or (h:G3 X r)(h':G3 X r'):G3 X (λx lo hi H Q=>r x lo hi H Q\/r' x lo hi H Q):=by
 intro af s σ H x v vl M lo hi sl Q I O hs pl U q;rcases q with q|q
 .exact h af s σ H x v vl M lo hi sl Q I O hs pl U q
 .exact h' af s σ H x v vl M lo hi sl Q I O hs pl U q
def tSl (r:V->OI->OI->Hp->VK->Prop)(te:TE)(tl th:TO):TE:=λσ H Q=>te σ H λx M=>tl σ M λl H2=>th σ H2 λu O=>r x l u O Q
def GU (hr:G3 X r)(he:PE X e te)(hl:PO X lo tl)(hu:PO X hi th):PE X (.Subscript e (.Slice lo hi none p2) pos) (tSl r te tl th):=by
 intro af s σ H Q I h;refine Subscript_ (bJ (he af s σ H _ I h) λv s1 ⟨x,a,c,d,f⟩=>?_);refine wpAny_Slice (bJ (hl af s1 σ a _ c f) λvl s2 ⟨l,H2,g,pl,q2⟩=>bJ (hu af s2 σ H2 _ g q2) λO M ⟨u,U,i,j,k⟩=>?_);rw[evalPart_none];refine wY ?_;have m:Inv X af σ U { M with heap:=M.heap.push { cls:=.type "slice",data:=.fields #[vl,O,.none] } }:=i.kept (t':=M.toks) λb ob q=>vZ _ q;obtain⟨T,id,n,o,p⟩:=hr af { M with heap:=M.heap.push { cls:=.type "slice",data:=.fields #[vl,O,.none] } } σ U x v vl O l u M.z Q m d (Heap.IsSliceOf.new ..) pl j k;show wq X (subscriptTail e (.Slice lo hi none p2) v (.ref M.z)) (EP X af σ Q) X.xe { M with heap:=M.heap.push { cls:=.type "slice",data:=.fields #[vl,O,.none] } };exact tail_any (ops:=[.ref M.z,v]) o n p (by with_unfolding_all rfl)
def tG (xs:List V)(lo hi:OI):List V:=(xs.drop (HT.df xs.length 0 lo)).take (HT.df xs.length xs.length hi - HT.df xs.length 0 lo)
def oS (xs:List V)(lo hi:OI):(tG xs lo hi).length<=xs.length:=by
 unfold tG;rw[length_take,List.length_drop];lia
def Y9 (K:Frag):V->OI->OI->Hp->VK->Prop:=λx lo hi H Q=>∃a xs,x=.ref a/\gR K H a xs /\
 ¬(HT.df xs.length 0 lo=0/\HT.df xs.length xs.length hi=xs.length)/\∀p,H p=none->Q (.ref p) (upd H p (.tup (tG xs lo hi)))
def Qa:G3 X (Y9 X.K):=by
 intro af s σ H x v vl d lo hi sl Q I U hs pl c h;obtain⟨a,xs,rfl,hx,hw,q⟩:=h;cases U
 refine I.tupE hx λits r O hz=>?_;have M:its.toArray.size=xs.length:=by rw[vH];exact r.length.symm
 refine⟨"tuple",_,PyProof.Rows.slot_tuple_getitem.lookup,O.typeIs,?_⟩;refine HT.mo O hs pl c (by rw[M];exact hw) ?_ (by rw[M];exact hz);rw[M];refine⟨.ref s.z,_,I.laid (t':=s.toks) (o:=.tup (tG xs lo hi)) (λb ob q=>vZ _ q) (vT _) ?_,rr,q _ (I.hok.fresh (vT _))⟩;exact⟨vR (oS xs lo hi) hz,_,(r.drop (HT.df xs.length 0 lo)).take (HT.df xs.length xs.length hi - HT.df xs.length 0 lo),IsTup.new _ _⟩
def Ud (K:Frag):R2:=λx y H Q=>∃a b xs ys,x=.ref a/\y=.ref b/\gR K H a xs/\gR K H b ys/\xs≠[]/\xs.length+ys.length<=sizeLine /\
 (ys=[]->Q (.ref a) H)/\(ys≠[]->∀p,H p=none->Q (.ref p) (upd H p (.tup (xs++ys))))
def aL.nil_iff (r:aL xs us):us=[]↔xs=[]:=by
 cases r with
 |nil=>simp
 |cons _ _=>simp
def L1:cH X (binaryOp .Add) (Ud X.K):=by
 intro af s σ H x y v u Q I c d h;obtain⟨a,b,xs,ys,rfl,rfl,ha,hb,hx,hz,f,q2⟩:=h;cases c
 cases d
 refine I.tupE ha λits O g _=>?_;refine I.tupE hb λU M p2 _=>?_;refine HT.Lv g p2 (λz=>hx (O.nil_iff.mp z)) (λz=>⟨.ref a,H,I,rr,f (M.nil_iff.mp z)⟩) (λz=>?_) (by rw[<-O.length,<-M.length];exact hz);refine⟨.ref s.z,_,I.laid (t':=s.toks) (o:=.tup (xs++ys)) (λb ob q=>vZ _ q) (vT _) ?_,rr,q2 (λw=>z (M.nil_iff.mpr w)) _ (I.hok.fresh (vT _))⟩;exact⟨by rw[uZ];exact hz,_,O.append M,IsTup.new _ _⟩
end
noncomputable def G4 (n:Nat)(i:Int):Option Nat:=if 0<=i then (if i<n then some i.toNat else none)else if -(n:Int)<=i then some (i+n).toNat else none
def mq {α:Type}(xs:List α)(i:Int):Option α:=(G4 xs.length i).bind λj=>xs[j]?
def Ci (h:G4 n i=some j):seqIndex? i n=some j/\j<n/\-(n:Int)<=i/\i<n:=by
 unfold G4 at h;by_cases h0:0<=i
 .rw[if_pos h0]at h;by_cases h1:i<n
  .rw[if_pos h1]at h;have e:i.toNat=j:=vK h;exact⟨by rw[seqIndex_of h0 h1,e],N9,N9,h1⟩
  simp_all
 .rw[if_neg h0]at h;by_cases h1 : -(n:Int)<=i
  .rw[if_pos h1]at h;have e:(i+n).toNat=j:=vK h;exact⟨by rw[seqIndex_neg N9 h1,e],N9,h1,N9⟩
  simp_all
def wt {α:Type}{xs:List α}{i:Int}{v:α}(h:mq xs i=some v):∃j,seqIndex? i xs.length=some j/\xs[j]? = some v/\j<xs.length/\-(xs.length:Int)<=i/\i<xs.length:=by
 unfold mq at h;cases e:G4 xs.length i with
 |none=>rw[e]at h;cases h
 |some j=>
  rw[e]at h;obtain⟨h1,h2,h3,h4⟩:=Ci e;exact⟨j,h1,h,h2,h3,h4⟩
def L3 {α:Type}{xs:List α}{j:Nat}{v:α}(h:xs[j]? = some v):mq xs (j:Int)=some v:=by
 have hj:j<xs.length:=(vV h).1;simp_all[G4,mq]
def mr (b:Expr):Prop:=∀o i,subscripted b false o i=operate [o,i] (getItem o i)
def Qb (X:Cx)(r:R2):Prop:=
 ∀(O M:Expr)(af:AO)(s:Shared)(σ:St)(H:Hp)(x y:V)(v u:Value)(Q:VK),Inv X af σ H s->aC x v->aC y u->r x y H Q ->
  subscripted M false v u=operate [v,u] (getItem v u)->wq X (subscriptTail O M v u) (EP X af σ Q) X.xe s
def Ue (X:Cx)(id:String)(r:V->List V->Hp->VK->Prop):Prop:=
 ∀(af:AO)(s:Shared)(σ:St)(H:Hp)(x:V)(xs:List V)(v:Value)(us:LU)(Q:VK),Inv X af σ H s->aC x v->aL xs us->r x xs H Q ->
  wq X (call (.builtin id) (v::us)) (EP X af σ Q) X.xe s
section
variable {X:Cx}{a b:Expr}{ta tb:TE}{pos:Pos}
def GV (hr:Qb X r)(ha:PE X a ta)(hb:PE X b tb)(hs:mr b):PE X (.Subscript a b pos) (XW r ta tb):=by
 intro af s σ H Q I h;exact Subscript_ (PF ha hb I h λv u s2 x y H2 M O U q=>hr a b af s2 σ H2 x y v u Q M O U q (hs _ _))
def YA (K:Frag):R2:=λx y H Q=>∃p xs i v,x=.ref p/\y=.int i/\eO K H p xs/\mq xs i=some v/\Q v H
def YB (K:Frag):R2:=λx y H Q=>∃p xs i v,x=.ref p/\y=.int i/\gR K H p xs/\mq xs i=some v/\Q v H
def YC:R2:=λx y H Q=>∃z i c,x=.str z/\y=.int i/\z.length<=sizeLine/\mq z.cps.toList i=some c/\Q (.str ⟨#[c]⟩) H
def L4:Qb X (YA X.K):=by
 intro M O af s σ H x y v u Q I d e h hs;obtain⟨p,xs,i,z,rfl,rfl,hq,he,q⟩:=h;cases d
 obtain⟨t,rfl⟩:=e;refine I.lisE hq λits r pl hz=>?_;obtain⟨j,h1,h2,h3,h4,h5⟩:=wt he;obtain⟨w,c,U⟩:=r.get h2;have hl:=r.length;have hn:=nM;have dQ:EP X af σ Q w s:=⟨z,H,I,U,q⟩;by_cases h0:0<=i
 .have hj:i.toNat=j:=by
   rw[seqIndex_of h0 h5]at h1;exact vK h1
  exact item_listR pl.isList h0 N9 (by rw[hj];simpa using c) dQ hs
 .have hj:(i+(its.toArray.size:Int)).toNat=j:=by
   rw[seqIndex_neg N9 h4]at h1;rw[vH,<-hl];exact vK h1
  exact subscriptTail_builtinR (x:=w) pl.isList.typeIs slot_list_getitem.lookup
   (wpAny_getItem_list_neg (Q:=λr s'=>r=w/\EP X af σ Q r s') pl.isList N9 (by rw[vH]<;>lia) N9 (by rw[hj];simpa using c) ⟨rr,dQ⟩) hs
def AL:Qb X (YB X.K):=by
 intro M O af s σ H x y v u Q I c d h hs;obtain⟨p,xs,i,z,rfl,rfl,hq,he,q⟩:=h;cases c
 obtain⟨t,rfl⟩:=d;refine I.tupE hq λits r pl hz=>?_;obtain⟨j,h1,h2,h3,h4,h5⟩:=wt he;obtain⟨w,e,U⟩:=r.get h2;have hl:=r.length;have hn:=nM;have dQ:EP X af σ Q w s:=⟨z,H,I,U,q⟩;exact subscriptTail_builtinR (x:=w) pl.typeIs slot_tuple_getitem.lookup
  (getItem_tuple (j:=j) (Q:=λr s'=>r=w/\EP X af σ Q r s') pl N9 N9 (by simp_all) (by simpa using e) ⟨rr,dQ⟩) hs
def AM:Qb X YC:=by
 intro M O af s σ H x y v u Q I U d h hs;obtain⟨z,i,c,rfl,rfl,hz,he,q⟩:=h;obtain⟨t,rfl⟩:=U;obtain⟨t',rfl⟩:=d;obtain⟨j,h1,h2,h3,h4,h5⟩:=wt he;have hl:z.cps.toList.length=z.length:=by simp[Str.length]
 rw[hl]at h1 h4 h5;have hn:=nM;exact tail_any (typeIs_str s z t) slot_str_getitem.lookup (getItem_str (c:=c) (by
  lia) (by rw[h1];simpa using h2) ⟨.str ⟨#[c]⟩,H,I.tok _,⟨_,rr⟩,q⟩) hs
def AN (its:LU)(n j:Nat)(u:Value):Obj.mapSeq (·.setIfInBounds j u) { cls:=.type "list",data:=.seq its.toArray n }={ cls:=.type "list",data:=.seq (its.set j u).toArray n }:=by
 simp[Obj.mapSeq]
def Inv.lst (I:Inv X af σ H s)(h:H p=some (.lst xs)):
  ∃(its:LU)(n:Nat),aL xs its/\s.heap.get? p=some { cls:=.type "list",data:=.seq its.toArray n }/\xs.length<=sizeLine:=by
 obtain⟨z,its,n,r,e⟩:=I.hok p _ h;exact⟨its,n,r,e,z⟩
def Inv.lstUpd {af:AO}{σ:St}{H:Hp}{s:Shared}{p:Addr}{xs ys:List V}{its its':LU}{n M:Nat}{f:Obj->Obj}(I:Inv X af σ H s)(h:H p=some (.lst xs))
  (ho:s.heap.get? p=some { cls:=.type "list",data:=.seq its.toArray n }) (hf:f { cls:=.type "list",data:=.seq its.toArray n }={ cls:=.type "list",data:=.seq its'.toArray M }) (r:aL ys its') (hz:ys.length<=sizeLine) (t:Nat):
  Inv X af σ (upd H p (.lst ys)) { s with heap:=s.heap.update p f,toks:=t }:=by
 have e:(s.heap.update p f).get? p=some { cls:=.type "list",data:=.seq its'.toArray M }:=by
  rw[Heap.get?_update_self f ho (by rw[hf]<;>rfl),hf]
 refine I.write (x:=p) (e:=p) (by rw[h];trivial) (.inl rr) (λb u hb q=>(Heap.get?_update_other _ _ (Ne.symm hb)).trans q) ⟨_,e⟩ ?_;exact⟨hz,its',M,r,e⟩
def Uf:V->V->V->Hp->(Hp->Prop)->Prop:=λo i v H Q=>∃p xs k j,o=.ref p/\i=.int k/\H p=some (.lst xs)/\G4 xs.length k=some j/\Q (upd H p (.lst (xs.set j v)))
def GW:TD X Uf:=by
 intro af s σ H o i v d iv u Q I O U c h;obtain⟨p,xs,k,j,rfl,rfl,hp,hj,q⟩:=h;cases O
 obtain⟨t,rfl⟩:=U;obtain⟨its,n,r,ho,hz⟩:=I.lst hp;obtain⟨h1,h2,h3,h4⟩:=Ci hj;have hl:=r.length;have hn:=nM;have M:Inv X af σ (upd H p (.lst (xs.set j v))) { s with heap:=s.heap.update p (Obj.mapSeq (·.setIfInBounds j u)) } :=
  I.lstUpd hp ho (AN its n j u) (r.set c j) (by rw[length_set];exact hz) s.toks
 by_cases h0:0<=k
 .have hk:k.toNat=j:=by
   rw[seqIndex_of h0 h4]at h1;exact vK h1
  exact PySem.W.ki_setAt ho h0 N9 (by rw[vH,<-hl];exact h4) (by rw[hk];exact⟨_,M,q⟩)
 .have hk:(k+(its.toArray.size:Int)).toNat=j:=by
   rw[seqIndex_neg N9 h3]at h1;rw[vH,<-hl];exact vK h1
  exact PySem.W.ki_setBack ho N9 (by rw[vH,<-hl];exact h3) N9 (by rw[hk];exact⟨_,M,q⟩)
def xx10 (i:Int)(n:Nat):max 0 (min (if i<0 then i+n else i) n)=(((if i<0 then (i+n).toNat else min i.toNat n):Nat):Int):=by
 split
 .rw[Int.min_eq_left (by lia),Int.ofNat_toNat,Int.max_comm]
 .rename_i h;obtain⟨k,rfl⟩:=Int.eq_ofNat_of_zero_le (Int.not_lt.mp h);rw[Int.toNat_natCast,Int.max_eq_right (Int.le_min.mpr ⟨Int.not_lt.mp h,Int.natCast_nonneg n⟩)];rcases Nat.le_total k n with z|z
  .rw[Nat.min_eq_left z,Int.min_eq_left (Int.ofNat_le.mpr z)]
  .rw[Nat.min_eq_right z,Int.min_eq_right (Int.ofNat_le.mpr z)]
def wu (lo hi:OI)(n:Nat):(sliceBounds lo hi none n).1=((HT.df n 0 lo:Nat):Int)/\(sliceBounds lo hi none n).2.1=((HT.df n n hi:Nat):Int)/\(sliceBounds lo hi none n).2.2=1:=by
 refine⟨?_,?_,rr⟩
 .cases lo with
  |none=>rfl
  |some i=>exact xx10 i n
 .cases hi with
  |none=>rfl
  |some i=>exact xx10 i n
def tH (its:LU)(lo hi:OI):slicePick its.toArray lo hi none=((its.drop (HT.df its.length 0 lo)).take (HT.df its.length its.length hi - HT.df its.length 0 lo)).toArray:=by
 obtain⟨h1,h2,h3⟩:=wu lo hi its.toArray.size;unfold slicePick;rw[h1,h2,h3];simp only[sliceRange_one,pick_run,vH]<;>rfl
def YD (K:Frag):V->OI->OI->Hp->VK->Prop:=λx lo hi H Q=>∃a xs,x=.ref a/\eO K H a xs/\∀p,H p=none->Q (.ref p) (upd H p (.lst (tG xs lo hi)))
def L5:G3 X (YD X.K):=by
 intro af s σ H x v vl d lo hi sl Q I U hs pl c h;obtain⟨a,xs,rfl,hx,q⟩:=h;cases U
 refine I.lisE hx λits r O hz=>?_;have M:=r.length;refine⟨"list",_,slot_list_getitem.lookup,O.isList.typeIs,?_⟩;refine wpAny_getItem_list_slice O.isList hs pl c .none X9 ?_ (by rw[vH]<;>lia)
 rw[tH,<-M];refine⟨.ref s.z,_,I.laid (t':=s.toks) (o:=.lst (tG xs lo hi)) (λb ob q=>vZ _ q) (vT _) ?_,rr,q _ (I.hok.fresh (vT _))⟩;exact⟨vR (oS xs lo hi) hz,_,0,(r.drop (HT.df xs.length 0 lo)).take (HT.df xs.length xs.length hi - HT.df xs.length 0 lo),vY _ rr⟩
noncomputable def lr:V->Bool
 |.non=>true
 |.bl _=>true
 |.int _=>true
 |.str _=>true
 |_=>false
noncomputable def L6:V->V->Bool
 |.non,.non=>true
 |.bl a,.bl b=>a == b
 |.bl a,.int b=>(if a then 1 else 0) == b
 |.int a,.bl b=>a == (if b then 1 else 0)
 |.int a,.int b=>a == b
 |.str a,.str b=>a == b
 |_,_=>false
def Qc (O:aC y u)(M:aC x v)(U:lr y=true)(fx:lr x=true):SeqAt.EqAt A s u v (L6 y x):=by
 cases y with
 |non=>
  cases O
  cases x with
  |non=>cases M;exact SeqAt.EqAt.same _
  |bl b=>cases M;exact SeqAt.EqAt.none_bool b
  |int b=>obtain⟨t,rfl⟩:=M;exact SeqAt.EqAt.none_int b t
  |str b=>obtain⟨t,rfl⟩:=M;exact SeqAt.EqAt.none_str b t
  |_=>exact absurd (show false=true from fx) uX
 |bl a=>
  cases O
  cases x with
  |non=>cases M;exact SeqAt.EqAt.bool_none a
  |bl b=>cases M;exact SeqAt.EqAt.bool_bool a b
  |int b=>obtain⟨t,rfl⟩:=M;exact SeqAt.EqAt.bool_int a b t
  |str b=>obtain⟨t,rfl⟩:=M;exact SeqAt.EqAt.bool_str a b t
  |_=>exact absurd (show false=true from fx) uX
 |int a=>
  obtain⟨t',rfl⟩:=O;cases x with
  |non=>cases M;exact SeqAt.EqAt.int_none a t'
  |bl b=>cases M;exact SeqAt.EqAt.int_bool a t' b
  |int b=>obtain⟨t,rfl⟩:=M;exact SeqAt.EqAt.int_int a t' b t
  |str b=>obtain⟨t,rfl⟩:=M;exact SeqAt.EqAt.int_str a t' b t
  |_=>exact absurd (show false=true from fx) uX
 |str a=>
  obtain⟨t',rfl⟩:=O;cases x with
  |non=>cases M;exact SeqAt.EqAt.str_none a t'
  |bl b=>cases M;exact SeqAt.EqAt.str_bool a t' b
  |int b=>obtain⟨t,rfl⟩:=M;exact SeqAt.EqAt.str_int a t' b t
  |str b=>obtain⟨t,rfl⟩:=M;exact SeqAt.EqAt.str_str a t' b t
  |_=>exact absurd (show false=true from fx) uX
 |_=>exact absurd (show false=true from U) uX
noncomputable def AQ (x:V)(u:Value):Bool:=match u with
 |.none=>L6 .non x
 |.bool b=>L6 (.bl b) x
 |.int i _=>L6 (.int i) x
 |.str z _=>L6 (.str z) x
 |_=>false
def GX (r:aC y u)(f:lr y=true):AQ x u=L6 y x:=by
 cases y with
 |non=>cases r;rfl
 |bl b=>cases r;rfl
 |int i=>obtain⟨t,rfl⟩:=r;rfl
 |str z=>obtain⟨t,rfl⟩:=r;rfl
 |_=>exact absurd (show false=true from f) uX
theorem mu:∀ {xs:List V}{us:LU},aL xs us->xs.all lr=true->us.any (AQ x)=xs.any λy=>L6 y x
 |_,_,.nil,_=>rr
 |y::xs,u::us,.cons r t,f=>by
  rw[all_cons,vC]at f;rw[any_cons,any_cons,GX r f.1,mu t f.2]
theorem jC (M:aC x v)(fx:lr x=true):∀ {xs:List V}{us:LU},aL xs us->xs.all lr=true->∀u∈us,SeqAt.EqAt A s u v (AQ x u)
 |_,_,.nil,_=>λu hu=>by cases hu
 |y::xs,u::us,.cons r t,f=>λu' hu=>by
  rw[all_cons,vC]at f;rcases vP hu with rfl|hu
  .rw[GX r f.1];exact Qc r M f.1 fx
  .exact jC M fx t f.2 u' hu
noncomputable def XX (x:V)(xs:List V):Bool:=xs.any λy=>L6 y x
def rIn (K:Frag)(M:Bool):R2:=λx y H Q=>∃p xs,y=.ref p/\(eO K H p xs\/gR K H p xs)/\lr x=true/\xs.all lr=true/\Q (.bl (if M then !XX x xs else XX x xs)) H
def ER:cH X (compareOp .In) (rIn X.K false):=by
 intro af s σ H x y v u Q I M O h;obtain⟨p,xs,rfl,hq,fx,fs,q⟩:=h;cases O
 rcases hq with hq|hq
 .refine I.lisE hq λits r pl hz=>?_;refine SeqAt.in_listAt (AQ x) pl.isList (λw hw=>jC M fx r fs w (by simpa using hw)) ⟨.bl _,H,I,rr,?_⟩;rw[show its.toArray.any (AQ x)=its.any (AQ x) by simp,mu r fs];exact q
 .refine I.tupE hq λits r pl hz=>?_;refine SeqAt.in_tupleAt (AQ x) pl (λw hw=>jC M fx r fs w (by simpa using hw)) ⟨.bl _,H,I,rr,?_⟩;rw[show its.toArray.any (AQ x)=its.any (AQ x) by simp,mu r fs];exact q
def wv:cH X (compareOp .NotIn) (rIn X.K true):=by
 intro af s σ H x y v u Q I M O h;obtain⟨p,xs,rfl,hq,fx,fs,q⟩:=h;cases O
 rcases hq with hq|hq
 .refine I.lisE hq λits r pl hz=>?_;refine SeqAt.notIn_listAt (AQ x) pl.isList (λw hw=>jC M fx r fs w (by simpa using hw)) ⟨.bl _,H,I,rr,?_⟩;rw[show its.toArray.any (AQ x)=its.any (AQ x) by simp,mu r fs];exact q
 .refine I.tupE hq λits r pl hz=>?_;refine SeqAt.notIn_tupleAt (AQ x) pl (λw hw=>jC M fx r fs w (by simpa using hw)) ⟨.bl _,H,I,rr,?_⟩;rw[show its.toArray.any (AQ x)=its.any (AQ x) by simp,mu r fs];exact q
def ww:b8 X (.builtin "len") (λxs H Q=>∃p ys,xs=[.ref p]/\(eO X.K H p ys\/gR X.K H p ys)/\Q (.int ys.length) H):=by
 intro af s σ H xs us Q I r h;obtain⟨p,ys,rfl,hq,q⟩:=h;obtain⟨u,rfl,U⟩:=fZ r;cases U
 have hn:=nM;rcases hq with hq|hq
 .refine I.lisE hq λits O pl hz=>?_;have M:=O.length;exact Calls.call_len_list pl.isList (by grind) ⟨.int ys.length,H,I.tok _,⟨s.toks+1,by rw[vH,M]⟩,q⟩
 .refine I.tupE hq λits O pl hz=>?_;have M:=O.length;exact len_tuple pl (by grind) ⟨.int ys.length,H,I.tok _,⟨s.toks+1,by rw[vH,M]⟩,q⟩
def wx:b8 X (.builtin "len") (λxs H Q=>∃z,xs=[.str z]/\z.length<=sizeLine/\Q (.int z.length) H):=by
 intro af s σ H xs us Q I r h;obtain⟨z,rfl,hz,q⟩:=h;obtain⟨u,rfl,t,rfl⟩:=fZ r;have hn:=nM;exact len_str N9 ⟨.int z.length,H,I.tok _,⟨_,rr⟩,q⟩
def b8.or (h:b8 X f r)(h':b8 X f M):b8 X f (λxs H Q=>r xs H Q\/M xs H Q):=by
 intro af s σ H xs us Q I rs q;rcases q with q|q
 .exact h af s σ H xs us Q I rs q
 .exact h' af s σ H xs us Q I rs q
def wy:b8 X (.type "list") (λxs H Q=>∃p ys,xs=[.ref p]/\(eO X.K H p ys\/gR X.K H p ys)/\∀l,H l=none->Q (.ref l) (upd H l (.lst ys))):=by
 intro af s σ H xs us Q I r h;obtain⟨p,ys,rfl,hq,q⟩:=h;obtain⟨u,rfl,c⟩:=fZ r;cases c
 have dQ:∀(its:LU),aL ys its->ys.length<=sizeLine->∀(h':Heap)(M:Nat),(∀b o',s.heap.get? b=some o'->h'.get? b=some o') ->
   h'.get? s.z=some { cls:=.type "list",dict:=none,data:=.seq its.toArray M,slots:=#[] }->EP X af σ Q (.ref s.z) { s with heap:=h' }:=λits O hz h' M kp e=>
  ⟨.ref s.z,_,I.laid (t':=s.toks) kp (vT _) (show bf X.prog X.w _ h' _ (.lst ys)from ⟨hz,its,M,O,e⟩),rr,q _ (I.hok.fresh (vT _))⟩
 rcases hq with hq|hq
 .refine I.lisE hq λits O pl hz=>?_;have U:=O.length;obtain⟨o,ho,hc,n,hd⟩:=pl.isList;exact call_list_seq p (.inl rr) ho hc hd (λh' M kp e=>dQ its O hz h' M kp e) (by simp_all)
 .refine I.tupE hq λits O pl hz=>?_;have U:=O.length;obtain⟨o,ho,hc,n,hd⟩:=pl;exact call_list_seq p (.inr rr) ho hc hd (λh' M kp e=>dQ its O hz h' M kp e) (by simp_all)
def tI:b8 X (.type "tuple") (λxs H Q=>∃p ys,xs=[.ref p]/\((eO X.K H p ys/\∀l,H l=none->Q (.ref l) (upd H l (.tup ys)))\/(gR X.K H p ys/\Q (.ref p) H))):=by
 intro af s σ H xs us Q I r h;obtain⟨p,ys,rfl,h⟩:=h;obtain⟨u,rfl,c⟩:=fZ r;cases c
 rcases h with⟨hq,q⟩|⟨hq,q⟩
 .refine I.lisE hq λits M pl hz=>?_;have O:=M.length;refine call_tuple_list pl.isList (λh' kp=>?_) (by simp_all);have U:Inv X af σ H { s with heap:=h' }:=I.kept (t':=s.toks) kp;have d:Inv X af σ (upd H h'.objs.size (.tup ys)) { s with heap:=h'.push { cls:=.type "tuple",data:=.seq its.toArray } } :=
   U.laid (t':=s.toks) (λb o e=>vZ _ e) (vT _) (show bf X.prog X.w _ _ _ (.tup ys)from ⟨hz,its,M,IsTup.new _ _⟩)
  exact⟨.ref h'.objs.size,_,d,rr,q _ (U.hok.fresh (vT _))⟩
 .refine I.tupE hq λits M pl hz=>?_;exact call_tuple_same pl ⟨.ref p,H,I,rr,q⟩
def tyV (K:Frag)(T:String)(x:V)(H:Hp):Prop:=match x with
 |.str _=>T = "str"
 |.int _=>T = "int"
 |.ref p=>(T = "list"/\∃xs,eO K H p xs)\/(T = "tuple"/\∃o,K.lookup p=some o/\o.cls=.type "tuple"/\o.dict=none) \/
   (T = "dict"/\((∃aA ob,H p=some (.dK aA ob))\/∃aA,H p=some (.dT aA)))\/(T = "set"/\∃S n,H p=some (.set S n))
 |_=>False
def AR (I:Inv X af σ H s)(r:aC x v)(ty:tyV X.K T x H):
  s.TypeIs v T/\∀a,v=.ref a->∃ob,s.heap.get? a=some ob/\ob.dict=none:=by
 cases x with
 |str z=>
  obtain⟨t,rfl⟩:=r;cases (show T = "str" from ty)
  simp_all[typeIs_str]
 |int i=>
  obtain⟨t,rfl⟩:=r;cases (show T = "int" from ty)
  simp_all[typeIs_int]
 |ref p=>
  cases r
  rcases ty with⟨rfl,xs,hq⟩|⟨rfl,o,hk,hc,hd⟩|⟨rfl,hk⟩|⟨rfl,S,n,hk⟩
  .refine I.lisE hq λits _ pl _=>?_;refine⟨pl.isList.typeIs,λa e=>?_⟩;cases e
   obtain⟨o,n,e,c,hd,_⟩:=pl;exact⟨o,e,hd⟩
  .refine⟨⟨o,I.kIn p o hk,hc⟩,λa e=>?_⟩;cases e
   exact⟨o,I.kIn _ o hk,hd⟩
  .have z:∃o,s.heap.get? p=some o/\o.ExactDict:=by
    rcases hk with⟨aA,M,hk⟩|⟨aA,hk⟩
    .obtain⟨_,_,_,_,_,o,_,_,e,ex,_⟩:=I.hok p _ hk;exact⟨o,e,ex⟩
    .obtain⟨_,_,_,_,o,_,_,e,ex,_⟩:=I.hok p _ hk;exact⟨o,e,ex⟩
   obtain⟨o,e,ex⟩:=z;refine⟨⟨o,e,ex.1⟩,λa e2=>?_⟩;cases e2
   exact⟨o,e,ex.2.1⟩
  .obtain⟨o,_,_,_,e,ex,_⟩:=I.hok p _ hk;refine⟨⟨o,e,ex.1⟩,λa e2=>?_⟩;cases e2
   exact⟨o,e,ex.2.1⟩
 |_=>exact False.elim ty
def tBM (K:Frag)(T:String)(r:V->List V->Hp->VK->Prop)(to:TE)(t:TA):TE:=λσ H Q=>to σ H λx M=>tyV K T x M/\t σ M λxs H2=>r x xs H2 Q
variable {o e:Expr}{es:QD}{to:TE}{t:TA}{name:Str}{cn bS:Pos}{T id:String}{r:V->List V->Hp->VK->Prop}
def xZ (g:PlainAttrs T)(slot:Slot T name id)(i:typeOf (.builtin id)=pure (.type "method_descriptor"))(hm:Ue X id r)(ho:PE X o to)(ha:PA X (e::es) t)
  (O:attributeBase o name X.env (eval o X.env)=eval o X.env:=by rfl)
  (j:((backTo bS (starEach (e::es) X.env)).all (λx=>!x.1) && (backToKw bS (keywordEach [] X.env)).all (λx=>x.1.isSome)
   && decide ((e::es).length+([]:List Keyword).length+(if([]:List Keyword).isEmpty then 0 else 1)<30))=true:=by rfl)
  (U:(cn.endLine == bS.line)=true:=by rfl) (hs:dv e es X.env:=by rfl) (M:j8 bS es X.env:=by rfl):
  PE X (.Call (.Attribute o name cn) (e::es) [] bS) (tBM X.K T r to t):=by
 intro af s σ H Q I h;refine wpAny_Call_method_late O j U rr (bJ (ho af s σ H _ I h) λv s1 ⟨x,k,c,d,ty,l⟩=>?_);obtain⟨h1,h2⟩:=AR c d ty;refine⟨T,id,g,slot,i,h1,h2,?_⟩;have f:=ha bS af s1 σ k _ c l;rw[hs]at f |-;refine Calls.callWith_builtin (by show(false || (backTo bS (starEach es X.env)).any (·.1))=false;rw[M]<;>rfl) (Calls.evalArgs_plain ?_)
 exact bJ f λus s2 ⟨vs,H2,m,n,q2⟩=>hm af s2 σ H2 x vs v us Q m d n q2
/- xs.append(e),list.index on a module's tuple .. are Ue facts of 06m -/
end
def YE (X:Cx)(id:String)(r:V->List V->Hp->VK->Prop):Prop:=
 ∀(af:AO)(s:Shared)(σ:St)(H:Hp)(x:V)(xs:List V)(v:Value)(us:LU)(Q:VK),Inv X af σ H s->aC x v->aL xs us->r x xs H Q ->
  wq X (call (.builtin id) (v::us)) (EP X af σ Q) X.xe s
theorem aL.one {x:V}{us:LU}(h:aL [x] us):∃u,us=[u]/\aC x u:=by
 cases h with
 |cons r h=>cases h;exact⟨_,rr,r⟩
def aL.two {x y:V}{us:LU}(h:aL [x,y] us):∃u v,us=[u,v]/\aC x u/\aC y v:=by
 cases h with
 |cons r h=>
  grind[aL.one]
theorem aL.zero:∀ {us:LU},aL [] us->us=[]
 |_,.nil=>rr
section
variable {X:Cx}{af:AO}{σ:St}{H:Hp}{s:Shared}{l b:Addr}{xs ys zs:List V}
def Inv.lset {its its':LU}{n:Nat}{f:AV->AV}{t':Nat}(I:Inv X af σ H s)(M:H l=some (.lst xs))
  (e:s.heap.get? l=some { cls:=.type "list",data:=.seq its.toArray n }) (hf:f its.toArray=its'.toArray) (hv:aL ys its') (hz:ys.length<=sizeLine):
  Inv X af σ (upd H l (.lst ys)) { s with heap:=s.heap.update l (Obj.mapSeq f),toks:=t' }:=by
 have q:=PySem.IsL.update e f;rw[hf]at q;refine I.write (x:=l) (e:=l) (by rw[M];exact trivial) (.inl rr) (λb' u hb hu=>(Heap.get?_update_other s.heap (Obj.mapSeq f) (Ne.symm hb)).trans hu) ⟨_,q⟩ ?_;exact⟨hz,its',_,hv,q⟩
def Inv.lnew (I:Inv X af σ H s)(hv:aL ys its)(hz:ys.length<=sizeLine):
  Inv X af σ (upd H s.z (.lst ys)) { s with heap:=s.heap.push { cls:=.type "list",data:=.seq its.toArray },toks:=t' } :=
 I.laid (λ_ _ q=>vZ _ q) (vT _) ⟨hz,its,0,hv,vY _ rr⟩
def Inv.fresh (I:Inv X af σ H s):H s.z=none:=I.hok.fresh (vT _)
def Inv.lstM (I:Inv X af σ H s)(M:H l=some (.lst xs)):xs.length<=sizeLine/\∃(its:LU)(n:Nat),aL xs its/\xs.length=its.length/\s.heap.get? l=some { cls:=.type "list",data:=.seq its.toArray n }:=by
 obtain⟨z,its,n,r,e⟩:=I.hok l _ M;exact⟨z,its,n,r,r.length,e⟩
def GY (h:n<=sizeLine):Builtin.List.listTooLong n=false:=by
 simp_all[Builtin.List.listTooLong]
end
section
variable {X:Cx}
def Cj:V->List V->Hp->VK->Prop:=λx vs H Q=>∃l xs y,x=.ref l/\vs=[y]/\H l=some (.lst xs)/\xs.length<sizeLine/\Q .non (upd H l (.lst (xs++[y])))
def ua:YE X "list.append" Cj:=by
 intro af s σ H x vs v us Q I O U h;obtain⟨l,xs,y,rfl,rfl,M,hz,q⟩:=h;cases O
 obtain⟨u,rfl,ru⟩:=U.one;obtain⟨z,its,n,r,hl,e⟩:=I.lstM M;refine call_meets F.slot_list_append ⟨_,e,rr⟩ F.entry_list_append (F.args_list_append_2 _ _) (PySem.list_append l its.toArray n u (by rw[vH];lia)) ⟨e,?_⟩;refine⟨.non,_,I.lset (its':=its++[u]) M e X9 (r.append (.cons ru .nil)) ?_,rr,q⟩;simp<;>lia
def L7:V->List V->Hp->VK->Prop:=λx vs H Q=>∃l b xs zs,x=.ref l/\vs=[.ref b]/\H l=some (.lst xs)/\H b=some (.lst zs)/\xs.length+zs.length<=sizeLine/\Q .non (upd H l (.lst (xs++zs)))
def ES:YE X "list.extend" L7:=by
 intro af s σ H x vs v us Q I a c h;obtain⟨l,b,xs,zs,rfl,rfl,U,d,hz,q⟩:=h;cases a
 obtain⟨u,rfl,ru⟩:=c.one;cases ru
 obtain⟨z,its,n,r,hl,e⟩:=I.lstM U;obtain⟨g,M,n2,f,i,e2⟩:=I.lstM d;have hsz:its.toArray.size+M.toArray.size<=sizeLine:=by simp_all
 have O:¬(!its.toArray.isEmpty && Builtin.List.listTooLong (its.toArray.size+M.toArray.size))=true:=by
  simp_all[GY]
 refine call_meets F.slot_list_extend ⟨_,e,rr⟩ F.entry_list_extend (F.args_list_extend_2 _ _)
  (AutoSeq1.list_extend_list_list_0 l its.toArray n b M.toArray n2 O (by rw[vH];lia) N9) ⟨e,e2,?_⟩
 refine⟨.non,_,I.lset (its':=its++M) U e X9 (r.append f) ?_,rr,q⟩;simp_all
end
end L2
namespace Att
open PySem PySem.W PySem.Calls PyProof.Rows
def pF:∀(ns:LI)(vs:LU),WellAll P h vs (ns.map WData.int)->IntsAre vs ns:=by
 intro ns;induction ns with
 |nil=>
  intro vs w;rw[List.map_nil]at w;cases w
  exact .nil
 |cons n ns M=>
  intro vs w;rw[uY]at w;cases w with
  |cons a b=>
   cases a
   exact .cons _ _ (M _ b)
def ET {l:OpenLaw}{n:Nat}(hn:l.most=some n){P:Params}{h:Heap}{args:List WData}{vals:LU}
  (M:l.row.toRowW.claim.pre args=true) (b:WellAll P h vals args):
  ∃a vs ns,vals=[Value.ref a]/\args=[WData.list (ns.map WData.int)]/\h.get? a=some { cls:=.type "list",data:=.seq vs.toArray }/\IntsAre vs ns/\ns.length<=n:=by
 have c:WShape.hasAll [] args [.list .int]=true:=(pre_splitW M).1;have hc:l.pre.holds [] { args:=args }=true:=(pre_splitW M).2;obtain⟨d,r,rfl,h1,h2⟩:=hasAllW_cons c;obtain rfl:=hasAllW_nil h2;obtain⟨xs,rfl,h3⟩:=hasW_list h1;obtain⟨ns,rfl⟩:=items_int h3;have O:ns.length<=n:=by
  unfold OpenLaw.pre at hc;have h4:(WTm.not (.lt (.lit (.int (n:Int))) (.len (.arg 0)))).holds [] { args:=[.list (ns.map .int)] }=true:=by
   have h4:=(holds_andW hc).1;rw[hn]at h4;exact h4
  have h5:=condW_of h4 (w_not (w_lt w_lit (w_len_list (w_arg rr))));simp_all
 cases b with
 |cons e f=>
  cases f
  cases e with
  |list ho U=>exact⟨_,_,ns,rr,rr,ho,pF ns _ U,O⟩
def EU (l:OpenLaw)(args:List WData):l.row.toRowW.claim.post args (.bool true) args=true:=
 postW_of (r:=l.row.toRowW) (X:=(true == true))
  (show WShape.has [] (.bool true) .bool=true by rfl)
  (show(WTm.eq .res (.lit (.bool true))).value [] { args:=args,res:=some (.bool true),after:=args }=some (.bool (true == true))from w_eq_bool (w_res rr) w_lit) rr
section
variable {prog:Program}{w:World}{A:Around}{E:QV}{s:Shared}{K:Frag}
end
end Att
namespace L2
open PySem PySem.Spec PyProof.Rows
theorem fU:∀ {vs:LU}{ns:LI},IntsAre vs ns->aL (ns.map V.int) vs
 |_,_,.nil=>.nil
 |_,_,.cons n t h=>.cons ⟨t,rr⟩ (fU h)
noncomputable def fL (s:Stmt):Arguments:=match s with
 |.FunctionDef _ a _ _ _ _ _ _ _ _=>a
 |_=>{ posonlyargs:=[],args:=[],vararg:=none,kwonlyargs:=[],kw_defaults:=[],kwarg:=none,defaults:=[] }
noncomputable def bT (s:Stmt):List Stmt:=match s with
 |.FunctionDef _ _ b _ _ _ _ _ _ _=>b
 |_=>[]
noncomputable def aH (s:Stmt):Scope:=match s with
 |.FunctionDef _ _ _ _ _ _ sc _ _ _=>sc
 |_=>{ kind:=.function,names:=[],isGenerator:=false,isCoroutine:=false }
abbrev A7:O1:=λ_ _ _ _ _ _=>False
abbrev E0:XK:=λ_ _ _=>False
def Uh:AI A7 X E0:=λ_ _ _ _ _ _ _ h=>h.elim
structure Sn (K:Frag)(x qual:Str)(st:Stmt)(f:Addr)(fd:FuncData):Prop where
 ex:∃(oc:Value)(od:Option Addr)(kV doc pm:Value)(an:Option Addr)(dR ct:Value)(nL:Array (Option Value)),
  fd=fnOf x qual (fL st) (bT st) (aH st) .none kV doc pm an dR ct/\K.lookup f=some ⟨oc,od,.func fd,nL⟩/\PySem.W.codeIn K dR qual=true
 kp:PySem.W.keepIn K (.ref f)=true
section
variable {P:Program}{w:World}{K:Frag}{mg:SV}{base:Heap}
def Sn.ok {x qual:Str}{st:Stmt}{f:Addr}{fd:FuncData}{N ps:LS}{k:Nat}{sp:Sp}(F:Sn K x qual st f fd)(S:FnScope N ps (aH st))(len:∀vs H Q E,sp vs H Q E->vs.length=ps.length)
  (M:∀(dR:Value)(A:Around)(outer:List Env)(s:Shared)(H:Hp)(vs:List V)(Q:VK)(E:XK),dF k (A.deeper (envOfC qual (aH st) s.z f dR))->sp vs H Q E ->
   ∃t,tV (qw A7 P w K mg base N qual (aH st) f dR A outer s H E).nox (bT st) t/\t { nx:=λ_ H'=>Q .non H',rt:=Q } (lq N vs) H):t8 P w K mg base A7 (k+1) f fd ps sp:=by
 obtain⟨oc,od,kV,doc,pm,an,dR,ct,nL,rfl,a,O⟩:=F.ex;refine O2 a O S len λA outer s H vs Q E hr U=>?_;obtain⟨t,h,q⟩:=M dR A outer s H vs Q E hr U;exact⟨t,h.nox,q⟩
def Sn.binds {x qual:Str}{st:Stmt}{f:Addr}{fd:FuncData}{ps:LS}(F:Sn K x qual st f fd)
  (h:∀(kV doc pm:Value)(an:Option Addr)(dR ct:Value)(us:LU),us.length=ps.length->bindArgs (fnOf x qual (fL st) (bT st) (aH st) .none kV doc pm an dR ct) ⟨us,[]⟩=pure (ps.zip us)):oR K fd ps []:=by
 obtain⟨oc,od,kV,doc,pm,an,dR,ct,nL,rfl,O,M⟩:=F.ex;exact .all (h kV doc pm an dR ct)
def Qd {x qual:Str}{st:Stmt}{f:Addr}{oc:Value}{od an:Option Addr}{nL:Array (Option Value)}{kV doc pm dR ct:Value}(l:K.lookup f=some ⟨oc,od,.func (fnOf x qual (fL st) (bT st) (aH st) .none kV doc pm an dR ct),nL⟩)
  (c:PySem.W.codeIn K dR qual=true) (k:PySem.W.keepIn K (.ref f)=true):Sn K x qual st f (fnOf x qual (fL st) (bT st) (aH st) .none kV doc pm an dR ct):=⟨⟨oc,od,kV,doc,pm,an,dR,ct,nL,rr,l,c⟩,k⟩
end
def aJ (H H':Hp):Prop:=∀b o,H b=some o->H' b=some o
def aJ.refl (H:Hp):aJ H H:=λ_ _ h=>h
def aJ.trans (a:aJ H M)(b:aJ M H2):aJ H H2:=λc o h=>b c o (a c o h)
def aJ.free (e:aJ H H')(h:H' l=Option.none):H l=Option.none:=by
 cases q:H l with
 |none=>rfl
 |some o=>
  rw[e l o q]at h;cases h
def aJ.seq {K:Frag}{H H':Hp}{a:Addr}{xs:List V}(e:aJ H H')(h:eO K H a xs):eO K H' a xs:=by
 rcases h with (h|⟨o,h⟩)|h
 .exact .inl (.inl (e _ _ h))
 .exact .inl (.inr ⟨o,e _ _ h⟩)
 .exact .inr h
section
variable {κ:Type}[DecidableEq κ]
noncomputable def jD (aA:List (κ×V))(k:κ):Option V:=(aA.find? λkv=>decide (kv.1=k)).map (·.2)
noncomputable def nO (aA:List (κ×V))(k:κ)(v:V):List (κ×V):=
 if(aA.any λkv=>decide (kv.1=k))=true then aA.map (λkv=>if kv.1=k then (kv.1,v)else kv)else aA++[(k,v)]
def mv {p:κ×V}{r:List (κ×V)}{k:κ}(e:p.1=k):jD (p::r) k=some p.2:=by simp[jD,e]
def mw {p:κ×V}{r:List (κ×V)}{k:κ}(e:¬p.1=k):jD (p::r) k=jD r k:=by simp[jD,e]
theorem ya (k:κ):∀aA:List (κ×V),(aA.any λkv=>decide (kv.1=k))=(jD aA k).isSome
 |[]=>rr
 |p::r=>by
  rw[any_cons];by_cases e:p.1=k
  .simp_all[mv]
  .rw[mw e,oP e];exact ya k r
theorem jE (aA:List (κ×V))(k:κ)(v:V):(nO aA k v).length<=aA.length+1:=by
 grind[nO]
def kZ.isSome_eq (r:kZ o u):o.isSome=u.isSome:=by
 cases o with
 |none=>cases u with
  |none=>rfl
  |some _=>exact(show False from r).elim
 |some _=>cases u with
  |none=>exact(show False from r).elim
  |some _=>rfl
def kZ.getD (r:kZ o u)(M:aC d d'):aC (o.getD d) (u.getD d'):=by
 cases o with
 |none=>cases u with
  |none=>exact M
  |some _=>exact(show False from r).elim
 |some _=>cases u with
  |none=>exact(show False from r).elim
  |some _=>exact r
def KV.val {aA:List (κ×V)}{vs:List (κ×Value)}(r:KV aA vs)(k:κ):kZ (jD aA k) (valueAt vs k):=by
 induction r with
 |nil=>exact True.intro
 |@cons p q ps M h t O=>
  obtain⟨h1,h2⟩:=h;by_cases e:p.1=k
  .have b:valueAt (q::M) k=some q.2:=by simp_all[valueAt]
   rw[mv e,b];exact h2
  simp_all[valueAt,mw]
def KV.any (r:KV aA vs)(k:κ):(aA.any λkv=>decide (kv.1=k))=vs.any λkv=>decide (kv.1=k):=by
 induction r with
 |nil=>rfl
 |cons h t M=>simp_all
def KV.repl (r:KV aA vs)(k:κ)(O:aC y u):
  KV (aA.map λkv=>if kv.1=k then (kv.1,y)else kv) (vs.map λkv=>if kv.1=k then (kv.1,u)else kv):=by
 induction r with
 |nil=>exact .nil
 |@cons p q ps U h t M=>
  rw[uY];refine .cons ?_ M;split<;>simp_all
def KV.put (r:KV aA vs)(k:κ)(M:aC y u):KV (nO aA k y) (stored vs k u):=by
 unfold nO stored;rw[r.any k];by_cases e:(vs.any λkv=>decide (kv.1=k))=true
 .rw[if_pos e,if_pos e];exact r.repl k M
 .rw[if_neg e,if_neg e];exact Paired.snoc r ⟨rr,M⟩
def KV.length (r:KV aA vs):aA.length=vs.length:=Paired.length r
end
def q8 (r:aC (kV k) u):(cy P w).is k u=true:=by
 cases k with
 |inl i=>obtain⟨t,e⟩:=(show ∃t,u=Value.int i t from r);simp_all[xT]
 |inr x=>obtain⟨t,e⟩:=(show ∃t,u=Value.str x t from r);simp_all[xU]
theorem ub:∀ {ks:List dB}{us:LU},aL (ks.map kV) us->ItemsAre (cy P w) ks us
 |[],_,r=>by cases r;exact .nil
 |k::ks,_,r=>by
  cases r with
  |cons h t=>exact .cons (q8 h) (ub t)
abbrev KT (H:Hp):List (List dB×V)->List (List dB×Addr×Value)->Prop:=Paired λp q=>p.1=q.1/\H q.2.1=some (.tup (p.1.map kV))/\aC p.2 q.2.2
def KT.val {H:Hp}{aA:List (List dB×V)}{xs:List (List dB×Addr×Value)}(r:KT H aA xs)(k:List dB):kZ (jD aA k) ((atKey xs k).map (·.2)):=by
 induction r with
 |nil=>exact True.intro
 |@cons p q ps M h t U=>
  obtain⟨h1,_,h2⟩:=h;by_cases e:p.1=k
  .have O:=h1.symm.trans e;have b:atKey (q::M) k=some q.2:=by simp[atKey,O]
   rw[mv e,b];exact h2
  simp_all[atKey,mw]
def KT.repl (r:KT H aA xs)(k:List dB)(O:aC y u):
  KT H (aA.map λkv=>if kv.1=k then (kv.1,y)else kv) (xs.map (putAt k u)):=by
 induction r with
 |nil=>exact .nil
 |@cons p q ps U h t M=>
  refine .cons ?_ M;unfold putAt;split<;>simp_all
def KT.put (r:KT H aA xs)(k:List dB)(hb:H b=some (.tup (k.map kV)))(M:aC y u):
  KT H (nO aA k y) (storedH xs k b u):=by
 have e:(aA.any λkv=>decide (kv.1=k))=(atKey xs k).isSome:=by
  rw[ya,(r.val k).isSome_eq,Option.isSome_map]
 unfold nO storedH;rw[e];by_cases q:(atKey xs k).isSome=true
 .rw[if_pos q,if_pos q];exact r.repl k M
 .rw[if_neg q,if_neg q];exact Paired.snoc r ⟨rr,hb,M⟩
def KT.keeps (r:KT H aA xs)(M:∀b ys,H b=some (.tup ys)->H' b=some (.tup ys)):KT H' aA xs:=
 Paired.mapP r λ_ _ z=>⟨z.1,M _ _ z.2.1,z.2.2⟩
section
variable {P:Program}{w:World}{H:Hp}{h:Heap}{a:Addr}
def O3 (ok:lb P w H h)(e:Rd H a u):bf P w H h a u:=e.ok ok
def AS (ok:lb P w H h)(e:H a=some (.dK aA ob)):h.get? a=some ob:=And.left (show bf P w H h a _ from ok a _ e)
def qA (ok:lb P w H h)(e:Rd H a (.dK aA ob)):aA.length<=sizeLine/\(a == sysModules)=false/\∃vs,KV aA vs/\h.DictOf (cy P w) a vs:=
 And.right (show bf P w H h a _ from O3 ok e)
def qB (ok:lb P w H h)(e:H a=some (.dK aA ob)):aA.length<=sizeLine/\(a == sysModules)=false/\∃vs,KV aA vs/\h.DictOf (cy P w) a vs:=qA ok (.inl e)
theorem nQ (ok:lb P w H h)(e:H a=some (.tup (ks.map kV))):(tupleKind (cy P w)).is h ks a:=by
 obtain⟨_,its,r,o,h1,h2,n,h3⟩:=(show bf P w H h a _ from ok a _ e);exact⟨o,its.toArray,n,h1,h2,h3,by simpa using ub r⟩
def qC (ok:lb P w H h)(e:Rd H a (.dT aA)):aA.length<=sizeLine/\(a == sysModules)=false /\
  ∃xs,KT H aA xs/\h.DictOfH (tupleKind (cy P w)) a xs:=by
 obtain⟨z,y,xs,r,o,es,M,h1,h2,h3,h4,h5⟩:=(show bf P w H h a _ from O3 ok e);refine⟨z,y,xs,r,o,es,M,h1,h2,h3,h4,λx hx=>?_,h5⟩;have all:∀ {l:List _}{m:List _},KT H l m->∀x∈m,(tupleKind (cy P w)).is h x.1 x.2.1:=by
  intro l m q;induction q with
  |nil=>intro x hx;exact nomatch hx
  |@cons p q ps O hq t U=>
   grind[nQ]
 exact all r x hx
def Ui (ok:lb P w H h)(e:H a=some (.dT aA)):aA.length<=sizeLine/\(a == sysModules)=false /\
  ∃xs,KT H aA xs/\h.DictOfH (tupleKind (cy P w)) a xs:=qC ok (.inl e)
end
def wz (H:Hp)(a:Addr)(y:V)(r:Option V):Prop:=
 (∃aA k ob,Rd H a (.dK aA ob)/\y=kV k/\r=jD aA k)\/∃aA k b,Rd H a (.dT aA)/\y=.ref b/\H b=some (.tup (k.map kV))/\r=jD aA k
def Uj (H:Hp)(a:Addr)(y v:V)(Q:Hp->Prop):Prop:=
 (∃aA k ob,H a=some (.dK aA ob)/\y=kV k/\aA.length<sizeLine/\∀M,Q (upd H a (.dK (nO aA k v) M))) \/
 ∃aA k b,H a=some (.dT aA)/\y=.ref b/\H b=some (.tup (k.map kV))/\aA.length<sizeLine/\Q (upd H a (.dT (nO aA k v)))
section
variable {X:Cx}{af:AO}{σ:St}{H:Hp}{s:Shared}{a:Addr}{y v:V}{u r:Value}{o:Option V}{A:Around}{E:QV}
def Inv.big (I:Inv X af σ H s):sysModules<s.z:=by
 have h:=(I.mod.glob.keeps I.bk).lt;exact Nat.lt_trans H9 h
def EV (hu:A.units+1<cLine)(I:Inv X af σ H s)(g:wz H a y (some v))(d:aC y u)(h:∀O s',Inv X af σ H s'->aC v O->Q O s'):
  wpAny (model X.prog X.w) A (getItem (.ref a) u) Q E s:=by
 rcases g with⟨aA,k,ob,e,U,l⟩|⟨aA,k,b,e,U,f,l⟩
 .subst U;obtain⟨z,hd,vs,rel,dd⟩:=qA I.hok e;obtain⟨O,hw,M⟩:=kZ.some_of (by rw[l];exact rel.val k);exact wpAny_getItem_of (q8 d) dd.mapOf hw (h O _ (I.tok _) M)
 .subst U;cases (show u=Value.ref b from d)
  obtain⟨z,hd,xs,rel,dd⟩:=qC I.hok e;obtain⟨O,hw,M⟩:=kZ.some_of (by rw[l];exact rel.val k);refine eR hw λp hp c=>?_;refine wpAny_getItem_heap (tupleKind_room_in1 hu) (nQ I.hok f) dd hp ?_;rw[c];exact h O _ (I.tok _) M
def YG (hu:A.units+1<cLine)(I:Inv X af σ H s)(g:wz H a y o)(O:aC y u)(h:∀s',Inv X af σ H s'->Q (.bool o.isSome) s'):
  wpAny (model X.prog X.w) A (compareOp .In u (.ref a)) Q E s:=by
 rcases g with⟨aA,k,ob,e,M,l⟩|⟨aA,k,b,e,M,U,l⟩
 .subst M;obtain⟨z,hd,vs,rel,dd⟩:=qA I.hok e;refine wpAny_in_of (q8 O) hd dd.mapOf ?_;rw[<-(rel.val k).isSome_eq,<-l];exact h _ (I.tok _)
 .subst M;cases (show u=Value.ref b from O)
  obtain⟨z,hd,xs,rel,dd⟩:=qC I.hok e;refine wpAny_in_heap (tupleKind_room_in1 hu) (nQ I.hok U) hd dd ?_;have q:=(rel.val k).isSome_eq;rw[Option.isSome_map]at q;rw[<-q,<-l];exact h _ (I.tok _)
def L8 (hu:A.units+1<cLine)(I:Inv X af σ H s)(g:wz H a y o)(O:aC y u)(h:∀s',Inv X af σ H s'->Q (.bool (!o.isSome)) s'):
  wpAny (model X.prog X.w) A (compareOp .NotIn u (.ref a)) Q E s:=by
 rcases g with⟨aA,k,ob,e,M,l⟩|⟨aA,k,b,e,M,U,l⟩
 .subst M;obtain⟨z,hd,vs,rel,dd⟩:=qA I.hok e;refine wpAny_notIn_of (q8 O) hd dd.mapOf ?_;rw[<-(rel.val k).isSome_eq,<-l];exact h _ (I.tok _)
 .subst M;cases (show u=Value.ref b from O)
  obtain⟨z,hd,xs,rel,dd⟩:=qC I.hok e;refine wpAny_notIn_heap (tupleKind_room_in1 hu) (nQ I.hok U) hd dd ?_;have q:=(rel.val k).isSome_eq;rw[Option.isSome_map]at q;rw[<-q,<-l];exact h _ (I.tok _)
def w4 (I:Inv X af σ H s)(M:Tw (H a))(hs:Heap.SameBut a s.heap h')(he:∃q,h'.get? a=some q)(new:bf X.prog X.w (upd H a ob) h' a ob):
  Inv X af σ (upd H a ob) { s with heap:=h',toks:=t' } :=
 I.write M (.inl rr) (λb q hb z=>(hs.2 b hb).trans z) he new
def GZ (z:aA.length<=sizeLine)(hd:(a == sysModules)=false)(rel:KV aA vs)(dd:h'.DictOf (cy P w) a vs)(M:h'.get? a=some ob):
  bf P w H' h' a (.dK aA ob):=⟨M,z,hd,vs,rel,dd⟩
def EW (hu:A.units+1<cLine)(I:Inv X af σ H s)(g:Uj H a y v R)(d:aC y u)(f:aC v r)(h:∀H' s',R H'->Inv X af σ H' s'->Q () s'):
  wpAny (model X.prog X.w) A (setItem (.ref a) u r) Q E s:=by
 rcases g with⟨aA,k,ob,e,O,l,U⟩|⟨aA,k,b,e,O,i,l,U⟩
 .subst O;obtain⟨z,hd,vs,rel,dd⟩:=qB I.hok e;have hz:vs.length<=sizeLine:=by rw[<-rel.length];exact z
  have hl:(nO aA k v).length<=sizeLine:=by have:=jE aA k v;lia
  refine wpAny_setItem_pairs (hsz:=hz) (q8 d) dd λh' M hs=>?_;obtain⟨q,hq⟩:∃q,h'.get? a=some q:=let ⟨q,_,_,hq,_⟩:=M;⟨q,hq⟩;exact h _ _ (U q) (w4 I (by rw[e];exact True.intro) hs ⟨q,hq⟩ (GZ hl hd (rel.put k f) M hq))
 .subst O;cases (show u=Value.ref b from d)
  obtain⟨z,hd,xs,rel,dd⟩:=Ui I.hok e;have hz:xs.length<=sizeLine:=by rw[<-Paired.length rel];exact z
  have hl:(nO aA k v).length<=sizeLine:=by have:=jE aA k v;lia
  refine wpAny_setItem_heap (hsz:=hz) (tupleKind_room_in1 hu) (nQ I.hok i) dd λh' M hs=>h _ _ U ?_;obtain⟨q,es,m,hq,h2,h3,h4,_,h5⟩:=M;refine w4 I (by rw[e];exact True.intro) hs ⟨q,hq⟩ ⟨hl,hd,_,(rel.put k i f).keeps λc ys j=>?_,q,es,m,hq,h2,h3,h4,h5⟩;rw[a8 (Tv j e (λz=>nomatch z))];exact j
end
def Qe (i:Expr):Prop:=∀M iv,subscripted i false M iv=operate [M,iv] (getItem M iv)
def L9 {prog:Program}{w:World}{A:Around}{E:QV}{s:Shared}{env:Env}{O M:Expr}{f:Pos}{T id:String}{Q:QV}
  (hl:typeLookup (.type T) "__getitem__" = pure (some (.builtin id))) (hs:Qe M)
  (h:wpAny (model prog w) A (eval O env) (λo b=>wpAny (model prog w) A (eval M env) (λi U=>U.TypeIs o T/\wpAny (model prog w) A (getItem o i) Q E U) E b) E s):
  wpAny (model prog w) A (eval (.Subscript O M f) env) Q E s:=by
 refine Subscript_ (wpAny_mono h (λo b d=>wpAny_mono d (λi U a=>?_) λ_ _ x=>x) λ_ _ x=>x);obtain⟨g,a⟩:=a;refine wX ?_;refine wX (wpAny_specialOf g hl ?_);have dQ:wpAny (model prog w) A (subscripted M false o i) (λr c=>wpAny (model prog w) A (letTemporaryGo O o r>>=λ_=>pure r) Q E c) E U:=by
  rw[hs o i];exact wpAny_operating (wpAny_mono a (λr c e=>wX (wpAny_letTemporaryGo (wY e))) λ_ _ x=>x)
 first
  |exact wY (wX dQ)
  |exact wX _
  |exact wX _
def yc (I:Inv X af σ H s)(g:wz H a y o):s.TypeIs (.ref a) "dict":=by
 rcases g with⟨aA,k,M,e,_,_⟩|⟨aA,k,b,e,_,_,_⟩
 .obtain⟨_,_,vs,_,dd⟩:=qA I.hok e;exact dd.typeIs
 .obtain⟨_,_,xs,_,dd⟩:=qC I.hok e;exact dd.typeIs
def Uk (M ty:TE):TE:=λσ H Q=>M σ H λx O=>ty σ O λy H2=>∃a v,x=.ref a/\wz H2 a y (some v)/\Q v H2
def YH (ty M:TE):TE:=λσ H Q=>ty σ H λy O=>M σ O λx H2=>∃a o,x=.ref a/\wz H2 a y o/\Q (.bl o.isSome) H2
def LA (ty M:TE):TE:=λσ H Q=>ty σ H λy O=>M σ O λx H2=>∃a o,x=.ref a/\wz H2 a y o/\Q (.bl (!o.isSome)) H2
def Ck (M ty O:TE):TS:=λD σ H=>O σ H λv U=>M σ U λx H2=>ty σ H2 λy b=>∃a,x=.ref a/\Uj b a y v (D.nx σ)
section
variable {X:Cx}{o i e value:Expr}{pos K9 Sm:Pos}{td ty tv:TE}
def LB (hu:X.A.units+1<cLine)(ho:PE X o td)(hi:PE X i ty)(hs:Qe i):PE X (.Subscript o i pos) (Uk td ty):=by
 intro af s σ H Q I h;refine L9 PySem.F.slot_dict_getitem.lookup hs (bJ (ho _ s σ H _ I h) λu s1 ⟨x,U,b,c,d⟩=>bJ (hi _ s1 σ U _ b d) λiv s2 ⟨y,H2,O,f,a,v,ex,g,q2⟩=>?_);subst ex;obtain rfl:u=Value.ref a:=c;exact⟨yc O g,EV hu O g f λk l j M=>⟨v,H2,j,M,q2⟩⟩
def Qf (hu:X.A.units+1<cLine)(hi:PE X i ty)(ho:PE X o td):PC X .In i o (YH ty td):=by
 intro af s σ H Q I h;refine bJ (hi _ s σ H _ I h) λiv s1 ⟨y,M,O,U,b⟩=>bJ (ho _ s1 σ M _ O b) λu s2 ⟨x,H2,c,d,a,j,ex,g,q2⟩=>?_;subst ex;obtain rfl:u=Value.ref a:=d;exact YG hu c g U λk f=>⟨.bl _,H2,f,rr,q2⟩
def EX (hu:X.A.units+1<cLine)(hi:PE X i ty)(ho:PE X o td):PC X .NotIn i o (LA ty td):=by
 intro af s σ H Q I h;refine bJ (hi _ s σ H _ I h) λiv s1 ⟨y,M,O,U,b⟩=>bJ (ho _ s1 σ M _ O b) λu s2 ⟨x,H2,c,d,a,j,ex,g,q2⟩=>?_;subst ex;obtain rfl:u=Value.ref a:=d;exact L8 hu c g U λk f=>⟨.bl _,H2,f,rr,q2⟩
def w6 (hu:X.A.units+1<cLine)(ho:PE X o td)(hi:PE X i ty)(hv:PE X value tv)(hs:swapsWith value (some (.Subscript o i K9)) pos.line X.env=pure false):
  PS X (.Assign [.Subscript o i K9] value pos) (Ck td ty tv):=by
 intro af s σ H D I h;refine wpAny_Assign_Subscript (bJ (hv _ s σ H _ I h) λr s1 ⟨v,M,O,U,b⟩=>bJ (ho _ s1 σ M _ O b) λu s2 ⟨x,H2,c,d,q2⟩=>bJ (hi _ s2 σ H2 _ c q2) λiv n ⟨y,p,f,j,a,ex,g⟩=>?_) hs;subst ex;obtain rfl:u=Value.ref a:=d;exact EW hu f g j U λk q l m=>⟨σ,k,m,l⟩
end
def ye (h:Heap)(hb:sysModules<h.objs.size):bf P w H (h.push { cls:=.type "dict",data:=.dict #[] }) h.objs.size (.dK [] { cls:=.type "dict",data:=.dict #[] }):=
 ⟨vY _ rr,uN _,beq_eq_false_iff_ne.mpr (Ne.symm (vS hb)),[],.nil,Heap.DictOf.new h⟩
def Ha (h:Heap)(hb:sysModules<h.objs.size):bf P w H (h.push { cls:=.type "dict",data:=.dict #[] }) h.objs.size (.dT []):=
 ⟨uN _,beq_eq_false_iff_ne.mpr (Ne.symm (vS hb)),[],.nil,_,#[],0,vY _ rr,⟨rr,rr,rr⟩,rr,rr,nodup_nil⟩
def Hb:TE:=λ_ H Q=>∀p ob,H p=none->Q (.ref p) (upd H p (.dK [] ob))
def Hd:TE:=λ_ H Q=>∀p,H p=none->Q (.ref p) (upd H p (.dT []))
section
variable {X:Cx}{pos:Pos}
def He:PE X (.Dict [] [] pos) Hb:=λaf s σ H Q I h=>
 wpAny_Dict_empty ⟨.ref _,_,I.laid (λ_ _ q=>vZ _ q) (vT _) (ye _ I.big),rr,h _ _ (I.hok.fresh (vT _))⟩
def Hf:PE X (.Dict [] [] pos) Hd:=λaf s σ H Q I h=>
 wpAny_Dict_empty ⟨.ref _,_,I.laid (λ_ _ q=>vZ _ q) (vT _) (Ha _ I.big),rr,h _ (I.hok.fresh (vT _))⟩
end
structure M1 (X:Cx)(o:Expr)(m:Str)(cn:Pos)(e:Expr)(bS:Pos):Prop where
 base:attributeBase o m X.env (eval o X.env)=eval o X.env
 few:oQ bS e X.env
 line:(cn.endLine == bS.line)=true
 trees:backTo bS (starEach [e] X.env)=[(false,eval e X.env)]
def IsD (H:Hp)(a:Addr):Prop:=(∃aA ob,Rd H a (.dK aA ob))\/∃aA,Rd H a (.dT aA)
def Qg (I:Inv X af σ H s)(d:IsD H a):
  s.TypeIs (.ref a) "dict"/\(∀b,Value.ref a=.ref b->∃ob,s.heap.get? b=some ob/\ob.dict=none)/\(a == sysModules)=false:=by
 rcases d with⟨aA,M,e⟩|⟨aA,e⟩
 .obtain⟨_,hd,vs,_,dd⟩:=qA I.hok e;refine⟨dd.typeIs,λb q=>?_,hd⟩;cases q
  obtain⟨ob,_,_,h1,h2,_⟩:=dd;exact⟨ob,h1,h2.2.1⟩
 .obtain⟨_,hd,xs,_,dd⟩:=qC I.hok e;refine⟨dd.typeIs,λb q=>?_,hd⟩;cases q
  obtain⟨ob,_,_,h1,h2,_⟩:=dd;exact⟨ob,h1,h2.2.1⟩
section
variable {X:Cx}{af:AO}{σ:St}{H:Hp}{s:Shared}{a:Addr}{y d:V}{u r:Value}{o:Option V}{A:Around}{E:QV}
def Qh (hu:A.units+1<cLine)(I:Inv X af σ H s)(g:wz H a y o)(O:aC y u)(h:∀U s',Inv X af σ H s'->aC (o.getD .non) U->Q U s'):
  wpAny (model X.prog X.w) A (call (.builtin "dict.get") [.ref a,u]) Q E s:=by
 rcases g with⟨aA,k,ob,e,M,l⟩|⟨aA,k,b,e,M,c,l⟩
 .subst M;obtain⟨z,hd,vs,rel,dd⟩:=qA I.hok e;refine call_meetsIn slot_dict_get dd.typeIs entry_dict_get (PySem.F.args_dict_get_2 _ _) (meets_dict_get _ a (q8 O) hd) ⟨_,dd.mapOf,h _ _ (I.tok _) ?_⟩;rw[l];exact(rel.val k).getD rr
 .subst M;cases (show u=Value.ref b from O)
  obtain⟨z,hd,xs,rel,dd⟩:=qC I.hok e;refine call_meetsIn slot_dict_get dd.typeIs entry_dict_get (PySem.F.args_dict_get_2 _ _) (meetsH_dict_get _ a b hd) ⟨tupleKind_room_in1 hu,k,xs,nQ I.hok c,dd,h _ _ (I.tok _) ?_⟩;rw[l];exact(rel.val k).getD rr
end
def Qi (O ty:TE):TE:=λσ H Q=>O σ H λx M=>∃a,x=.ref a/\IsD M a/\ty σ M λy H2=>∃o,wz H2 a y o/\Q (o.getD .non) H2
section
variable {X:Cx}{o e f:Expr}{cn bS:Pos}{td ty tx:TE}
def yf (hu:X.A.units+1<cLine)(ho:PE X o td)(he:PE X e ty)(m:M1 X o "get" cn e bS):PE X (.Call (.Attribute o "get" cn) [e] [] bS) (Qi td ty):=by
 intro af s σ H Q I h;refine wpAny_Call_method m.base m.few m.line plainAttrs_dict slot_dict_get PySem.F.type_dict_get (bJ (ho _ s σ H _ I h) λu s1 ⟨x,U,O,b,a,ex,d,c⟩=>?_);subst ex;obtain rfl:u=Value.ref a:=b;obtain⟨i,j,_⟩:=Qg O d;refine⟨i,j,?_⟩;rw[m.trees];refine Calls.callWith_builtin rr (Calls.evalArgs_plain (Calls.spliced_cons (bJ (he _ s1 σ U _ O c) λiv s2 ⟨y,H2,k,l,p,g,q2⟩=>Calls.spliced_nil ?_)));exact Qh hu k g l λq r n M=>⟨_,H2,n,M,q2⟩
end
end L2
namespace DL
open PySem L2
abbrev St:=L2.St
set_option genInjectivity true in
inductive D where
 |non|bl (b:Bool)|int (i:Int)|str (x:Str)|ty (n:String)|tup (ds:List D)|lst (ds:List D)
  |dk (ks:List dB) (vs:List D)|dt (ks:List (List dB)) (vs:List D)
abbrev LD:=List D
abbrev LV:=List V
abbrev LK:=List dB
abbrev OB:=Option (D×Bool)
mutual
inductive Is (K:Frag)(H:Hp):V->D->Prop where
 |non:Is K H .non .non
 |bl (b:Bool):Is K H (.bl b) (.bl b)
 |int (i:Int):Is K H (.int i) (.int i)
 |str (x:Str):Is K H (.str x) (.str x)
 |ty (n:String):Is K H (.ty n) (.ty n)
 |tup {a:Addr}{vs:List V}{ds:List D}(h:gR K H a vs) (hs:IsL K H vs ds):Is K H (.ref a) (.tup ds)
 |lst {a:Addr}{vs:List V}{ds:List D}(h:eO K H a vs) (hs:IsL K H vs ds):Is K H (.ref a) (.lst ds)
 |dk {a:Addr}{ks:List dB}{vs:List V}{ds:List D}{ob:Obj}(h:H a=some (.dK (ks.zip vs) ob)) (hl:ks.length=vs.length) (hs:IsL K H vs ds):Is K H (.ref a) (.dk ks ds)
 |dt {a:Addr}{ks:List (List dB)}{vs:List V}{ds:List D}(h:H a=some (.dT (ks.zip vs))) (hl:ks.length=vs.length) (hs:IsL K H vs ds):Is K H (.ref a) (.dt ks ds)
inductive IsL (K:Frag)(H:Hp):List V->List D->Prop where
 |nil:IsL K H [] []
 |cons {v:V}{d:D}{vs:List V}{ds:List D}(h:Is K H v d) (hs:IsL K H vs ds):IsL K H (v::vs) (d::ds)
end
mutual
def aP:D->Bool
 |.lst _=>false
 |.dk _ _=>false
 |.dt _ _=>false
 |.tup ds=>aV ds
 |_=>true
def aV:LD->Bool
 |[]=>true
 |d::ds=>aP d && aV ds
end
@[simp] def SD:aP .non=true:=by simp only[aP]
@[simp] def Ul (b:Bool):aP (.bl b)=true:=by simp only[aP]
@[simp] def SE (i:Int):aP (.int i)=true:=by simp only[aP]
@[simp] def SF (x:Str):aP (.str x)=true:=by simp only[aP]
@[simp] def Um (x:String):aP (.ty x)=true:=by simp only[aP]
@[simp] def SG (ds:LD):aP (.tup ds)=aV ds:=by rw[aP]
@[simp] def SH (ds:LD):aP (.lst ds)=false:=by rw[aP]
@[simp] def Uo (ks:LK)(ds:LD):aP (.dk ks ds)=false:=by rw[aP]
@[simp] def Ur (ks:List LK)(ds:LD):aP (.dt ks ds)=false:=by rw[aP]
@[simp] def Qj:aV []=true:=by rw[aV]
@[simp] def O4 (d:D)(ds:LD):aV (d::ds)=(aP d && aV ds):=by rw[aV]
section
variable {K:Frag}{H H':Hp}
mutual
theorem Is.keep (M:∀a vs,gR K H a vs->gR K H' a vs)(O:∀a vs,eO K H a vs->eO K H' a vs)(U:∀a aA ob,H a=some (.dK aA ob)->H' a=some (.dK aA ob))(c:∀a aA,H a=some (.dT aA)->H' a=some (.dT aA)):∀ {v:V}{d:D},Is K H v d->Is K H' v d
 |_,_,.non=>.non
 |_,_,.bl b=>.bl b
 |_,_,.int i=>.int i
 |_,_,.str x=>.str x
 |_,_,.ty x=>.ty x
 |_,_,.tup h hs=>.tup (M _ _ h) (IsL.keep M O U c hs)
 |_,_,.lst h hs=>.lst (O _ _ h) (IsL.keep M O U c hs)
 |_,_,.dk h hl hs=>.dk (U _ _ _ h) hl (IsL.keep M O U c hs)
 |_,_,.dt h hl hs=>.dt (c _ _ h) hl (IsL.keep M O U c hs)
theorem IsL.keep (M:∀a vs,gR K H a vs->gR K H' a vs)(O:∀a vs,eO K H a vs->eO K H' a vs)(U:∀a aA ob,H a=some (.dK aA ob)->H' a=some (.dK aA ob))(b:∀a aA,H a=some (.dT aA)->H' a=some (.dT aA)):∀ {vs:LV}{ds:LD},IsL K H vs ds->IsL K H' vs ds
 |_,_,.nil=>.nil
 |_,_,.cons h hs=>.cons (Is.keep M O U b h) (IsL.keep M O U b hs)
end
mutual
theorem Is.keepT (M:∀a vs,gR K H a vs->gR K H' a vs):∀ {v:V}{d:D},Is K H v d->aP d=true->Is K H' v d
 |_,_,.non,_=>.non
 |_,_,.bl b,_=>.bl b
 |_,_,.int i,_=>.int i
 |_,_,.str x,_=>.str x
 |_,_,.ty x,_=>.ty x
 |_,_,.tup h hs,n=>.tup (M _ _ h) (IsL.keepT M hs (by simpa using n))
 |_,_,.lst h hs,n=>by simp at n
 |_,_,.dk h hl hs,n=>by simp at n
 |_,_,.dt h hl hs,n=>by simp at n
theorem IsL.keepT (M:∀a vs,gR K H a vs->gR K H' a vs):∀ {vs:LV}{ds:LD},IsL K H vs ds->aV ds=true->IsL K H' vs ds
 |_,_,.nil,_=>.nil
 |_,_,.cons h hs,n=>by
  simp at n;exact .cons (Is.keepT M h n.1) (IsL.keepT M hs n.2)
end
def aT (e:aJ H H')(h:gR K H a xs):gR K H' a xs:=by
 rcases h with (h|⟨o,h⟩)|h
 .exact .inl (.inl (e _ _ h))
 .exact .inl (.inr ⟨o,e _ _ h⟩)
 .exact .inr h
def Is.mono (h:Is K H v d)(e:aJ H H'):Is K H' v d:=h.keep (λ_ _=>aT e) (λ_ _=>e.seq) (λ_ _ _ q=>e _ _ q) λ_ _ q=>e _ _ q
def IsL.mono (h:IsL K H v d)(e:aJ H H'):IsL K H' v d:=h.keep (λ_ _=>aT e) (λ_ _=>e.seq) (λ_ _ _ q=>e _ _ q) λ_ _ q=>e _ _ q
theorem IsL.length:∀ {vs:LV}{ds:LD},IsL K H vs ds->vs.length=ds.length
 |_,_,.nil=>rr
 |_,_,.cons _ t=>congrArg _ t.length
theorem IsL.get:∀ {vs:LV}{ds:LD}{i:Nat}{d:D},IsL K H vs ds->ds[i]? = some d->∃v,vs[i]? = some v/\Is K H v d
 |_,_,_,_,.nil,e=>by simp at e
 |_,_,0,_,.cons h _,e=>by simp_all
 |_,_,i+1,d,.cons _ t,e=>by
  obtain⟨u,h1,h2⟩:=t.get (by simpa using e);simp_all
theorem IsL.append:∀ {vs ws:LV}{ds es:LD},IsL K H vs ds->IsL K H ws es->IsL K H (vs++ws) (ds++es)
 |_,_,_,_,.nil,s=>s
 |_,_,_,_,.cons r t,s=>.cons r (t.append s)
theorem IsL.take:∀ {vs:LV}{ds:LD}(n:Nat),IsL K H vs ds->IsL K H (vs.take n) (ds.take n)
 |_,_,0,_=>by simpa using IsL.nil
 |_,_,_+1,.nil=>.nil
 |_,_,n+1,.cons r t=>.cons r (t.take n)
theorem IsL.drop:∀ {vs:LV}{ds:LD}(n:Nat),IsL K H vs ds->IsL K H (vs.drop n) (ds.drop n)
 |_,_,0,r=>r
 |_,_,_+1,.nil=>.nil
 |_,_,n+1,.cons _ t=>t.drop n
theorem IsL.set (h:Is K H v d):∀ {vs:LV}{ds:LD}(i:Nat),IsL K H vs ds->IsL K H (vs.set i v) (ds.set i d)
 |_,_,_,.nil=>.nil
 |_,_,0,.cons _ t=>.cons h t
 |_,_,i+1,.cons r t=>.cons r (IsL.set h i t)
def IsL.flat {vs:LV}{ns:LI}(h:vs=ns.map V.int):IsL K H vs (ns.map D.int):=by
 subst h;induction ns with
 |nil=>exact .nil
 |cons n ns M=>exact .cons (.int n) M
end
structure Ext (B N H H':Hp):Prop where
 hh:aJ H H'
 bn:aJ B N
 nh:aJ N H'
 new:∀a o,N a=some o->B a=some o\/H a=none
def Ext.refl (h:aJ B H):Ext B B H H:=⟨.refl _,.refl _,h,λ_ _ e=>.inl e⟩
def Ext.trans (x:Ext B N H M)(y:Ext N N2 M H2):Ext B N2 H H2:=
 ⟨x.hh.trans y.hh,x.bn.trans y.bn,y.nh,λa o e=>(y.new a o e).elim (λq=>x.new a o q) λq=>.inr (x.hh.free q)⟩
def Ext.laid (h:aJ B H)(hp:H p=none):Ext B (upd B p o) H (upd H p o):=by
 have M:=h.free hp;refine⟨λa u e=>?_,λa u e=>?_,λa u e=>?_,λa u e=>?_⟩
 .grind[a8]
 .grind[a8]
 .by_cases q:a=p
  .simp_all[au]
  .rw[a8 q]at e |-;exact h _ _ e
 grind[a8]
def Ext.grow (h:aJ B H)(hh:aJ H H'):Ext B B H H':=⟨hh,.refl _,h.trans hh,λ_ _ e=>.inl e⟩
abbrev Env:=List OB
abbrev FE:=Env->OB
abbrev FA:=Env->Option LD
abbrev FT:=Env->Option Bool
def SJ (K:Frag)(H N:Hp)(v:V):D->Prop
 |.tup ds=>∃(a:Addr)(vs:LV),v=.ref a/\gR K N a vs/\IsL K N vs ds/\∀(i:Nat)(es:LD),ds[i]? = some (.lst es)->∃(b:Addr)(us:LV),vs[i]? = some (.ref b)/\H b=none/\N b=some (.lst us)/\IsL K N us es
 |d=>∃(a:Addr)(vs:LV)(ds:LD),v=.ref a/\d=.lst ds/\H a=none/\N a=some (.lst vs)/\IsL K N vs ds
def SJ.back (h:SJ K H' N v d)(e:aJ H H'):SJ K H N v d:=by
 cases d
 case tup=>exact let ⟨a,vs,q,y,z,r⟩:=h;⟨a,vs,q,y,z,λi es g=>let ⟨b,us,g1,M,O⟩:=r i es g;⟨b,us,g1,e.free M,O⟩⟩
 all_goals exact let ⟨a,vs,ds,q,y,z,r⟩:=h;⟨a,vs,ds,q,y,e.free z,r⟩
noncomputable def jF:LS:=["in_order","has_seal","is_first_death","bases_by","as_heard"]
noncomputable def tJ (x:Str):Str:=x ++ ".<locals>." ++ "<lambda>"
def Tb (K:Frag)(B:Hp):Prop:=∀x∈jF,∀c P,PySem.W.tabIn K x=some (c,P)->B P=some (.tbl (tJ x))
def Tb.mono (h:Tb K B)(e:aJ B M):Tb K M:=λx hx c P q=>e _ _ (h x hx c P q)
structure eK (K:Frag)(B:Hp)(σ:St)(ρ:Env):Prop where
 tb:Tb K B
 at':∀(i:Nat)(d:D)(b:Bool),ρ[i]? = some (some (d,b))->∃v,σ[i]? = some (some v)/\Is K B v d
def eK.mono (h:eK K B σ ρ)(e:aJ B M):eK K M σ ρ:=⟨h.tb.mono e,λi d b q=>let ⟨v,h1,h2⟩:=h.at' i d b q;⟨v,h1,h2.mono e⟩⟩
def Fin (K:Frag)(B H:Hp)(d:D)(b:Bool)(Q:VK):Prop:=∀(v:V)(H' N:Hp),Ext B N H H'->Is K N v d->(b=true->SJ K H N v d)->Q v H'
def tD (K:Frag)(f:FE):TE:=λσ H Q=>∃(B:Hp)(ρ:Env)(d:D)(b:Bool),aJ B H/\eK K B σ ρ/\f ρ=some (d,b)/\Fin K B H d b Q
def Cm (K:Frag)(f:FT):TT:=λσ H Q=>∃(B:Hp)(ρ:Env)(c:Bool),aJ B H/\eK K B σ ρ/\f ρ=some c/\∀H',aJ H H'->Q c H'
def SK (K:Frag)(f:FA):TA:=λσ H Q=>∃(B:Hp)(ρ:Env)(ds:LD),aJ B H/\eK K B σ ρ/\f ρ=some ds/\∀(vs:LV)(H' N:Hp),Ext B N H H'->IsL K N vs ds->Q vs H'
def rD (K:Frag)(op:D->D->OB):R2:=λx y H Q=>∃(B:Hp)(dx M d:D)(b:Bool),aJ B H/\Is K B x dx/\Is K B y M/\op dx M=some (d,b)/\Fin K B H d b Q
def eS {K:Frag}{op:D->D->OB}{x y:V}{H:Hp}{Q:VK}{G:Prop}(q:rD K op x y H Q)(k:∀(B:Hp)(c e d:D)(b:Bool),aJ B H->Is K B x c->Is K B y e->op c e=some (d,b)->Fin K B H d b Q->G):G:=let⟨B,c,e,d,b,M,i,j,f,g⟩:=q;k B c e d b M i j f g
def YI (K:Frag)(op:D->OB):V->Hp->VK->Prop:=λx H Q=>∃(B:Hp)(dx d:D)(b:Bool),aJ B H/\Is K B x dx/\op dx=some (d,b)/\Fin K B H d b Q
def A8 (K:Frag)(op:LD->OB):LV->Hp->VK->Prop:=λxs H Q=>∃(B:Hp)(ds:LD)(d:D)(b:Bool),aJ B H/\IsL K B xs ds/\op ds=some (d,b)/\Fin K B H d b Q
def e5 {K:Frag}{op:LD->OB}{xs:LV}{H:Hp}{Q:VK}{G:Prop}(q:A8 K op xs H Q)(k:∀(B:Hp)(ds:LD)(d:D)(b:Bool),aJ B H->IsL K B xs ds->op ds=some (d,b)->Fin K B H d b Q->G):G:=let⟨B,ds,d,b,M,i,e,f⟩:=q;k B ds d b M i e f
theorem Fin.one (h:Fin K B H d false Q)(s:aJ B H)(i:Is K B v d):Q v H:=h v H B (.refl s) i X9
def Fin.into (h:Fin K B H d b Q)(x:Ext B N H O):Fin K N O d b Q:=λv H' N' y i M=>h v H' N' (x.trans y) i λe=>(M e).back x.hh
@[simp] def fC (d:D):FE:=λ_=>some (d,false)
@[simp] noncomputable def am (i:Nat):FE:=λρ=>match ρ[i]? with|some (some (d,_))=>some (d,false)|_=>none
@[simp] noncomputable def f2 (op:D->D->OB)(fa M:FE):FE:=λρ=>(fa ρ).bind λx=>(M ρ).bind λy=>op x.1 y.1
@[simp] noncomputable def f1 (op:D->OB)(fa:FE):FE:=λρ=>(fa ρ).bind λx=>op x.1
@[simp] def ay:FA:=λ_=>some []
@[simp] noncomputable def ak (fa:FE)(M:FA):FA:=λρ=>(fa ρ).bind λx=>(M ρ).bind λxs=>some (x.1::xs)
@[simp] noncomputable def fA (op:LD->OB)(fa:FA):FE:=λρ=>(fa ρ).bind op
def Qk (h:tD K (am i) σ H Q):∃v,σ[i]? = some (some v)/\Q v H:=by
 obtain⟨B,ρ,d,b,s,r,e,q⟩:=h;unfold am at e;split at e
 .rename_i d' b' M;cases e
  obtain⟨v,h1,h2⟩:=r.at' i _ _ M;exact⟨v,h1,q.one s h2⟩
 simp_all
def LC (h:tD K (f2 op fa fb) σ H Q):tD K fa σ H λx U=>tD K fb σ U λy H2=>rD K op x y H2 Q:=by
 obtain⟨B,ρ,d,b,s,r,e,q⟩:=h;refine eX e λx ex e=>?_;refine eX e λy a e=>?_;refine⟨B,ρ,x.1,x.2,s,r,ex,λv U N M i1 _=>⟨N,ρ,y.1,y.2,M.nh,r.mono M.bn,a,λc H2 N2 O i2 _=>⟨N2,x.1,y.1,d,b,O.nh,i1.mono O.bn,i2,e,?_⟩⟩⟩;exact q.into (M.trans O)
def YJ (h:tD K (f1 op fa) σ H Q):tD K fa σ H λx M=>YI K op x M Q:=by
 obtain⟨B,ρ,d,b,s,r,e,q⟩:=h;refine eX e λx ex e=>?_;exact⟨B,ρ,x.1,x.2,s,r,ex,λv M N O i1 _=>⟨N,x.1,d,b,O.nh,i1,e,q.into O⟩⟩
def LF (h:tD K (fA op fa) σ H Q):SK K fa σ H λxs M=>A8 K op xs M Q:=by
 obtain⟨B,ρ,d,b,s,r,e,q⟩:=h;refine eX e λx ex e=>?_;exact⟨B,ρ,x,s,r,ex,λv M N O i1=>⟨N,x,d,b,O.nh,i1,e,q.into O⟩⟩
def LG (h:SK K ay σ H Q):Q [] H:=by
 obtain⟨B,ρ,ds,s,r,e,q⟩:=h;cases e
 exact q [] H B (.refl s) .nil
def Hg (h:SK K (ak fa fr) σ H Q):tD K fa σ H λx O=>SK K fr σ O λxs H2=>Q (x::xs) H2:=by
 obtain⟨B,ρ,ds,s,r,e,q⟩:=h;refine eX e λx ex e=>?_;refine eX e λy a e=>?_;cases e
 exact⟨B,ρ,x.1,x.2,s,r,ex,λv O N M i1 _=>⟨N,ρ,y,M.nh,r.mono M.bn,a,λvs H2 N2 U i2=>q _ H2 N2 (M.trans U) (.cons (i1.mono U.bn) i2)⟩⟩
@[simp] noncomputable def bP (f:FE):FT:=λρ=>match f ρ with|some (.bl c,_)=>some c|_=>none
@[simp] noncomputable def iE (f g:FT):FT:=λρ=>match f ρ with|some true=>g ρ|some false=>some false|none=>none
@[simp] noncomputable def lG (f g:FT):FT:=λρ=>match f ρ with|some true=>some true|some false=>g ρ|none=>none
@[simp] noncomputable def mz (f:FT):FT:=λρ=>(f ρ).map (!·)
open Classical in
noncomputable def dA (H:Hp)(P:Addr->Prop):Hp:=λa=>if P a then none else H a
theorem cz (h:¬P a):dA H P a=H a:=by unfold dA;rw[if_neg h]
theorem AT (h:P a):dA H P a=none:=by unfold dA;rw[if_pos h]
theorem qD (h:dA H P a=some o):¬P a/\H a=some o:=by
 grind[AT,cz]
def bv:aJ (dA H P) H:=λ_ _ e=>(qD e).2
def dC (e:∀a o,H a=some o->¬P a->H' a=some o/\¬M a):aJ (dA H P) (dA H' M):=λa o q=>by
 grind[qD,cz]
noncomputable def join (N N':Hp):Hp:=λa=>match N a with|some o=>some o|none=>N' a
def dU:aJ N (join N N'):=λa o e=>by unfold join;rw[e]
def dh (e:N a=none):join N N' a=N' a:=by unfold join;rw[e]
def own (σ:St)(ρ:Env)(a:Addr):Prop:=∃(i:Nat)(d:D),ρ[i]? = some (some (d,true))/\σ[i]? = some (some (V.ref a))
inductive Bx (K:Frag)(C:Hp):HO->D->Prop where
 |lst {vs:List V}{ds:List D}(h:IsL K C vs ds):Bx K C (.lst vs) (.lst ds)
 |dk {ks:List dB}{vs:List V}{ds:List D}(hl:ks.length=vs.length) (h:IsL K C vs ds) {ob:Obj}:Bx K C (.dK (ks.zip vs) ob) (.dk ks ds)
 |dt {ks:List (List dB)}{vs:List V}{ds:List D}(hl:ks.length=vs.length) (h:IsL K C vs ds):Bx K C (.dT (ks.zip vs)) (.dt ks ds)
def Bx.mono (h:Bx K C o d)(e:aJ C M):Bx K M o d:=by
 cases h with
 |lst h=>exact .lst (h.mono e)
 |dk hl h=>exact .dk hl (h.mono e)
 |dt hl h=>exact .dt hl (h.mono e)
def Bx.is (h:Bx K C o d)(e:C a=some o):Is K C (.ref a) d:=by
 cases h with
 |lst h=>exact .lst (eO.of e) h
 |dk hl h=>exact .dk e hl h
 |dt hl h=>exact .dt e hl h
structure dc (K:Frag)(B0 H0 N H:Hp)(σ:St)(ρ:Env):Prop where
 bh:aJ B0 H0
 tb:Tb K B0
 ext:Ext B0 N H0 H
 len:ρ.length=σ.length
 sh:∀(i:Nat)(d:D),ρ[i]? = some (some (d,false))->∃v,σ[i]? = some (some v)/\Is K (dA N (own σ ρ)) v d
 ow:∀(i:Nat)(d:D),ρ[i]? = some (some (d,true))->∃(a:Addr)(o:HO),σ[i]? = some (some (V.ref a))/\N a=some o/\H0 a=none/\Bx K (dA N (own σ ρ)) o d
 inj:∀(i j:Nat)(a:Addr)(d e:D),ρ[i]? = some (some (d,true))->ρ[j]? = some (some (e,true))->σ[i]? = some (some (V.ref a))->σ[j]? = some (some (V.ref a))->i=j
def w9 (K:Frag)(B0 H0 H:Hp)(σ:St)(ρ:Env):Prop:=∃N,dc K B0 H0 N H σ ρ
section
variable {K:Frag}{B0 H0 N H H':Hp}{σ:St}{ρ:Env}
def dc.owL (s:dc K B0 H0 N H σ ρ)(i:Nat)(d:D)(q:ρ[i]? = some (some (.lst es,true)))(hd:d=.lst es:=by rfl):∃(a:Addr)(vs:LV)(ds:LD),d=.lst ds/\σ[i]? = some (some (V.ref a))/\N a=some (.lst vs)/\H0 a=none/\IsL K (dA N (own σ ρ)) vs ds:=by
 obtain⟨a,o,h1,h2,h3,h4⟩:=s.ow i _ q;cases h4 with
 |lst h4=>exact⟨a,_,es,hd,h1,h2,h3,h4⟩
def boxed:HO->Prop
 |.lst _|.dK _ _|.dT _=>True
 |_=>False
def Bx.boxed (h:Bx K C o d):boxed o:=by cases h<;>exact trivial
def dc.owned (s:dc K B0 H0 N H σ ρ)(h:own σ ρ a):∃o,(N a=some o/\boxed o)/\H0 a=none:=by
 obtain⟨i,d,h1,h2⟩:=h;obtain⟨O,o,h3,h4,h5,M⟩:=s.ow i d h1;rw[h2]at h3;cases h3;exact⟨o,⟨h4,M.boxed⟩,h5⟩
def dc.rep (s:dc K B0 H0 N H σ ρ):eK K N σ ρ:=⟨s.tb.mono s.ext.bn,λi d b q=>by
 cases b with
 |false=>obtain⟨v,h1,h2⟩:=s.sh i d q;exact⟨v,h1,h2.mono bv⟩
 |true=>
  obtain⟨a,o,h2,h3,_,h4⟩:=s.ow i d q;exact⟨_,h2,(h4.mono bv).is h3⟩⟩
noncomputable def iF (ρ:Env):Env:=ρ.map λx=>match x with|some (d,false)=>some (d,false)|_=>none
def Hh {i:Nat}{d:D}{b:Bool}(h:(iF ρ)[i]? = some (some (d,b))):b=false/\ρ[i]? = some (some (d,false)):=by
 unfold iF at h;rw[vA]at h;cases e:ρ[i]? with
 |none=>rw[e]at h;cases h
 |some x=>
  rw[e]at h;match x,h with
  |some (d',false),h=>cases h;exact⟨rr,rr⟩
  |some (d',true),h=>cases h
  |none,h=>cases h
def dc.tbC (s:dc K B0 H0 N H σ ρ):Tb K (dA N (own σ ρ)):=λx hx c P q=>by
 have z:=s.tb.mono s.ext.bn x hx c P q;rw[cz]
 .exact z
 .intro y;obtain⟨o,⟨y,M⟩,_⟩:=s.owned y;rw[z]at y;cases y;exact M
def dc.repH (s:dc K B0 H0 N H σ ρ):eK K (dA N (own σ ρ)) σ (iF ρ):=⟨s.tbC,λi d b q=>by
 obtain⟨rfl,q2⟩:=Hh q;exact s.sh i d q2⟩
def dc.grow (s:dc K B0 H0 N H σ ρ)(x:Ext N N' H H'):dc K B0 H0 N' H' σ ρ:=by
 have c:aJ (dA N (own σ ρ)) _:=dC λa o e q=>⟨x.bn a o e,q⟩;refine⟨s.bh,s.tb,s.ext.trans x,s.len,λi d q=>?_,λi d q=>?_,s.inj⟩
 .obtain⟨v,h1,h2⟩:=s.sh i d q;exact⟨v,h1,h2.mono c⟩
 .obtain⟨a,o,h2,h3,h4,h5⟩:=s.ow i d q;exact⟨a,o,h2,x.bn _ _ h3,h4,h5.mono c⟩
def dc.growH (s:dc K B0 H0 N H σ ρ)(x:Ext (dA N (own σ ρ)) N' H H'):dc K B0 H0 (join N N') H' σ ρ/\aJ N' (dA (join N N') (own σ ρ)):=by
 have M:Ext N (join N N') H H':=by
  refine⟨x.hh,dU,λa o e=>?_,λa o e=>?_⟩
  .cases q:N a with
   |some u=>
    have:join N N' a=some u:=dU _ _ q;rw[this]at e;cases e;exact x.hh _ _ (s.ext.nh _ _ q)
   |none=>rw[dh q]at e;exact x.nh _ _ e
  .cases q:N a with
   |some u=>
    simp_all[join]
   |none=>
    rw[dh q]at e;rcases x.new a o e with z|z
    .have:=bv _ _ z;simp_all
    .exact .inr z
 refine⟨s.grow M,λa o e=>?_⟩;rcases x.new a o e with z|z
 .obtain⟨O,U⟩:=qD z;rw[cz O];exact dU _ _ U
 .have b:=s.ext.nh.free z;have:¬own σ ρ a:=λq=>by obtain⟨vs,⟨q,_⟩,_⟩:=s.owned q;lia
  simp_all[cz,dh]
noncomputable def unown (ρ:Env):Env:=ρ.map λx=>x.map λy=>(y.1,false)
def kG {i:Nat}{d:D}{b:Bool}(h:(unown ρ)[i]? = some (some (d,b))):b=false/\∃c,ρ[i]? = some (some (d,c)):=by
 unfold unown at h;simp_all<;>lia
def uc {a:Addr}:¬own σ (unown ρ) a:=λ⟨i,d,h,_⟩=>by
 obtain⟨z,_⟩:=kG h;cases z
def dc.unown (s:dc K B0 H0 N H σ ρ):dc K B0 H0 N H σ (unown ρ):=by
 refine⟨s.bh,s.tb,s.ext,by unfold DL.unown;rw[vI];exact s.len,λi d q=>?_,λi d q=>?_,λi j a d e q=>?_⟩
 .obtain⟨_,c,q⟩:=kG q;obtain⟨v,h1,h2⟩:=s.rep.at' i d c q;exact⟨v,h1,h2.mono λa o e=>by rw[cz uc];exact e⟩
 .obtain⟨z,_⟩:=kG q;cases z
 .obtain⟨z,_⟩:=kG q;cases z
def bC {α:Type}{l:List α}{i j:Nat}{x y:α}(h:(l.set i x)[j]? = some y):(i=j/\x=y)\/(i≠j/\l[j]? = some y):=by
 by_cases e:i=j
 .subst e;rw[List.getElem?_set]at h;split at h
  .split at h
   .exact .inl ⟨rr,vK h⟩
   .cases h
  .contradiction
 .rw[vB e]at h;exact .inr ⟨e,h⟩
def ud {α M:Type}{l:List α}{m:List M}{i:Nat}{x y:α}(h:(l.set i x)[i]? = some y)(e:l.length=m.length):i<m.length:=by
 obtain⟨h,_⟩:=vV h;rw[length_set]at h;lia
def wA {i:Nat}{v:V}{x:OB}{a:Addr}(h:own (σ.set i (some v)) (ρ.set i x) a):(v=.ref a/\∃d,x=some (d,true))\/∃j,j≠i/\∃d,ρ[j]? = some (some (d,true))/\σ[j]? = some (some (V.ref a)):=by
 obtain⟨j,d,h1,h2⟩:=h;rcases bC h1 with⟨e,q⟩|⟨e,q⟩
 .rcases bC h2 with⟨e2,q2⟩|⟨e2,q2⟩
  .cases q2;exact .inl ⟨rr,d,q⟩
  .exact absurd e e2
 .rcases bC h2 with⟨e2,q2⟩|⟨e2,q2⟩
  .exact absurd e2 e
  .exact .inr ⟨j,λz=>e z.symm,d,q,q2⟩
def dc.bind (s:dc K B0 H0 N H σ ρ){i:Nat}{v:V}{d:D}(h:Is K (dA N (own σ ρ)) v d):dc K B0 H0 N H (σ.set i (some v)) (ρ.set i (some (d,false))):=by
 have o:∀a,own (σ.set i (some v)) (ρ.set i (some (d,false))) a->own σ ρ a:=λa q=>by
  rcases wA q with⟨_,d',p⟩|⟨j,_,d',U,q2⟩
  .cases p
  .exact⟨j,d',U,q2⟩
 have c:aJ (dA N _) _:=dC λa u e q=>⟨e,λz=>q (o a z)⟩;refine⟨s.bh,s.tb,s.ext,by simp[s.len],λj e q=>?_,λj e q=>?_,λj k a e f q b h1 h2=>?_⟩
 .rcases bC q with⟨rfl,p⟩|⟨ne,p⟩
  .cases p
   have hi:=ud q s.len;exact⟨v,by simp[hi],h.mono c⟩
  .obtain⟨w,h1,h2⟩:=s.sh j e p;exact⟨w,by simp_all,h2.mono c⟩
 .rcases bC q with⟨rfl,p⟩|⟨ne,p⟩
  .cases p
  .obtain⟨a,o,h1,h2,h3,h4⟩:=s.ow j e p;exact⟨a,o,by simp_all,h2,h3,h4.mono c⟩
 .rcases bC q with⟨rfl,p⟩|⟨ne,p⟩
  .cases p
  .rcases bC b with⟨rfl,M⟩|⟨O,M⟩
   .cases M
   .rw[vB ne]at h1;rw[vB O]at h2;exact s.inj j k a e f p M h1 h2
def dc.bindOwn (s:dc K B0 H0 N H σ ρ){i:Nat}{a:Addr}{ob:HO}{dd:D}(m:N a=some ob)(h0:H0 a=none)(O:∀(j:Nat)(d:D),ρ[j]? = some (some (d,true))->σ[j]? ≠ some (some (V.ref a)))
  (n:∀(j:Nat)(d:D),j≠i->ρ[j]? = some (some (d,false))->∃v,σ[j]? = some (some v)/\Is K (dA N (λb=>own σ ρ b\/b=a)) v d) (h:∀(j:Nat)(d:D),j≠i->ρ[j]? = some (some (d,true))->∃(U:Addr)(o:HO),σ[j]? = some (some (V.ref U))/\N U=some o/\Bx K (dA N (λb=>own σ ρ b\/b=a)) o d)
  (r:Bx K (dA N (λb=>own σ ρ b\/b=a)) ob dd):dc K B0 H0 N H (σ.set i (some (.ref a))) (ρ.set i (some (dd,true))):=by
 have o:∀b,own (σ.set i (some (V.ref a))) (ρ.set i (some (dd,true))) b->own σ ρ b\/b=a:=λb q=>by
  rcases wA q with⟨p,_⟩|⟨j,_,d',t,q2⟩
  .cases p;exact .inr rr
  .exact .inl ⟨j,d',t,q2⟩
 have c:aJ (dA N _) _:=dC λb u e q=>⟨e,λz=>q (o b z)⟩;refine⟨s.bh,s.tb,s.ext,by simp[s.len],λj e q=>?_,λj e q=>?_,λj k b e f q l h1 h2=>?_⟩
 .rcases bC q with⟨rfl,p⟩|⟨ne,p⟩
  .cases p
  .obtain⟨w,h1,h2⟩:=n j e (Ne.symm ne) p;exact⟨w,by simp_all,h2.mono c⟩
 .rcases bC q with⟨rfl,p⟩|⟨ne,p⟩
  .cases p
   have hi:=ud q s.len;exact⟨a,ob,by simp[hi],m,h0,r.mono c⟩
  .obtain⟨U,o',h1,h2,h4⟩:=h j e (Ne.symm ne) p;have h3:H0 U=none:=by
    obtain⟨A,_,k1,_,k3,_⟩:=s.ow j e p;simp_all
   exact⟨U,o',by simp_all,h2,h3,h4.mono c⟩
 .rcases bC q with⟨rfl,p⟩|⟨ne,p⟩
  .rcases bC l with⟨rfl,g⟩|⟨M,g⟩
   .rfl
   .rw[vB M]at h2;have x:V.ref a=V.ref b:=by
     rcases bC h1 with⟨_,z⟩|⟨z,_⟩
     .exact vK z
     .exact absurd rr z
    cases x
    exact absurd h2 (O k f g)
  .rcases bC l with⟨rfl,g⟩|⟨M,g⟩
   .rw[vB ne]at h1;have y:V.ref a=V.ref b:=by
     rcases bC h2 with⟨_,z⟩|⟨z,_⟩
     .exact vK z
     .exact absurd rr z
    cases y
    exact absurd h1 (O j e p)
   .rw[vB ne]at h1;rw[vB M]at h2;exact s.inj j k b e f p g h1 h2
end
set_option genInjectivity true in
inductive Res where
 |nx (ρ:Env)|rt (d:D) (b:Bool)|bk (ρ:Env)|ct (ρ:Env)
abbrev FS:=Env->Option Res
def Us (K:Frag)(B0 H0:Hp)(E:Ends):Res->Prop
 |.nx ρ=>∀σ H,w9 K B0 H0 H σ ρ->E.nx σ H
 |.rt d b=>∀v H N,Ext B0 N H0 H->Is K N v d->(b=true->SJ K H0 N v d)->E.rt v H
 |.bk ρ=>∀σ H,w9 K B0 H0 H σ ρ->E.bk σ H
 |.ct ρ=>∀σ H,w9 K B0 H0 H σ ρ->E.ct σ H
def nJ (K:Frag)(g:FS):TS:=λE σ H=>∃(B0 H0:Hp)(ρ:Env)(r:Res),w9 K B0 H0 H σ ρ/\g ρ=some r/\Us K B0 H0 E r
section
variable {K:Frag}{B0 H0 N H H':Hp}{σ:St}{ρ:Env}{E:Ends}
def dc.writeB (s:dc K B0 H0 N H σ ρ)(hi:ρ[i]? = some (some (d,true)))(M:σ[i]? = some (some (V.ref a)))(h:Bx K (dA N (own σ ρ)) ob dd):
  dc K B0 H0 (upd N a ob) (upd H a ob) σ (ρ.set i (some (dd,true))):=by
 have oa:own σ ρ a:=⟨i,d,hi,M⟩;obtain⟨ws,hw,h0⟩:=s.owned oa;have l:B0 a=none:=s.bh.free h0;have o:∀b,own σ (ρ.set i (some (dd,true))) b↔own σ ρ b:=λb=>by
  constructor
  .rintro⟨j,e,O,q2⟩;rcases bC O with⟨rfl,p⟩|⟨_,p⟩
   .exact⟨i,d,hi,q2⟩
   .exact⟨j,e,p,q2⟩
  .rintro⟨j,e,O,q2⟩;by_cases z:i=j
   .subst z;exact⟨i,dd,by rw[getElem?_set_self (vV hi).1],q2⟩
   .exact⟨j,e,by simp_all,q2⟩
 have c:aJ (dA N (own σ ρ)) (dA (upd N a ob) (own σ (ρ.set i (some (dd,true))))):=dC λb u e q=>by
  have ne:b≠a:=λz=>q (z ▸ oa);exact⟨by rw[a8 ne];exact e,λz=>q ((o b).mp z)⟩
 refine⟨s.bh,s.tb,⟨λb u e=>?_,λb u e=>?_,λb u e=>?_,λb u e=>?_⟩,by rw[length_set];exact s.len,λj e q=>?_,λj e q=>?_,λj k b e f q m h1 h2=>?_⟩
 .rw[a8 (λz=>by subst z;rw[h0]at e;cases e)];exact s.ext.hh _ _ e
 .rw[a8 (λz=>by subst z;rw[l]at e;cases e)];exact s.ext.bn _ _ e
 .by_cases z:b=a
  .simp_all[au]
  .rw[a8 z]at e |-;exact s.ext.nh _ _ e
 .by_cases z:b=a
  .subst z;exact .inr h0
  .rw[a8 z]at e;exact s.ext.new _ _ e
 .rcases bC q with⟨rfl,p⟩|⟨ne,p⟩
  .cases p
  .obtain⟨v,h1,h2⟩:=s.sh j e p;exact⟨v,h1,h2.mono c⟩
 .rcases bC q with⟨rfl,p⟩|⟨ne,p⟩
  .cases p
   exact⟨a,ob,M,au,h0,h.mono c⟩
  .obtain⟨g,o',h1,h2,h3,h4⟩:=s.ow j e p;have n:g≠a:=λz=>by subst z;exact ne (s.inj i j _ d e hi p M h1)
   exact⟨g,o',h1,by rw[a8 n];exact h2,h3,h4.mono c⟩
 .have get:∀ {j:Nat}{e:D},(ρ.set i (some (dd,true)))[j]? = some (some (e,true))->∃U,ρ[j]? = some (some (U,true)):=λ{j e} q=>by
   rcases bC q with⟨rfl,p⟩|⟨ne,p⟩
   .exact⟨d,hi⟩
   .exact⟨e,p⟩
  obtain⟨U,O⟩:=get q;obtain⟨r,q2⟩:=get m;exact s.inj j k b U r O q2 h1 h2
def dc.write (s:dc K B0 H0 N H σ ρ)(hi:ρ[i]? = some (some (d,true)))(M:σ[i]? = some (some (V.ref a)))(h:IsL K (dA N (own σ ρ)) vs ds):
  dc K B0 H0 (upd N a (.lst vs)) (upd H a (.lst vs)) σ (ρ.set i (some (.lst ds,true))):=s.writeB hi M (.lst h)
def dc.tups (s:dc K B0 H0 N H σ ρ):∀a vs,gR K N a vs->gR K (dA N (own σ ρ)) a vs:=λa vs h=>by
 have M:∀u,N a=some u->¬boxed u->dA N (own σ ρ) a=some u:=λu e hu=>by
  rw[cz λz=>?_];exact e;obtain⟨ws,⟨q,O⟩,_⟩:=s.owned z;simp_all
 rcases h with (h|⟨o,h⟩)|h
 .exact .inl (.inl (M _ h (λq=>q)))
 .exact .inl (.inr ⟨o,M _ h (λq=>q)⟩)
 .exact .inr h
def dc.flat (s:dc K B0 H0 N H σ ρ)(h:Is K N v d)(n:aP d=true):Is K (dA N (own σ ρ)) v d:=h.keepT s.tups n
def dc.flats (s:dc K B0 H0 N H σ ρ)(h:IsL K N v d)(n:aV d=true):IsL K (dA N (own σ ρ)) v d:=h.keepT s.tups n
def dc.rebase (s:dc K B0 H0 N H σ ρ):dc K (dA N (own σ ρ)) (dA H (own σ ρ)) N H σ ρ:=
 ⟨dC λa o e q=>⟨s.ext.nh _ _ e,q⟩,s.tbC,⟨bv,bv,s.ext.nh,λa o e=>by
  grind[AT,cz]⟩,s.len,s.sh,λi d q=>by
   obtain⟨a,o,h1,h2,_,h4⟩:=s.ow i d q;exact⟨a,o,h1,h2,AT ⟨i,d,q,h1⟩,h4⟩,s.inj⟩
def dc.unbase (s:dc K B0 H0 N H σ ρ)(t:dc K (dA N (own σ ρ)) (dA H (own σ ρ)) N' H' O ρ'):dc K B0 H0 N' H' O ρ':=by
 have h0:aJ H0 (dA H (own σ ρ)):=λa o e=>by
  rw[cz λz=>?_];exact s.ext.hh _ _ e;obtain⟨_,_,q⟩:=s.owned z;lia
 have M:aJ B0 (dA N (own σ ρ)):=λa o e=>by
  rw[cz λz=>?_];exact s.ext.bn _ _ e;obtain⟨_,_,q⟩:=s.owned z;rw[s.bh _ _ e]at q;cases q
 refine⟨s.bh,s.tb,⟨h0.trans t.ext.hh,M.trans t.ext.bn,t.ext.nh,λa o e=>?_⟩,t.len,t.sh,λi d q=>?_,t.inj⟩
 .rcases t.ext.new a o e with z|z
  .exact s.ext.new a o (bv _ _ z)
  .exact .inr (h0.free z)
 .obtain⟨a,o,h1,h2,h3,h4⟩:=t.ow i d q;exact⟨a,o,h1,h2,h0.free h3,h4⟩
def dc.based (t:dc K B0 H0 N H σ ρ):aJ B0 (dA N (own σ ρ)):=λa o e=>by
 rw[cz λz=>?_];exact t.ext.bn _ _ e;obtain⟨_,_,q⟩:=t.owned z;rw[t.bh _ _ e]at q;cases q
@[simp] noncomputable def ce (g h:FS):FS:=λρ=>match g ρ with|some (.nx ρ')=>h ρ'|r=>r
@[simp] def qE:FS:=λρ=>some (.nx ρ)
@[simp] noncomputable def AU (c:FT)(g h:FS):FS:=λρ=>match c ρ with|some true=>g ρ|some false=>h ρ|none=>none
@[simp] noncomputable def yg (f:FE):FS:=λρ=>(f ρ).map λx=>.rt x.1 x.2
@[simp] noncomputable def Hi:D->Bool
 |.dk _ _=>true
 |.dt _ _=>true
 |_=>false
@[simp] def oV (i:Nat):FS:=λρ=>match ρ[i]? with|some (some (d,b))=>some (.rt d (b && !Hi d))|_=>none
@[simp] def yh:D->Bool
 |.lst ds=>aV ds
 |_=>false
@[simp] def setE (ρ:Env)(i:Nat)(d:D)(b:Bool):Env:=
 if aP d=true then ρ.set i (some (d,false))else if b=true/\yh d=true then ρ.set i (some (d,true))else (unown ρ).set i (some (d,false))
@[simp] def eM (i:Nat)(f:FE):FS:=λρ=>(f ρ).map λx=>.nx (setE ρ i x.1 x.2)
@[simp] def Cn (i:Nat)(f:FE):FS:=λρ=>(f (iF ρ)).map λx=>.nx (ρ.set i (some (x.1,false)))
@[simp] noncomputable def wB (i:Nat)(f:FE):FS:=λρ=>match ρ[i]? with
 |some (some (.lst ds,true))=>(f ρ).bind λx=>if aP x.1=true/\ds.length<sizeLine then some (.nx (ρ.set i (some (.lst (ds++[x.1]),true))))else none
 |_=>none
def LH (q:nJ K (ce g h) E σ H):T7 (nJ K g) (nJ K h) E σ H:=by
 obtain⟨B0,H0,ρ,r,s,e,p⟩:=q;unfold ce at e;cases M:g ρ with
 |none=>rw[M]at e;cases e
 |some O=>
  rw[M]at e;cases O with
  |nx ρ'=>exact⟨B0,H0,ρ,.nx ρ',s,M,λU H' s'=>⟨B0,H0,ρ',r,s',e,p⟩⟩
  |rt d b=>cases e;exact⟨B0,H0,ρ,_,s,M,p⟩
  |bk ρ'=>cases e;exact⟨B0,H0,ρ,_,s,M,p⟩
  |ct ρ'=>cases e;exact⟨B0,H0,ρ,_,s,M,p⟩
def Hj (q:nJ K qE E σ H):Ow E σ H:=by
 obtain⟨B0,H0,ρ,r,s,e,p⟩:=q;cases e
 exact p σ H s
def w9.grown (s:dc K B0 H0 N H σ ρ)(h:aJ H H'):w9 K B0 H0 H' σ ρ:=⟨N,s.grow (.grow s.ext.nh h)⟩
def Ql (q:nJ K (AU c g h) E σ H):TB (Cm K c) (nJ K g) (nJ K h) E σ H:=by
 obtain⟨B0,H0,ρ,r,⟨N,s⟩,e,p⟩:=q;unfold AU at e;cases M:c ρ with
 |none=>rw[M]at e;cases e
 |some b=>
  rw[M]at e;refine⟨N,ρ,b,s.ext.nh,s.rep,M,λO h1=>?_⟩;cases b with
  |true=>rw[if_pos rr];exact⟨B0,H0,ρ,r,.grown s h1,e,p⟩
  |false=>rw[if_neg H9];exact⟨B0,H0,ρ,r,.grown s h1,e,p⟩
def LJ (q:nJ K (yg f) E σ H):P5 (tD K f) E σ H:=by
 obtain⟨B0,H0,ρ,r,⟨N,s⟩,e,p⟩:=q;refine eR e λx ex e=>?_;subst e;exact⟨N,ρ,x.1,x.2,s.ext.nh,s.rep,ex,λv M N1 O i1 f1=>p v M N1 (s.ext.trans O) i1 λb=>(f1 b).back s.ext.hh⟩
def Hk (q:nJ K (oV i) E σ H):P5 (GC i) E σ H:=by
 obtain⟨B0,H0,ρ,r,⟨N,s⟩,e,p⟩:=q;unfold oV at e;split at e
 .rename_i d b ei;cases e
  cases b with
  |false=>
   obtain⟨v,h1,h2⟩:=s.sh i d ei;exact⟨v,h1,p v H N s.ext (h2.mono bv) X9⟩
  |true=>
   obtain⟨a,o,h1,h2,h3,h4⟩:=s.ow i d ei;cases h4 with
   |lst h4=>exact⟨_,h1,p _ H N s.ext (.lst (eO.of h2) (h4.mono bv)) λ_=>⟨a,_,_,rr,rr,h3,h2,h4.mono bv⟩⟩
   |dk hl h4=>exact⟨_,h1,p _ H N s.ext (.dk h2 hl (h4.mono bv)) X9⟩
   |dt hl h4=>exact⟨_,h1,p _ H N s.ext (.dt h2 hl (h4.mono bv)) X9⟩
 simp_all
def dc.setE (s:dc K B0 H0 N H σ ρ)(x:Ext N N1 H H1)(h:Is K N1 v d)(f:b=true->SJ K H N1 v d):dc K B0 H0 N1 H1 (σ.set i (some v)) (setE ρ i d b):=by
 have s1:=s.grow x;unfold DL.setE;by_cases hn:aP d=true
 .rw[if_pos hn];exact s1.bind (s1.flat h hn)
 .rw[if_neg hn];by_cases hb:b=true/\yh d=true
  .rw[if_pos hb];obtain⟨es,rfl⟩:∃es,d=.lst es:=by cases d<;>first|exact⟨_,rr⟩|(simp at hb)
   obtain⟨a,vs,ds,rfl,z,ha,O,hs⟩:=f hb.1;cases z
   have U:N a=none:=s.ext.nh.free ha;have g:¬own σ ρ a:=λz=>by obtain⟨ws,⟨q,_⟩,_⟩:=s.owned z;lia
   have c:aJ (dA N (own σ ρ)) (dA N1 (λb=>own σ ρ b\/b=a)):=dC λb u e q=>⟨x.bn _ _ e,λz=>z.elim q λz=>by subst z;rw[U]at e;cases e⟩;refine s1.bindOwn O (s.ext.hh.free ha) (λj e q z=>g ⟨j,e,q,z⟩) (λj e _ q=>?_) (λj e _ q=>?_) (.lst (hs.keepT (λt l st=>?_) hb.2))
   .obtain⟨w,h1,h2⟩:=s.sh j e q;exact⟨w,h1,h2.mono c⟩
   .obtain⟨k,o',h1,h2,_,h4⟩:=s.ow j e q;exact⟨k,o',h1,x.bn _ _ h2,h4.mono c⟩
   .have M:∀u,N1 t=some u->¬boxed u->dA N1 (λb=>own σ ρ b\/b=a) t=some u:=λu e hu=>by
     rw[cz λz=>?_];exact e;rcases z with z|z
     .obtain⟨ws,⟨q,m⟩,_⟩:=s1.owned z;simp_all
     .subst z;rw[e]at O;cases O;exact hu trivial
    rcases st with (st|⟨o,st⟩)|st
    .exact .inl (.inl (M _ st (λq=>q)))
    .exact .inl (.inr ⟨o,M _ st (λq=>q)⟩)
    .exact .inr st
  .rw[if_neg hb];exact s1.unown.bind (h.mono λa o e=>by rw[cz uc];exact e)
def Co (q:nJ K (eM i f) E σ H):EI (tD K f) (iB i) E σ H:=by
 obtain⟨B0,H0,ρ,r,⟨N,s⟩,e,p⟩:=q;refine eR e λx ex e=>?_;subst e;exact⟨N,ρ,x.1,x.2,s.ext.nh,s.rep,ex,λv M N1 O i1 f1=>p _ M ⟨N1,s.setE O i1 f1⟩⟩
def Hl (q:nJ K (Cn i f) E σ H):EI (tD K f) (iB i) E σ H:=by
 obtain⟨B0,H0,ρ,r,⟨N,s⟩,e,p⟩:=q;refine eR e λx ex e=>?_;subst e;refine⟨dA N (own σ ρ),iF ρ,x.1,x.2,bv.trans s.ext.nh,s.repH,ex,λv M N1 O i1 f1=>?_⟩;obtain⟨s1,c⟩:=s.growH O;exact p _ M ⟨_,s1.bind (i1.mono c)⟩
def LL (q:nJ K (wB i f) E σ H):∃(a:Addr)(us:LV),σ[i]? = some (some (V.ref a))/\H a=some (.lst us)/\O0 (tD K f) TZ σ H λxs H2=>Cj (.ref a) xs H2 λ_ U=>E.nx σ U:=by
 obtain⟨B0,H0,ρ,r,⟨N,s⟩,e,p⟩:=q;unfold wB at e;split at e
 .rename_i ds ei;refine eX e λx ex e=>?_;split at e
  .rename_i hx;cases e
   obtain⟨a,vs,M,z,h1,h2,h3,h4⟩:=s.owL i _ ei;cases z
   refine⟨a,vs,h1,s.ext.nh _ _ h2,N,ρ,x.1,x.2,s.ext.nh,s.rep,ex,λv b N1 O i1 f1=>⟨a,vs,v,rr,rr,O.hh _ _ (s.ext.nh _ _ h2),by rw[h4.length];exact hx.2,?_⟩⟩;have s1:=s.grow O;obtain⟨c,d,M,z,k1,k2,_,k4⟩:=s1.owL i _ ei;cases z
   rw[h1]at k1;cases k1;rw[O.bn _ _ h2]at k2;cases k2;exact p σ _ ⟨_,s1.write ei h1 (k4.append (.cons (s1.flat i1 hx.1) .nil))⟩
  simp_all
 simp_all
end
noncomputable def c6 (c:FT)(g:FS):Nat->Env->Option Res
 |0,_=>none
 |n+1,ρ=>match c ρ with
  |some true=>match g ρ with
   |some (.nx ρ')=>c6 c g n ρ'
   |some (.ct ρ')=>c6 c g n ρ'
   |some (.bk ρ')=>some (.nx ρ')
   |r=>r
  |some false=>some (.nx ρ)
  |none=>none
def EY (q:nJ K (c6 c g n) E σ H):GH (Cm K c) (nJ K g) E σ H:=by
 obtain⟨B0,H0,ρ,r,s,e,p⟩:=q;refine⟨λm σ H=>∃ρ,w9 K B0 H0 H σ ρ/\c6 c g m ρ=some r,⟨n,ρ,s,e⟩,?_⟩;rintro m σ H ⟨ρ,⟨N,s⟩,e⟩;cases m with
 |zero=>cases e
 |succ m=>
  unfold c6 at e;cases O:c ρ with
  |none=>rw[O]at e;cases e
  |some b=>
   rw[O]at e;refine⟨N,ρ,b,s.ext.nh,s.rep,O,λf h1=>?_⟩;cases b with
   |false=>rw[if_neg H9];cases e;exact p σ f (.grown s h1)
   |true=>
    rw[if_pos rr];refine⟨λσ H=>∃ρ,w9 K B0 H0 H σ ρ/\c6 c g m ρ=some r,λM H' w=>⟨m,Nat.lt_succ_self m,w⟩,?_⟩;cases U:g ρ with
    |none=>rw[U]at e;cases e
    |some a=>
     rw[U]at e;refine⟨B0,H0,ρ,a,.grown s h1,U,?_⟩;cases a with
     |nx ρ'=>exact λM H' s'=>⟨ρ',s',e⟩
     |ct ρ'=>exact λM H' s'=>⟨ρ',s',e⟩
     |bk ρ'=>cases e;exact λM H' s'=>p M H' s'
     |rt d b=>cases e;exact p
def m4 (K:Frag)(J:It)(B:Hp)(ds:LD):Prop:=∀(i:Nat)(H:Hp),aJ B H ->
 (∀d,ds[i]? = some d->J.go i H/\∀x H',J.yld i H x H'->∃N,Ext B N H H'/\Is K N x d)/\(ds.length<=i->J.stop i H)
def tDI (K:Frag)(f:FA):TI:=λσ H R=>∃(B:Hp)(ρ:Env)(ds:LD),aJ B H/\eK K B σ ρ/\f ρ=some ds/\∀(J:It)(H' N:Hp),Ext B N H H'->m4 K J N ds->R J H'
abbrev FG:=D->Env->Option Env
def KU (K:Frag)(tg:FG)(g:TG):Prop:=∀(B0 H0 N H:Hp)(σ:St)(ρ ρ':Env)(v:V)(d:D)(Q:St->Hp->Prop),dc K B0 H0 N H σ ρ->Is K (dA N (own σ ρ)) v d->tg d ρ=some ρ' ->
 (∀M H',w9 K B0 H0 H' M ρ'->Q M H')->g v σ H Q
@[simp] noncomputable def eU (i:Nat):FG:=λd ρ=>some (ρ.set i (some (d,false)))
def Hm:KU K (eU i) (iB i):=by
 intro B0 H0 N H σ ρ ρ' v d Q s h e k;cases e
 exact k _ H ⟨N,s.bind h⟩
noncomputable def fz (tg:FG)(g:FS):LD->Env->Option Res
 |[],ρ=>some (.nx ρ)
 |d::ds,ρ=>(tg d ρ).bind λM=>match g M with
  |some (.nx ρ')=>fz tg g ds ρ'
  |some (.ct ρ')=>fz tg g ds ρ'
  |some (.bk ρ')=>some (.nx ρ')
  |r=>r
@[simp] def Hn (tg:FG)(g:FS)(ρ:Env):fz tg g [] ρ=some (.nx ρ):=by rw[fz]
@[simp] theorem ue (tg:FG)(g:FS)(d:D)(ds:LD)(ρ:Env):fz tg g (d::ds) ρ=(tg d ρ).bind λM=>match g M with
  |some (.nx ρ')=>fz tg g ds ρ'
  |some (.ct ρ')=>fz tg g ds ρ'
  |some (.bk ρ')=>some (.nx ρ')
  |r=>r:=by rw[fz]
@[simp] def EZ (f:FA)(tg:FG)(g:FS):FS:=λρ=>(f (iF ρ)).bind λds=>fz tg g ds ρ
def yi (w:KU K tg t)(s1:dc K B0 H0 N H1 σ ρ)(c:aJ N1 (dA N (own σ ρ)))(J1:m4 K J N1 ds)(e:fz tg g ds ρ=some r)(p:Us K B0 H0 E r):
  ∃W:Nat->Nat->St->Hp->Prop,(∃m,W 0 m σ H1)/\∀i m σ H,W i m σ H->(J.stop i H/\E.nx σ H)\/(J.go i H/\∃N:St->Hp->Prop,(∀M H',N M H'->∃l,l<m/\W (i+1) l M H')/\∀x H',J.yld i H x H'->t x σ H' λf H2=>nJ K g { E with nx:=N,ct:=N,bk:=E.nx } f H2):=by
 refine⟨λi m σ H=>∃(N:Hp)(ρ:Env),dc K B0 H0 N H σ ρ/\aJ N1 (dA N (own σ ρ))/\m=ds.length - i/\i<=ds.length/\fz tg g (ds.drop i) ρ=some r,⟨ds.length,_,ρ,s1,c,rr,uN _,e⟩,?_⟩;clear e s1 c;rintro i m σ H ⟨N,ρ,s,c,rfl,hi,e⟩;have hs:aJ N1 H:=c.trans (bv.trans s.ext.nh);obtain⟨A,B⟩:=J1 i H hs;by_cases O:i<ds.length
 .obtain⟨go,C⟩:=A ds[i] (by simp[O]);rw[List.drop_eq_getElem_cons O]at e;refine eX e λh D e=>?_;refine .inr ⟨go,λM H'=>∃(N:Hp)(ρ:Env),dc K B0 H0 N H' M ρ/\aJ N1 (dA N (own M ρ))/\fz tg g (ds.drop (i+1)) ρ=some r,λM H' ⟨N',ρ',s',F,G⟩=>⟨_,N9,N',ρ',s',F,rr,O,G⟩,λx H' y=>?_⟩;obtain⟨N2,U,i2⟩:=C x H' y;have I:Ext (dA N (own σ ρ)) (join (dA N (own σ ρ)) N2) H H':=by
   refine⟨U.hh,dU,λa o e=>?_,λa o e=>?_⟩
   .cases q:dA N (own σ ρ) a with
    |some u=>rw[dU _ _ q]at e;cases e;exact U.hh _ _ (s.ext.nh _ _ (bv _ _ q))
    |none=>rw[dh q]at e;exact U.nh _ _ e
   .cases q:dA N (own σ ρ) a with
    |some u=>rw[dU _ _ q]at e;simp_all
    |none=>
     rw[dh q]at e;rcases U.new a o e with z|z
     .rw[c _ _ z]at q;cases q
     .exact .inr z
  obtain⟨s2,c2⟩:=s.growH I;have c3:aJ N2 (join (dA N (own σ ρ)) N2):=λa o e=>by
   rcases U.new a o e with z|z
   .exact dU _ _ (c _ _ z)
   .rw[dh ((bv.trans s.ext.nh).free z)];exact e
  have L:=i2.mono (c3.trans c2);have P:aJ N1 (dA (join N (join (dA N (own σ ρ)) N2)) (own σ ρ)):=(U.bn.trans c3).trans c2;refine w _ _ _ _ _ _ _ _ _ _ s2.rebase L D λf H2 ⟨Q,R⟩=>?_;cases k:g h with
  |none=>rw[k]at e;cases e
  |some n=>
   rw[k]at e;refine⟨_,_,h,n,⟨Q,R⟩,k,?_⟩;have back:∀ {M:St}{H':Hp}{ρ':Env}{N':Hp},dc K _ _ N' H' M ρ'->dc K B0 H0 N' H' M ρ'/\aJ N1 (dA N' (own M ρ')):=λt=>⟨s2.unbase t,P.trans t.based⟩;cases n with
   |nx ρ'=>exact λM H' ⟨N',t⟩=>⟨N',ρ',(back t).1,(back t).2,e⟩
   |ct ρ'=>exact λM H' ⟨N',t⟩=>⟨N',ρ',(back t).1,(back t).2,e⟩
   |bk ρ'=>cases e;exact λM H' ⟨N',t⟩=>p M H' ⟨N',(back t).1⟩
   |rt d b=>
    cases e
    intro v H' N' j S T;have y:=s2.rebase.ext;have h0:aJ H0 (dA H' (λ_=>False)):=λa o e=>by rw[cz (λz=>z)];exact j.hh _ _ (by
     rw[cz λz=>?_];exact s2.ext.hh _ _ e;obtain⟨_,_,q⟩:=s2.owned z;lia)
    have V:aJ H0 (dA H' (λ_=>False)):=h0;have X:aJ H0 (dA H' (λ_=>False)):=h0;have hc:∀a,dA H' (λ_=>False) a=H' a:=λa=>cz (λz=>z);have hb:aJ H0 (dA _ (own σ ρ)):=λa o e=>by
     rw[cz λz=>?_];exact s2.ext.hh _ _ e;obtain⟨_,_,q⟩:=s2.owned z;lia
    have bb:aJ B0 (dA _ (own σ ρ)):=λa o e=>by
     rw[cz λz=>?_];exact s2.ext.bn _ _ e;obtain⟨_,_,q⟩:=s2.owned z;rw[s2.bh _ _ e]at q;cases q
    refine p v H' N' ⟨hb.trans j.hh,bb.trans j.bn,j.nh,λa o e=>?_⟩ S λz=>(T z).back hb;rcases j.new a o e with z|z
    .exact s2.ext.new a o (bv _ _ z)
    .exact .inr (hb.free z)
 .have ei:i=ds.length:=N9
  subst ei;rw[List.drop_eq_nil_of_le (vT _)]at e;cases e
  exact .inl ⟨B (vT _),p σ H ⟨N,s⟩⟩
def LM (M:KU K tg t)(q:nJ K (EZ f tg g) E σ H):PD (tDI K f) t (nJ K g) E σ H:=by
 obtain⟨B0,H0,ρ,r,⟨N,s⟩,e,p⟩:=q;refine eX e λds O e=>?_;refine⟨dA N (own σ ρ),iF ρ,ds,bv.trans s.ext.nh,s.repH,O,λJ a N1 U J1=>?_⟩;obtain⟨s1,c⟩:=s.growH U;exact yi M s1 c J1 e p
def Ut (K:Frag)(f:FA):TI:=λσ H R=>∃(B:Hp)(ρ:Env)(ds:LD),aJ B H/\eK K B σ ρ/\f ρ=some ds/\∀(J:It)(H' N:Hp),Ext B N H H'->(∀M,m4 K J M ds)->R J H'
@[simp] def ug (f:FA)(tg:FG)(g:FS):FS:=λρ=>(f ρ).bind λds=>fz tg g ds ρ
def Ho (M:KU K tg t)(q:nJ K (ug f tg g) E σ H):PD (Ut K f) t (nJ K g) E σ H:=by
 obtain⟨B0,H0,ρ,r,⟨N,s⟩,e,p⟩:=q;refine eX e λds O e=>?_;refine⟨N,ρ,ds,s.ext.nh,s.rep,O,λJ a N1 U J1=>?_⟩;exact yi M (s.grow U) (aJ.refl _) (J1 _) e p
end DL
namespace DL
open PySem PySem.Spec PyProof.Rows L2
abbrev JE (X:Cx)(e:Expr)(f:FE):Prop:=PE X e (tD X.K f)
abbrev JT (X:Cx)(e:Expr)(f:FT):Prop:=PT X e (Cm X.K f)
abbrev JW (X:Cx)(e:Expr)(f:FT):Prop:=PW X e (Cm X.K f)
abbrev JA (X:Cx)(es:QD)(f:FA):Prop:=PA X es (SK X.K f)
abbrev JS (X:Cx)(st:Stmt)(g:FS):Prop:=PS X st (nJ X.K g)
abbrev yj (X:Cx)(st:List Stmt)(g:FS):Prop:=tV X st (nJ X.K g)
abbrev JI (X:Cx)(tg M:Expr)(f:FA):Prop:=PI X tg M (tDI X.K f)
def Qm (M:Model)(A:Around)(U:QD)(a:Expr)(env:PySem.Env)(b:Value)(E:QV)(P:Shared->Prop):Shared->Prop:=
 wpAny M A (forIn U true λc r=>if r=true then do let ok <-isTrue c env (eval c env);pure (ForInStep.yield ok)else pure (ForInStep.yield r))
  (λok O=>if ok=true then wpAny M A (eval a env) (λx=>wpAny M A (call (.builtin "list.append") [b,x]) (λ_=>P) E) E O else P O) E
def wD {E:QV}(i:∀x s,¬E x s)(I:Nat->Shared->Prop)
  (j:∀n s,I n s->wpAny (model prog w) A (pyNext it) (λr M=>match r with
   |none=>R (.ok .next) M
   |some v=>wpAny (model prog w) A (letOwnedTupleGo KG it v) (λ_=>wpAny (model prog w) A (assign KG env v) (λ_=>Qm (model prog w) A wj xR env KE E λs=>∃m,m<n/\I m s) E) E M) E s)
  (n:Nat) (h:I n s):codeAny (model prog w) A (.compLoop (.ListComp xR [⟨KG,dS,wj,0⟩] scope pos) 0 it KE env) R s:=by
 refine codeAny_loop rr I (λn s k=>?_) n h;refine wpAny_noted (wpAny_mono (E:=E) ?_ (λ_ _ q=>q) λ_ _ z=>(i _ _ z).elim);rw[compTurn_list];refine wX (wpAny_standAt (wX (bJ (j n s k) λr M O=>?_)));cases r with
 |none=>exact wY O
 |some v=>
  refine wX (bJ O λ_ M O=>wX (bJ O λ_ d a=>wX (bJ a λok e U=>?_)));cases ok with
  |false=>exact wY ⟨rr,U⟩
  |true=>exact wX (wX (bJ U λx f b=>wX (bJ b λ_ g c=>wY (wY ⟨rr,c⟩))))
theorem Ext.upd (x:Ext B N H H')(h:H a=none)(M:N a=none):Ext B N H (upd H' a o):=
 ⟨λb u e=>by rw[a8 (λz=>by subst z;rw[h]at e;cases e)];exact x.hh _ _ e,x.bn,λb u e=>by rw[a8 (λz=>by subst z;rw[M]at e;cases e)];exact x.nh _ _ e,x.new⟩
noncomputable abbrev ij (X:Cx)(N':LS)(scope:Scope)(cl:List (Str×Addr))(C:Addr)(M:Shared)(O:Hp)(fp:List Addr):Cx:=
 { X with N:=N',s₀:=M,H₀:=O,env:=compEnvC scope cl C X.env,outer:=X.stack,stack:=X.stack,ex:=fp,fn:=λ_=>false,pn:=[],xe:=λ_ _=>False }
inductive ml (X:Cx)(N':List Str)(scope:Scope)(cl:List (Str×Addr)):Nat->List Nat->Prop where
 |nil {j:Nat}(h:N'.length=j):ml X N' scope cl j []
 |cons {j i:Nat}{r:List Nat}{x:Str}(h1:N'[j]? = some x) (h2:X.N[i]? = some x) (h3:X.env.kindOf x=some .cell\/X.env.kindOf x=some .free)
   (h4:(relabel scope X.env).names.lookup x=some .cell\/(relabel scope X.env).names.lookup x=some .free) (h5:cl.lookup x=X.env.cells.lookup x) (t:ml X N' scope cl (j+1) r):ml X N' scope cl j (i::r)
theorem ml.len:∀ {j:Nat}{cap:LN},ml X N' scope cl j cap->N'.length=j+cap.length
 |_,_,.nil h=>by rw[h];rfl
 |j,i::r,.cons _ _ _ _ _ t=>by rw[t.len,vE];lia
theorem ml.get:∀ {j:Nat}{cap:LN}{k i:Nat},ml X N' scope cl j cap->cap[k]? = some i->∃x,N'[j+k]? = some x/\X.N[i]? = some x/\(X.env.kindOf x=some .cell\/X.env.kindOf x=some .free) /\
  ((relabel scope X.env).names.lookup x=some .cell\/(relabel scope X.env).names.lookup x=some .free)/\cl.lookup x=X.env.cells.lookup x
 |_,_,_,_,.nil _,e=>by simp at e
 |j,_,0,_,.cons h1 h2 h3 h4 h5 _,e=>by simp at e;subst e;exact⟨_,h1,h2,h3,h4,h5⟩
 |j,_,k+1,i,.cons _ _ _ _ _ t,e=>by
  obtain⟨x,q,r⟩:=t.get (by simpa using e);exact⟨x,N9,r⟩
structure CompSc (X:Cx)(scope:Scope)(cl:List (Str×Addr)):Prop where
 clos:closureFor scope X.env=pure cl
 nocell:∀y∈scope.names,y.2≠.cell
 kind:scope.kind=.function
 names:∀y∈scope.names,y.2=.local->scope.names.lookup y.1=some .local
 sub:∀x c,cl.lookup x=some c->X.env.cells.lookup x=some c
 has:∀x,((relabel scope X.env).names.lookup x=some .cell\/(relabel scope X.env).names.lookup x=some .free)->∃c,cl.lookup x=some c
noncomputable def dD:List (Str×NameKind)->List (Str×Addr)->List (Str×Addr)->List (Str×Addr)
 |[],_,cs=>cs
 | (n,k)::r,cells,cs=>dD r cells (if k == .free then (match cells.lookup n with|some c=>(n,c)::cs|none=>cs)else cs)
def uh:∀(names:List (Str×NameKind))(cs:List (Str×Addr)),(∀y∈names,y.2=.free->(env.cells.lookup y.1).isSome=true) ->
    (do let mut cs:=cs
        for (name,kind)in names do
          if kind == .free then cs:=(name,<-cellOf env name)::cs
        return cs:Sem (List (Str×Addr)))=pure (dD names env.cells cs):=by
  intro names;induction names with
  |nil=>intro cs _;rfl
  |cons y r M=>
    intro cs h;grind[dD,cellOf]
theorem m5:∀(names:List (Str×NameKind))(cs:List (Str×Addr)),(∀y d,cs.lookup y=some d->cells.lookup y=some d)->(dD names cells cs).lookup x=some c->cells.lookup x=some c
 |[],cs,h,e=>h x c e
 | (n,k)::r,cs,h,e=>by
  refine m5 r _ (λy d q=>?_) e;split at q
  .split at q
   .rename_i O M;rw[lookup_cons]at q;split at q
    .rename_i hy;cases q
     rw[eq_of_beq hy];exact M
    .exact h y d q
   .exact h y d q
  .exact h y d q
theorem ui:∀(names:List (Str×NameKind))(cs:List (Str×Addr)),(cs.lookup x).isSome=true->((dD names cells cs).lookup x).isSome=true
 |[],cs,h=>h
 | (n,k)::r,cs,h=>by
  refine ui r _ ?_;split
  .split
   .rw[lookup_cons];split
    .rfl
    .exact h
   .exact h
  .exact h
theorem m6:∀(names:List (Str×NameKind))(cs:List (Str×Addr)),(x,NameKind.free)∈names->(cells.lookup x).isSome=true->((dD names cells cs).lookup x).isSome=true
 | (n,k)::r,cs,hm,hc=>by
  rcases vP hm with e|e
  .cases e
   refine ui r _ ?_;grind
  .exact m6 r _ e hc
theorem ga {α:Type}{x:Str}{k:α}:∀ {l:List (Str×α)},l.lookup x=some k->(x,k)∈l
 | (n,j)::r,h=>by
  rw[lookup_cons]at h;split at h
  .simp_all
  .exact mZ _ (ga h)
def Qn {X:Cx}{scope:Scope}(h1:∀y∈scope.names,y.2≠.cell)(h2:scope.kind=.function)(h3:∀y∈scope.names,y.2=.local->scope.names.lookup y.1=some .local)(M:(scope.names.all λy=>!(y.2 == NameKind.free) || (X.env.cells.lookup y.1).isSome)=true):
  CompSc X scope (dD scope.names X.env.cells []):=by
 have h4:∀y∈scope.names,y.2=.free->(X.env.cells.lookup y.1).isSome=true:=λy hy e=>by
  grind
 have frees:∀x,((relabel scope X.env).names.lookup x=some .cell\/(relabel scope X.env).names.lookup x=some .free)->(x,NameKind.free)∈scope.names:=λx h=>by
  have:∃k,(x,k)∈(relabel scope X.env).names/\(k=.cell\/k=.free):=by
   grind[ga]
  grind[relabel]
 exact⟨uh _ [] h4,h1,h2,h3,λx c e=>m5 _ [] (λy d q=>by cases q) e,λx h=>by
  have:=m6 _ [] (frees x h) (h4 _ (frees x h) rr);exact uU this⟩
def pT {scope:Scope}{cells:List (Str×Addr)}{x:Str}(h:(x,NameKind.free)∈scope.names)(hc:(cells.lookup x).isSome=true):(dD scope.names cells []).lookup x=cells.lookup x:=by
 obtain⟨c,e⟩:=uU (m6 _ [] h hc);grind[m5]
noncomputable def yk (nT:Nat)(cap:LN)(σ:St):St:=List.replicate nT none++cap.map λi=>(σ[i]?).join
noncomputable def cx (nT:Nat)(cap:LN)(ρ:Env):Env:=List.replicate nT none++cap.map λi=>match ρ[i]? with|some (some (d,_))=>some (d,false)|_=>none
def wF {α:Type}{nT:Nat}{cap:LN}{f:Nat->Option α}{j:Nat}{v:α}(h:(List.replicate nT none++cap.map f)[j]? = some (some v)):∃k i,j=nT+k/\cap[k]? = some i/\f i=some v:=by
 by_cases hj:j<nT
 .rw[getElem?_append_left (by simpa using hj),List.getElem?_replicate,if_pos hj]at h;cases h
 .rw[getElem?_append_right (by simpa using Nat.not_lt.mp hj),length_replicate,vA]at h;refine eR h λi h1 h2=>?_;exact⟨j - nT,i,N9,h1,h2⟩
def LO {α:Type}{nT:Nat}{cap:LN}{f:Nat->Option α}{k i:Nat}{v:α}(h1:cap[k]? = some i)(h2:f i=some v):(List.replicate nT none++cap.map f)[nT+k]? = some (some v):=by
 rw[getElem?_append_right X9,length_replicate,vA,Nat.add_sub_cancel_left,h1];simp[h2]
def eK.caps {K:Frag}{B:Hp}{σ:St}{ρ:Env}{nT:Nat}{cap:LN}(h:eK K B σ ρ):eK K B (yk nT cap σ) (cx nT cap ρ):=⟨h.tb,λj d b q=>by
 obtain⟨k,i,rfl,h1,h2⟩:=wF q;split at h2
 .rename_i d' b' e;cases h2
  obtain⟨v,g1,M⟩:=h.at' i _ _ e;exact⟨v,LO h1 (by rw[g1];rfl),M⟩
 simp_all⟩
noncomputable def fJ (tg:FG)(c:FT)(fe:FE)(ρ:Env):LD->Option LD
 |[]=>some []
 |d::r=>(tg d ρ).bind λM=>(c M).bind λb=>if b=true then (fe M).bind λx=>(fJ tg c fe ρ r).map (x.1 :: ·)else fJ tg c fe ρ r
@[simp] def SM (tg:FG)(c:FT)(fe:FE)(ρ:Env):fJ tg c fe ρ []=some []:=by rw[fJ]
@[simp] theorem AW (tg:FG)(c:FT)(fe:FE)(ρ:Env)(d:D)(r:LD):fJ tg c fe ρ (d::r)=(tg d ρ).bind λM=>(c M).bind λb=>if b=true then (fe M).bind λx=>(fJ tg c fe ρ r).map (x.1 :: ·)else fJ tg c fe ρ r:=by rw[fJ]
@[simp] def jw (fi:FA)(nT:Nat)(cap:LN)(tg:FG)(c:FT)(fe:FE):FE:=λρ=>(fi ρ).bind λitems=>if items.length<=sizeLine then (fJ tg c fe (cx nT cap ρ) items).map λds=>(.lst ds,true)else none
def LP (K:Frag)(n:Nat)(tg:FG)(g:TG):Prop:=∀(B H:Hp)(σ:St)(ρ O:Env)(v:V)(d:D)(Q:St->Hp->Prop),(∀i,i<n->ρ[i]? = some none)->eK K B σ ρ->aJ B H->Is K B v d->tg d ρ=some O ->
 ρ.length=σ.length->(∀M,eK K B M O->(∀U,eK K U σ ρ->eK K U M ρ)->ρ.length=M.length->Q M H)->g v σ H Q
def qF {K:Frag}{n i:Nat}(hi:i<n):LP K n (eU i) (iB i):=by
 intro B H σ ρ U v d Q cl rep s h e hl k;cases e
 have O:i<σ.length:=by
  grind
 refine k _ ⟨rep.tb,λj e b q=>?_⟩ ?_ (by simpa using hl)
 .rcases bC q with⟨rfl,p⟩|⟨ne,p⟩
  .simp_all
  .obtain⟨w,h1,h2⟩:=rep.at' j e b p;simp_all
 .intro a M;refine⟨M.tb,λj e b q=>?_⟩;obtain⟨w,h1,h2⟩:=M.at' j e b q;have ne:i≠j:=λz=>by grind
  exact⟨w,by simp_all,h2⟩
def JC (X:Cx)(M:QD)(c:FT):Prop:=∀(af:AO)(s:Shared)(σ:St)(H:Hp)(Q:Bool->Hp->Prop),Inv X af σ H s->Cm X.K c σ H Q ->
 wq X (forIn M true λc r=>if r=true then do let ok <-isTrue c X.env (eval c X.env);pure (ForInStep.yield ok)else pure (ForInStep.yield r)) (TP X af σ Q) X.xe s
@[simp] def ym:FT:=λ_=>some true
def Qo:JC X [] ym:=by
 intro af s σ H Q I h;obtain⟨B,ρ,c,M,rep,e,q⟩:=h;cases e
 exact wpAny_tests_nil ⟨H,I,q H (.refl H)⟩
def Qp (h:JT X e f):JC X [e] f:=λaf s σ H Q I q=>wpAny_tests_one (h _ s σ H Q I q)
inductive CI (Y:Cx)(tn:Nat->Heap->Prop)(fp:List Addr)(N1 H2:Hp)(κ:Env)(a:Addr)(l:List D->Option (List D))(items ds:List D)(s:Shared):Nat->Prop
 |mk (i:Nat) (N:Hp) (vs:List V) (es r:List D) (σ:St) (H:Hp) (I:Inv Y [] σ H s) (ti:tn i s.heap) (hn:∀b∈fp,H b=none) (hi:i<=items.length) (rp:eK Y.K N1 σ κ) (hl:κ.length=σ.length)
   (x:Ext N1 N H2 H) (n0:N a=none) (h0:H a=some (.lst vs)) (vl:vs.length<=i) (iv:IsL Y.K N vs es) (er:l (items.drop i)=some r) (ed:es++r=ds):CI Y tn fp N1 H2 κ a l items ds s (items.length - i)
def Ext.both (x:Ext N1 N H2 H)(y:Ext N1 N' H H'):Ext N (join N N') H H'/\aJ N' (join N N'):=by
 refine⟨⟨y.hh,dU,λa o e=>?_,λa o e=>?_⟩,λa o e=>?_⟩
 .cases z:N a with
  |some u'=>rw[dU _ _ z]at e;cases e;exact y.hh _ _ (x.nh _ _ z)
  |none=>rw[dh z]at e;exact y.nh _ _ e
 .cases z:N a with
  |some u'=>rw[dU _ _ z]at e;simp_all
  |none=>
   rw[dh z]at e;exact(y.new a o e).elim (λM=>by rw[x.bn _ _ M]at z;cases z) .inr
 .exact(y.new a o e).elim (λz=>dU _ _ (x.bn _ _ z)) λz=>by rw[dh (x.nh.free z)];exact e
def Ext.off (x:Ext B N H H')(h:B a=none)(h':H a=some o):N a=none:=by
 cases z:N a with
 |none=>rfl
 |some u=>
  rcases x.new _ _ z with z|z
  .rw[h]at z;cases z
  simp_all
def Fa {Y:Cx}(U:Y.calm=true)(hE:∀x s,¬Y.xe x s)(hg:PG Y tg g)(Xn:LP Y.K nT t9 g)(hc:JC Y wj fc)(he:JE Y xR fe)(T:Turn Y.prog Y.w Y.K tg J fp it tn)(Xo:∀i,i<nT->κ[i]? = some none)
  (J1:m4 Y.K J N1 items) (hsz:items.length<=sizeLine) (hD:H2 a=none) (ZU:∀H',(∀b∈fp,H' b=none)->∀b∈fp,lf Y [] H' b)
  (hR:∀E O H' N vs,Inv Y [] O H' E->Ext N1 N H2 H'->N a=none->H' a=some (.lst vs)->IsL Y.K N vs ds->R (.ok .next) E) (h:CI Y tn fp N1 H2 κ a (fJ t9 fc fe κ) items ds s items.length):
  codeAny (model Y.prog Y.w) Y.A (.compLoop (.ListComp xR [⟨tg,dS,wj,0⟩] scope pos) 0 (.ref it) (.ref a) Y.env) R s:=by
 refine wD hE (λn s=>CI Y tn fp N1 H2 κ a (fJ t9 fc fe κ) items ds s n) (λn s' h=>?_) _ h;obtain⟨i,N,vs,es,r,O,H',I',ti,hn,hi,rp,j6,x,ZV,Yh,Cb,Xp,er,X⟩:=h;have sH:aJ N1 H':=x.bn.trans x.nh;by_cases lF:i<items.length
 .obtain⟨go,yl⟩:=(J1 i H' sH).1 items[i] (by simp[lF]);refine bJ (T.item Y rr rr rr U i [] s' O H' Y.xe I' (ZU _ hn) ti go) λq E ⟨u,eu,hq⟩=>?_;subst eu;refine bJ hq λ_ s5 ⟨xv,F,I5,rx,y5,t5,ZM⟩=>?_;obtain⟨j,x5,i5⟩:=yl xv F y5;obtain⟨x6,c5⟩:=x.both x5;have G:(join N j) a=none:=x6.off ZV Yh;have Z:aJ (join N j) F:=x6.nh;rw[List.drop_eq_getElem_cons lF]at er;unfold fJ at er;refine eX er λk e1 er=>?_;refine eX er λb e2 er=>?_;have dQ:∀(H:Shared)(f:St)(l I:Hp)(L:LV)(Yk r9:LD),Inv Y (qu fp s5.heap) f l H->eK Y.K N1 f κ->κ.length=f.length->Ext N1 I H2 l->I a=none->l a=some (.lst L) ->
    L.length<=i+1->IsL Y.K I L Yk->fJ t9 fc fe κ (items.drop (i+1))=some r9->Yk++r9=ds->∃m,m<items.length - i/\CI Y tn fp N1 H2 κ a (fJ t9 fc fe κ) items ds H m:=λH f l I L Yk r9 t rp9 l9 x9 n9 h9 v9 i9 er9 ed9=>
   ⟨_,N9,i+1,I,L,Yk,r9,f,l,t.pins_of λp hp=>by simp at hp,T.keep _ _ _ t5 λb hb o e=>(t.pin (b,o) (mY _ (iX hb e))).1,λb hb=>by
    obtain⟨o,e,d⟩:=T.obj _ _ t5 b hb;exact(t.pin (b,o) (mY _ (iX hb e))).2.1,lF,rp9,l9,x9,n9,h9,v9,i9,er9,ed9⟩
  refine bJ (hg (qu fp s5.heap) s5 O F xv u (λM P=>P=F/\eK Y.K (join N j) M k/\eK Y.K N1 M κ/\κ.length=M.length) (I5.pinned (ZU _ ZM) (T.obj _ _ t5)) rx
   (Xn (join N j) F O κ k xv items[i] _ Xo (rp.mono (x.bn.trans dU)) Z (i5.mono c5) e1 j6 λσ1 r1 r2 l1=>⟨rr,r1,r2 N1 rp,l1⟩)) λ_ s6 ⟨M,P,I6,eH,Q,S,l6⟩=>?_
  subst eH;have ZW:P a=some (.lst vs):=x5.hh _ _ Yh;refine bJ (hc _ s6 M P (λc z=>c=b/\aJ P z) I6 ⟨join N j,k,b,Z,Q,e2,λz B=>⟨rr,B⟩⟩) λok s7 ⟨z,I7,eb,B⟩=>?_;subst eb;have x7:Ext N1 (join N j) H2 z:=(x.trans x6).trans (.grow Z B);cases ok with
  |false=>
   exact dQ s7 M z (join N j) vs es r I7 S l6 x7 G (B _ _ ZW) (le_succ_of_le Cb) (Xp.mono dU) er X
  |true=>
   rw[if_pos rr]at er |-;refine eX er λy e3 er=>?_;refine eR er λr' e4 er=>?_;subst er;refine bJ (he _ s7 M z (λv V=>∃C,Ext (join N j) C z V/\Is Y.K C v y.1) I7 ⟨join N j,k,y.1,y.2,Z.trans B,Q,e3,λv V C D i8 _=>⟨C,D,i8⟩⟩) λw8 s8 ⟨v8,V,I8,r8,C,D,i8⟩=>?_;refine bJ (ua _ s8 M V (.ref a) [v8] (.ref a) [w8] (λ_ l=>l=upd V a (.lst (vs++[v8]))) I8 rr (.cons r8 .nil) ⟨_,vs,v8,rr,rr,D.hh _ _ (B _ _ ZW),N9,rr⟩) λ_ H ⟨_,l,t,_,e9⟩=>?_;subst e9;have W:=D.off G (B _ _ ZW);exact dQ H M _ C (vs++[v8]) (es++[y.1]) r' t S l6 ((x7.trans D).upd hD W) W au (by simp_all) ((Xp.mono (dU.trans D.bn)).append (.cons i8 .nil)) e4 (by rw[append_assoc];exact X)
 .obtain rfl:i=items.length:=N9
  rw[List.drop_eq_nil_of_le (vT _)]at er;cases er
  rw[uQ]at X;subst X;refine bJ (T.done Y rr rr rr U items.length [] s' O H' Y.xe I' (ZU _ hn) ti ((J1 _ H' sH).2 (vT _))) λq E ⟨hq,t⟩=>?_;subst hq;exact hR E O H' N vs t x ZV Yh Xp
def qG {X:Cx}(Xs:X.calm=true){tg dS Z:Expr}{wj:QD}{scope:Scope}{I:Pos}{cl:List (Str×Addr)}{N':LS}{nT:Nat}{cap:LN}{t9:FG}{g:TG}{fc:FT}{fe:FE}
  (S:CompSc X scope cl) (cp:ml X N' scope cl nT cap)
  (hg:∀C s H fp,PG (ij X N' scope cl C s H fp) tg g) (Xn:LP X.K nT t9 g) (hc:∀C s H fp,JC (ij X N' scope cl C s H fp) wj fc) (he:∀C s H fp,JE (ij X N' scope cl C s H fp) Z fe)
  {af:AO}{σ:St}{H2:Hp}{s2:Shared}{it:Addr}{fp:List Addr}{tn:Nat->Heap->Prop}{J:It}{N1:Hp}{ρ:Env}{items ds:LD}{E:QV}
  (f:Inv X af σ H2 s2) (T:Turn X.prog X.w X.K tg J fp it tn) (Om:tn 0 s2.heap) (f2:∀b∈fp,lf X af H2 b)
  (rep:eK X.K N1 σ ρ) (sN:aJ N1 H2) (J1:m4 X.K J N1 items) (hsz:items.length<=sizeLine) (ec:fJ t9 fc fe (cx nT cap ρ) items=some ds) {RR:Value->Addr->Result->Shared->Prop}
  (hRR:∀(Dd C:Addr)(s':Shared)(H' N:Hp)(vs:LV)(m:SV),H2 Dd=none->Inv X af σ H' s'->s'.heap.Ns C m->lf X af H' C->Ext N1 N H2 H'->N Dd=some (.lst vs)->IsL X.K N vs ds->RR (.ref Dd) C (.ok .next) s'):
  wq X (newList []) (λKE d=>wq X (newFunctionEnv scope X.env.globals cl [] X.env.qual none .none (some X.env)) (λXt L=>
   codeAny (model X.prog X.w) X.A (.compStart (.ListComp Z [⟨tg,dS,wj,0⟩] scope I) 0 (.ref it) KE { Xt with scope:=relabel scope X.env }) (RR KE Xt.locals) L) E d) E s2:=by
 refine wpAny_newObj_type (wpAny_newFunctionEnv S.nocell (by intro y hy;simp at hy) (λn O U=>?_) S.kind);dsimp only at O U |-;have F:H2 s2.z=none:=f.fresh;have t:=f.lnew (t':=s2.toks) (ys:=[]) (its:=[]) .nil (uN _);generalize P:s2.heap.push _=B at O U t |-;have hC:B.objs.size=s2.z+1:=by rw[<-P,Heap.size_push]
 have W:∀b o,s2.heap.get? b=some o->B.get? b=some o:=λb o e=>P ▸ vZ _ e;have M:∀b o,B.get? b=some o->n.get? b=some o:=λb o e=>U.extBut b o (vS (vX e)) (vZ _ e);have Th:∀b o,B.get? b=some o->b≠B.objs.size:=λb o e=>vS (vX e);have Q:∀b∈fp,∃o,s2.heap.get? b=some o:=λb hb=>let ⟨o,e,_⟩:=T.obj 0 s2.heap Om b hb;⟨o,e⟩;have fpD:∀b∈fp,b≠s2.z:=λb hb=>let ⟨o,e⟩:=Q b hb;vS (vX e);have R:∀b∈fp,b≠B.objs.size:=λb hb=>let ⟨o,e⟩:=Q b hb;Th b o (W b o e);have hHC:=t.hok.fresh (vT _);let Y:Cx:=ij X N' scope cl B.objs.size { s2 with heap:=B } (upd H2 s2.z (.lst [])) fp;have ok:Y.Ok:=by
  refine⟨f.ok.mod,?_,f.ok.glob,f.ok.blt,vT _,λx y c e1 e2=>f.ok.inj x y c (S.sub x c e1) (S.sub y c e2),λx h=>S.has x h,λx c h=>absurd h uX,f.ok.hd,f.ok.frames,.inl rr,λb hb=>⟨R b hb,λx c e=>(f2 b hb).2.2.2.2.1 x c (S.sub x c e)⟩,λb o e=>?_,?_,λb o e hb=>?_,λb hb hz=>?_,t.stack,λb hb=>t.stkFree b hb⟩
  .show(relabel scope X.env).kind=.function;exact S.kind
  .exact t.bs b o e
  .exact vR t.ok.bsz t.sz
  .have h1:=(f2 b hb).2.2.2.1;rcases h1 with z|z
   .exact f.ok.noex b o e z
   .exact absurd (vQ (vX e) (vR f.ok.bsz z)) (Nat.lt_irrefl _)
  .rcases vP (f.stkSub b hz)with z|z
   .exact(f2 b hb).2.1 z
   .exact(f2 b hb).2.2.1 z
 have I4:Inv Y [] (yk nT cap σ) (upd H2 s2.z (.lst [])) { s2 with heap:=n,toks:=s2.toks+([]:List (Str×Value)).length }:=by
  refine⟨ok,rr,f.bare,Un.kept M,⟨_,O,λj x v e1 e2 e3=>?_⟩,λx c e=>?_,hHC,λx c e=>t.freeC x c (S.sub x c e),λp hp=>absurd (show p∈[]from hp) not_mem_nil,t.hok.kept M,?_⟩
  .obtain⟨k,i,rfl,h1,h2⟩:=wF e2;obtain⟨y,g1,g2,g3',g4,g5⟩:=cp.get h1;have V:N'[nT+k]? = some x:=e1;rw[g1]at V;cases V;have ZS:σ[i]? = some (some v):=by
    cases q:σ[i]? with
    |none=>rw[q]at h2;cases h2
    |some z=>rw[q]at h2;have:z=some v:=h2;rw[this]
   obtain⟨m,_,hl⟩:=t.loc;obtain⟨u,r,l⟩:=hl i _ v g2 ZS (g3'.elim (λz=>.inr (.inl z)) λz=>.inr (.inr z));refine⟨u,r,?_⟩;rcases l with⟨l,_⟩|⟨_,c,lc,ic⟩
   .simp_all
   .refine .inr ⟨g4,c,by show cl.lookup _=some c;simp_all,?_⟩;obtain⟨o,ho,hd⟩:=ic;exact⟨o,M _ _ ho,hd⟩
  .obtain⟨v,o,ho,hd⟩:=t.cell x c (S.sub x c e);exact⟨v,o,M _ _ ho,hd⟩
  .show(yk nT cap σ).length=N'.length;unfold yk;rw[cp.len];simp
 have D:∀d:Shared,d={ s2 with heap:=n,toks:=s2.toks+([]:List (Str×Value)).length }->codeAny (model Y.prog Y.w) Y.A (.compLoop (.ListComp Z [⟨tg,dS,wj,0⟩] scope I) 0 (.ref it) (.ref s2.z) Y.env) (RR (.ref s2.z) B.objs.size) d:=by
  rintro d rfl;refine Fa (Y:=Y) Xs (λ_ _ z=>z) (hg _ _ _ _) Xn (hc _ _ _ _) (he _ _ _ _) T (λi hi=>?_) J1 hsz F (λH' hn b hb=>⟨hn b hb,R b hb,ok.exfs b hb,.inl hb,λx c e=>(f2 b hb).2.2.2.2.1 x c (S.sub x c e),λp hp=>absurd (show p∈[]from hp) not_mem_nil⟩) (λs4 σ' H' N vs G x ZV Yh Xp=>?_)
   ⟨0,N1,[],[],ds,yk nT cap σ,_,I4,T.keep _ _ _ Om λb hb o e=>M _ _ (W _ _ e),λb hb=>?_,uN _,rep.caps,?_,(Ext.refl sN).upd F (sN.free F),sN.free F,au,uN _,.nil,by simpa using ec,rr⟩
  .simp_all[cx,getElem?_append_left]
  .obtain⟨m,hm,_⟩:=G.loc;have k:aJ N (upd N s2.z (.lst vs)):=λa o e=>by grind[a8]
   refine hRR s2.z B.objs.size s4 H' (upd N s2.z (.lst vs)) vs m F (f.call' (ch:=fp) G.os ((Un.laid W (vT _) F).trans G.base) G.hok G.bare λb hb=>⟨(f2 b hb).2.2.2.1,(f2 b hb).2.1,(f2 b hb).2.2.2.2.1,(f2 b hb).2.2.2.2.2⟩) hm (f.fpOk (by rw[hC];exact le_succ _) G.free) ⟨x.hh,x.bn.trans k,λa o e=>?_,λa o e=>?_⟩ au (Xp.mono k)
   .by_cases z:a=s2.z
    .simp_all[au]
    .rw[a8 z]at e;exact x.nh _ _ e
   .by_cases z:a=s2.z
    .subst z;exact .inr F
    .rw[a8 z]at e;exact x.new _ _ e
  .rw[a8 (fpD b hb)];exact(f2 b hb).1
  .unfold cx yk;simp
 exact codeAny_compStart_list (D _ rr) (T.self _ 0 _ _ _ (T.keep _ _ _ Om λb hb o e=>M _ _ (W _ _ e)) (D _ rr))
def LQ (M:X.calm=true)
  (S:CompSc X scope cl) (cp:ml X N' scope cl nT cap) (hi:JI X tg dS fi)
  (i:∀C s H fp,PG (ij X N' scope cl C s H fp) tg g) (U:LP X.K nT t9 g) (hc:∀C s H fp,JC (ij X N' scope cl C s H fp) wj fc) (he:∀C s H fp,JE (ij X N' scope cl C s H fp) xR fe)
  (hs:∀x,foldedSetIterable dS X.env x=pure x:=by intro _;rfl):
  JE X (.ListComp xR [⟨tg,dS,wj,0⟩] scope pos) (jw fi nT cap t9 fc fe):=by
 intro af s σ H Q I h;obtain⟨B,ρ,d,b,j,rep,e,q⟩:=h;refine eX e λitems ei e=>?_;have hsz:=Decidable.byContradiction λz=>by rw[if_neg z]at e;cases e
 rw[if_pos hsz]at e;refine eR e λds k e=>?_;cases e
 refine wpAny_comprehension_free rr hs S.clos S.kind S.names (bJ (hi _ s σ H (λJ H2=>∃N1,Ext B N1 H H2/\m4 X.K J N1 _) I ⟨B,ρ,items,j,rep,ei,λJ H2 N1 O a=>⟨N1,O,a⟩⟩) λv s1 h1=>bJ h1 λl s2 h2=>?_);obtain⟨it,fp,tn,J,H2,e,n,T,p,f2,N1,O,a⟩:=h2;subst e;refine qG M S cp i U hc he n T p f2 (rep.mono O.bn) O.nh a hsz k ?_;intro Dd C s' H' N vs m r t hm fC x f hl;refine⟨m,hm,λh' c=>⟨.ref Dd,H',?_,rr,q _ H' N (O.trans x) (.lst (eO.of f) hl) λ_=>⟨Dd,vs,ds,rr,rr,O.hh.free r,f,hl⟩⟩⟩;obtain⟨u,w,c2,c3,y,A⟩:=fC;exact t.turned (λb o hb e=>(c.2 b hb).trans e) u w c3 y A
def LR (M:X.calm=true)
  (n:X.N.Nodup) (c:X.N[i]? = some y) (hy:X.env.kindOf y=some .local)
  (p:swapsWith (.ListComp xR [⟨tg,dS,wj,0⟩] scope pos) (some (.Name y py)) spos.line X.env=pure true)
  (S:CompSc X scope cl) (cp:ml X N' scope cl nT cap) (hi:JI X tg dS fi)
  (t:∀C s H fp,PG (ij X N' scope cl C s H fp) tg g) (u:LP X.K nT t9 g) (hc:∀C s H fp,JC (ij X N' scope cl C s H fp) wj fc) (he:∀C s H fp,JE (ij X N' scope cl C s H fp) xR fe)
  (hs:∀x,foldedSetIterable dS X.env x=pure x:=by intro _;rfl):
  JS X (.Assign [.Name y py] (.ListComp xR [⟨tg,dS,wj,0⟩] scope pos) spos) (eM i (jw fi nT cap t9 fc fe)):=by
 intro af s σ H E I h;have h2:=Co h;obtain⟨B,ρ,d,b,A,rep,e,q⟩:=h2;refine eX e λitems ei e=>?_;have hsz:=Decidable.byContradiction λz=>by rw[if_neg z]at e;cases e
 rw[if_pos hsz]at e;refine eR e λds D e=>?_;cases e
 rw[exec_Assign_Name_used _ _ _ _ p];refine wX (wpAny_standAt (wX ?_));refine wX (wpAny_mono (wpAny_comprehension_free rr hs S.clos S.kind S.names
  (bJ (hi af s σ H (λJ H2=>∃N1,Ext B N1 H H2/\m4 X.K J N1 items) I ⟨B,ρ,items,A,rep,ei,λJ H2 N1 O f=>⟨N1,O,f⟩⟩) λv s1 h1=>bJ h1 λF s2 h2=>?_)) (λ_ s' hq=>wY (wY hq)) λ_ _ e=>e)
 obtain⟨it,fp,tn,J,H2,e,G,T,L,f2,N1,O,f⟩:=h2;subst e;refine qG M S cp t u hc he G T L f2 (rep.mono O.bn) O.nh f hsz D ?_;intro Dd C s' H' N vs m P Q hm fC x U hl;obtain⟨R,k,c2,c3,l,V⟩:=fC;refine wpAny_assign_Name (tU Q n c (.inl hy) (r:=show aC (.ref Dd) (.ref Dd)from rr) (λW Y ⟨a,Z,ha⟩=>?_) (.inr hy));have nC:C≠a:=by
  rcases ha with z|z
  .rw[z];exact k
  .exact λw=>l y a z w.symm
 refine⟨m,hm.sameBut Z nC,λh' j=>⟨_,H',?_,q _ H' N (O.trans x) (.lst (eO.of U) hl) λ_=>⟨Dd,vs,ds,rr,rr,O.hh.free P,U,hl⟩⟩⟩;exact Y.turned (t':=W.toks) (λb o hb e=>(j.2 b hb).trans e) R k c3 l V
section
variable {X:Cx}{a b c e:Expr}{pos:Pos}
def PE.to (h:PE X e t)(k:∀σ H Q,t' σ H Q->t σ H Q):PE X e t':=λaf s σ H Q I q=>h _ s σ H Q I (k σ H Q q)
def PT.to (h:PT X e t)(k:∀σ H Q,t' σ H Q->t σ H Q):PT X e t':=λaf s σ H Q I q=>h _ s σ H Q I (k σ H Q q)
def PW.to (h:PW X e t)(k:∀σ H Q,t' σ H Q->t σ H Q):PW X e t':=λwh af s σ H Q I q=>h wh _ s σ H Q I (k σ H Q q)
def PA.to (h:PA X es t)(k:∀σ H Q,t' σ H Q->t σ H Q):PA X es t':=λpos af s σ H Q I q=>h _ _ s σ H Q I (k σ H Q q)
def PS.to {st:Stmt}{t t':TS}(h:PS X st t)(k:∀E σ H,t' E σ H->t E σ H):PS X st t':=λaf s σ H E I q=>h _ s σ H E I (k E σ H q)
def tV.to {st:List Stmt}{t t':TS}(h:tV X st t)(k:∀E σ H,t' E σ H->t E σ H):tV X st t':=λaf s σ H E I q=>h _ s σ H E I (k E σ H q)
def PI.to (h:PI X tg it t)(k:∀σ H Q,t' σ H Q->t σ H Q):PI X tg it t':=λaf s σ H Q I q=>h _ s σ H Q I (k σ H Q q)
def Fb {K:Frag}{d:D}{v:V}(i:∀B,Is K B v d){σ:St}{H:Hp}{Q:VK}(h:tD K (fC d) σ H Q):tC v σ H Q:=by
 obtain⟨B,ρ,d',b,s,r,e,q⟩:=h;cases e
 exact q.one s (i B)
def Qq (i:Nat)(O:X.N[i]? = some x)(hv:KQ X.env.scope x)(hd:bj x)
  (M:ln x):JE X (.Name x pos) (am i):=PE.to (j9 O hv hd M) λ_ _ _ h=>Qk h
def Qr:JE X (.Constant (.int i) j pos) (fC (.int i)):=PE.to Pr λ_ _ _ h=>Fb (λ_=>.int i) h
def Uu:JE X (.Constant (.bool i) j pos) (fC (.bl i)):=PE.to Tz λ_ _ _ h=>Fb (λ_=>.bl i) h
def Qs:JE X (.Constant .none j pos) (fC .non):=PE.to Ps λ_ _ _ h=>Fb (λ_=>.non) h
def Qt:JE X (.Constant (.str x) j pos) (fC (.str x)):=PE.to Pt λ_ _ _ h=>Fb (λ_=>.str x) h
def LW (M:Gl X x)(hm:X.mg x=some u)(r:aC v u)(i:∀B,Is X.K B v d)(hd:bj x:=by decide):JE X (.Name x pos) (fC d):=PE.to (pR M hm r hd) λ_ _ _ h=>Fb i h
def Uv (ho:cH X (binaryOp op) (rD X.K f))(ha:JE X a fa)(hb:JE X b M):JE X (.BinOp a op b pos) (f2 f fa M):=PE.to (TL ho ha hb) λ_ _ _ h=>LC h
def Uw (ho:TK X (unaryOp op) (YI X.K f))(ha:JE X a fa):JE X (.UnaryOp op a pos) (f1 f fa):=PE.to (TM ho ha) λ_ _ _ h=>YJ h
def Qu (ho:cH X (compareOp op) (rD X.K f))(ha:JE X a fa)(hb:JE X b M)(hm:behindInMarks op b=false):JE X (.Compare a [op] [b] pos) (f2 f fa M):=PE.to (Ls ho ha hb hm) λ_ _ _ h=>LC h
def qH {K:Frag}{f:FE}{σ:St}{H:Hp}{Q:Bool->Hp->Prop}(h:Cm K (bP f) σ H Q):tD K f σ H λx H'=>∃k,x=.bl k/\Q k H':=by
 obtain⟨B,ρ,c,s,r,e,q⟩:=h;unfold bP at e;split at e
 .rename_i O b' M;cases e
  refine⟨B,ρ,.bl c,b',s,r,M,λv H' N x i _=>?_⟩;cases i
  exact⟨c,rr,q H' x.hh⟩
 simp_all
def Qv (ho:cH X (compareOp op) (rD X.K f))(ha:JE X a fa)(hb:JE X b M)(hm:behindInMarks op b=false):JT X (.Compare a [op] [b] pos) (bP (f2 f fa M)):=
 PT.to (Cf ho ha hb hm) λ_ _ _ h=>LC (qH h)
def Qw (h:JE X e f)(he:∀M,isTrue e X.env M=(do let v <-M;standAt e.pos;holding [v] (truthy v))):JT X e (bP f):=PT.to (Px h he) λ_ _ _ q=>qH q
@[simp] noncomputable def jG (f g:D->D->OB)(fa M O:FE):FE:=λρ=>(fa ρ).bind λx=>(M ρ).bind λy=>match f x.1 y.1 with
 |some (.bl true,_)=>(O ρ).bind λz=>g y.1 z.1
 |some (.bl false,_)=>some (.bl false,false)
 |_=>none
def yn {K:Frag}{f g:D->D->OB}{fa l m:FE}{σ:St}{H:Hp}{Q:VK}(h:tD K (jG f g fa l m) σ H Q):AF (rD K f) (rD K g) (tD K fa) (tD K l) (tD K m) σ H Q:=by
 obtain⟨B,ρ,d,b,s,r,e,q⟩:=h;refine eX e λx ex e=>?_;refine eX e λy o e=>?_;refine⟨B,ρ,x.1,x.2,s,r,ex,λv C N1 U i1 _=>⟨N1,ρ,y.1,y.2,U.nh,r.mono U.bn,o,λE H2 N2 M i2 _=>?_⟩⟩;split at e
 .rename_i b' i;refine eX e λz p e=>?_;refine⟨N2,x.1,y.1,.bl _,b',M.nh,i1.mono M.bn,i2,i,λt u n O j _=>?_⟩;cases j
  refine⟨true,rr,?_⟩;refine⟨n,ρ,z.1,z.2,O.nh,r.mono (U.bn.trans (M.bn.trans O.bn)),p,λF G w k A _=>⟨w,y.1,z.1,d,b,k.nh,i2.mono (O.bn.trans k.bn),A,e,?_⟩⟩;exact q.into ((U.trans M).trans (O.trans k))
 .rename_i b' i;cases e
  refine⟨N2,x.1,y.1,.bl _,b',M.nh,i1.mono M.bn,i2,i,λt u n O j _=>?_⟩;cases j
  refine⟨false,rr,?_⟩;exact(q.into ((U.trans M).trans O)).one O.nh (.bl _)
 simp_all
def Hq (ho:cH X (compareOp op) (rD X.K f))(M:cH X (compareOp O) (rD X.K g))(ha:JE X a fa)(hb:JE X b U)(hc:JE X c fc)
  (hm:lastMarks [op,O] [b,c]=false):JE X (.Compare a [op,O] [b,c] pos) (jG f g fa U fc):=PE.to (GL ho M ha hb hc hm) λ_ _ _ h=>yn h
def Hr (ho:cH X (compareOp op) (rD X.K f))(M:cH X (compareOp O) (rD X.K g))(ha:JE X a fa)(hb:JE X b U)(hc:JE X c fc)
  (hm:lastMarks [op,O] [b,c]=false):JT X (.Compare a [op,O] [b,c] pos) (bP (jG f g fa U fc)):=PT.to (GN ho M ha hb hc hm) λ_ _ _ h=>yn (qH h)
def LX {K:Frag}{f g:FT}{σ:St}{H:Hp}{Q:Bool->Hp->Prop}(h:Cm K (iE f g) σ H Q):T1 (Cm K f) (Cm K g) σ H Q:=by
 obtain⟨B,ρ,c,s,r,e,q⟩:=h;unfold iE at e;cases M:f ρ with
 |none=>rw[M]at e;cases e
 |some k=>
  rw[M]at e;refine⟨B,ρ,k,s,r,M,λO h1=>?_⟩;cases k with
  |true=>exact⟨B,ρ,c,s.trans h1,r,e,λH2 h2=>q H2 (h1.trans h2)⟩
  |false=>simp_all
def Qx {K:Frag}{f g:FT}{σ:St}{H:Hp}{Q:Bool->Hp->Prop}(h:Cm K (lG f g) σ H Q):tOr (Cm K f) (Cm K g) σ H Q:=by
 obtain⟨B,ρ,c,s,r,e,q⟩:=h;unfold lG at e;cases M:f ρ with
 |none=>rw[M]at e;cases e
 |some k=>
  rw[M]at e;refine⟨B,ρ,k,s,r,M,λO h1=>?_⟩;cases k with
  |false=>exact⟨B,ρ,c,s.trans h1,r,e,λH2 h2=>q H2 (h1.trans h2)⟩
  |true=>simp_all
def LY {K:Frag}{f:FT}{σ:St}{H:Hp}{Q:Bool->Hp->Prop}(h:Cm K (mz f) σ H Q):T2 (Cm K f) σ H Q:=by
 obtain⟨B,ρ,c,s,r,e,q⟩:=h;refine eR e λk ek e=>?_;subst e;exact⟨B,ρ,k,s,r,ek,λM h1=>q M h1⟩
variable {aj:QD}
def LZ (ha:JT X a f):JW X (.BoolOp .And [a] pos) f:=Ll ha
def Qy (ha:JT X a f):JW X (.BoolOp .Or [a] pos) f:=Py ha
def Qz (ha:JT X a f)(hb:JW X (.BoolOp .And (b::aj) pos) g):JW X (.BoolOp .And (a::b::aj) pos) (iE f g):=PW.to (Pz ha hb) λ_ _ _ h=>LX h
def Ux (ha:JT X a f)(hb:JW X (.BoolOp .Or (b::aj) pos) g):JW X (.BoolOp .Or (a::b::aj) pos) (lG f g):=PW.to (T3 ha hb) λ_ _ _ h=>Qx h
def YK (h:JW X e f):JT X e f:=h.pt
def Q0 (ha:JT X a f):JT X (.UnaryOp .Not a pos) (mz f):=PT.to (P0 ha) λ_ _ _ h=>LY h
@[simp] noncomputable def Hs (f g:FE):FE:=λρ=>match f ρ with|some (.bl true,_)=>g ρ|some (.bl false,_)=>some (.bl false,false)|_=>none
@[simp] noncomputable def Uy (f g:FE):FE:=λρ=>match f ρ with|some (.bl true,_)=>some (.bl true,false)|some (.bl false,_)=>g ρ|_=>none
@[simp] noncomputable def Ht (f:FE):FE:=λρ=>match f ρ with|some (.bl c,_)=>some (.bl (!c),false)|_=>none
def Q1 (ha:JE X a f)(hb:JE X (.BoolOp .And (b::aj) pos) g):JE X (.BoolOp .And (a::b::aj) pos) (Hs f g):=PE.to (P2 ha hb) λσ H Q h=>by
 obtain⟨B,ρ,d,k,s,r,e,q⟩:=h;unfold Hs at e;split at e
 .rename_i b' O;refine⟨B,ρ,_,_,s,r,O,λv U N1 M i1 _=>?_⟩;cases i1
  refine⟨true,rr,?_⟩;exact⟨N1,ρ,d,k,M.nh,r.mono M.bn,e,q.into M⟩
 .rename_i b' O;cases e
  refine⟨B,ρ,_,_,s,r,O,λv U N1 M i1 _=>?_⟩;cases i1
  refine⟨false,rr,?_⟩;exact(q.into M).one M.nh (.bl _)
 simp_all
def Uz (ha:JE X a f)(hb:JE X (.BoolOp .Or (b::aj) pos) g):JE X (.BoolOp .Or (a::b::aj) pos) (Uy f g):=PE.to (T6 ha hb) λσ H Q h=>by
 obtain⟨B,ρ,d,k,s,r,e,q⟩:=h;unfold Uy at e;split at e
 .rename_i b' O;cases e
  refine⟨B,ρ,_,_,s,r,O,λv U N1 M i1 _=>?_⟩;cases i1
  refine⟨true,rr,?_⟩;exact(q.into M).one M.nh (.bl _)
 .rename_i b' O;refine⟨B,ρ,_,_,s,r,O,λv U N1 M i1 _=>?_⟩;cases i1
  refine⟨false,rr,?_⟩;exact⟨N1,ρ,d,k,M.nh,r.mono M.bn,e,q.into M⟩
 simp_all
def Q2 (h:JE X a f):JE X (.BoolOp op [a] pos) f:=P1 h
def Q3 (ha:JE X a f):JE X (.UnaryOp .Not a pos) (Ht f):=PE.to (P4 ha) λσ H Q h=>by
 obtain⟨B,ρ,d,k,s,r,e,q⟩:=h;unfold Ht at e;split at e
 .rename_i c b' O;cases e
  refine⟨B,ρ,_,_,s,r,O,λv U N1 M i1 _=>?_⟩;cases i1
  exact⟨c,rr,(q.into M).one M.nh (.bl _)⟩
 simp_all
variable {es:QD}
def lH:JA X [] ay:=PA.to fF λ_ _ _ h=>LG h
def fM (ha:JE X e f)(hr:JA X es g)(hs:dv e es X.env:=by rfl):JA X (e::es) (ak f g):=PA.to (de ha hr hs) λ_ _ _ h=>Hg h
@[simp] noncomputable def dN:LD->OB:=λds=>if ds.length<=sizeLine then some (.tup ds,false)else none
@[simp] noncomputable def f6:LD->OB:=λds=>if ds.length<=sizeLine then some (.lst ds,true)else none
def Q4 {M}(h:JA X es f):JE X (.Tuple es M pos) (fA dN f):=PE.to (wo h) λσ H Q q=>by
 obtain⟨B,ρ,ds,s,r,e,k⟩:=LF q;refine⟨B,ρ,ds,s,r,e,λvs O N1 M i1=>?_⟩;obtain⟨g,U,d,b,s2,i2,e2,k2⟩:=k vs O N1 M i1;unfold dN at e2;split at e2
 .rename_i hz;cases e2
  refine⟨by rw[i2.length];exact hz,λp hp=>k2 _ _ _ (.laid s2 hp) (.tup (gR.of au) (i2.mono (Ext.laid s2 hp).bn)) X9⟩
 simp_all
def Q5 (h:JA X es f):JE X (.List es pos) (fA f6 f):=PE.to (PX h) λσ H Q q=>by
 obtain⟨B,ρ,ds,s,r,e,k⟩:=LF q;refine⟨B,ρ,ds,s,r,e,λvs O N1 U i1=>?_⟩;obtain⟨g,M,d,b,s2,i2,e2,k2⟩:=k vs O N1 U i1;unfold f6 at e2;split at e2
 .rename_i hz;cases e2
  refine⟨by rw[i2.length];exact hz,λp hp=>k2 _ _ _ (.laid s2 hp) (.lst (eO.of au) (i2.mono (Ext.laid s2 hp).bn)) λ_=>⟨p,vs,M,rr,rr,hp,au,i2.mono (Ext.laid s2 hp).bn⟩⟩
 simp_all
end
section
variable {X:Cx}
def io (h:cH X f r)(k:∀x y H Q,U x y H Q->r x y H Q):cH X f U:=λaf s σ H x y v u Q I M O q=>h _ s σ H x y v u Q I M O (k x y H Q q)
noncomputable def SN (f g:D->D->OB):D->D->OB:=λx y=>match f x y with|some r=>some r|none=>g x y
def nR (h:cH X s (rD X.K f))(h':cH X s (rD X.K g)):cH X s (rD X.K (SN f g)):=by
 intro af st σ H x y v u Q I M O q;refine eS q λB dx U d b a c i e q=>?_;unfold SN at e;split at e
 .rename_i r j;cases e
  exact h _ st σ H x y v u Q I M O ⟨B,dx,U,_,_,a,c,i,j,q⟩
 .exact h' _ st σ H x y v u Q I M O ⟨B,dx,U,_,_,a,c,i,e,q⟩
@[simp] noncomputable def AX (C:Int->Int->Bool)(g:Int->Int->D):D->D->OB
 |.int i,.int j=>if C i j=true then some (g i j,false)else none
 |_,_=>none
def m7 (h:cH X s (rI C g))(M:∀i j,C' i j=true->C i j)(O:∀i j B,Is X.K B (g i j) (g' i j)):cH X s (rD X.K (AX C' g')):=by
 refine io h λx y H Q q=>?_;refine eS q λB dx f d b U a c e q=>?_;cases a<;>try (cases e)
 cases c<;>try (cases e)
 rename_i i j;simp only[AX]at e;split at e
 .rename_i hc;cases e
  exact⟨i,j,rr,rr,M i j hc,q.one U (O i j B)⟩
 simp_all
def gb (h:cH X s (KS g))(M:∀i j B,Is X.K B (g i j) (g' i j)):cH X s (rD X.K (AX (λ_ _=>true) g')):=by
 refine io h λx y H Q q=>?_;refine eS q λB dx c d b O U a e q=>?_;cases U<;>try (cases e)
 cases a<;>try (cases e;done)
 rename_i i j;cases e
 exact⟨i,j,rr,rr,q.one O (M i j B)⟩
abbrev YL:D->D->OB:=AX (λ_ _=>true) λi j=>.int (i+j)
abbrev YM:D->D->OB:=AX (λ_ _=>true) λi j=>.int (i - j)
abbrev U0:D->D->OB:=AX (λi j=>decide ((-18446744073709551616<i/\i<18446744073709551616)\/(-18446744073709551616<j/\j<18446744073709551616))) λi j=>.int (i*j)
abbrev fO:D->D->OB:=AX (λ_ j=>decide (0<j/\j<1073741824)) λi j=>.int (i / j)
abbrev jH:D->D->OB:=AX (λ_ j=>decide (0<j)) λi j=>.int (i % j)
abbrev YN:D->D->OB:=AX (λi j=>decide (0<=j/\j<=1000000/\i.natAbs<18446744073709551616)) λi j=>.int (i ^ j.toNat)
abbrev YO:D->D->OB:=AX (λ_ _=>true) λi j=>.int (Builtin.bitAnd i j)
abbrev iLt:D->D->OB:=AX (λ_ _=>true) λi j=>.bl (decide (i<j))
abbrev iLe:D->D->OB:=AX (λ_ _=>true) λi j=>.bl (decide (i<=j))
abbrev Q6:D->D->OB:=AX (λ_ _=>true) λi j=>.bl (decide (j<i))
abbrev iGe:D->D->OB:=AX (λ_ _=>true) λi j=>.bl (decide (j<=i))
def U1:cH X (binaryOp .Add) (rD X.K YL):=gb PJ λ_ _ _=>.int _
def U2:cH X (binaryOp .Sub) (rD X.K YM):=gb PK λ_ _ _=>.int _
def U3:cH X (binaryOp .Mult) (rD X.K U0):=m7 PL (λi j h=>by simp_all[Lq]) λ_ _ _=>.int _
def Q7:cH X (binaryOp .FloorDiv) (rD X.K fO):=m7 Lr (λi j h=>by simp_all[TQ]) λ_ _ _=>.int _
def U4:cH X (binaryOp .Mod) (rD X.K jH):=m7 PM (λ_ _ h=>xQ h) λ_ _ _=>.int _
def U5:cH X (binaryOp .Pow) (rD X.K YN):=m7 PP (λi j h=>by simp_all[TR]) λ_ _ _=>.int _
def U6:cH X (binaryOp .BitAnd) (rD X.K YO):=gb PQ λ_ _ _=>.int _
def YQ:cH X (compareOp .Lt) (rD X.K iLt):=gb TU λ_ _ _=>.bl _
def YR:cH X (compareOp .LtE) (rD X.K iLe):=gb TV λ_ _ _=>.bl _
def YS:cH X (compareOp .Gt) (rD X.K Q6):=gb TW λ_ _ _=>.bl _
def YT:cH X (compareOp .GtE) (rD X.K iGe):=gb TX λ_ _ _=>.bl _
@[simp] noncomputable def YU (C:Str->Str->Bool)(g:Str->Str->D):D->D->OB
 |.str i,.str j=>if C i j=true then some (g i j,false)else none
 |_,_=>none
abbrev YV:D->D->OB:=YU (λi j=>decide (i.length+j.length<=sizeLine)) λi j=>.str (i++j)
abbrev sLe:D->D->OB:=YU (λ_ _=>true) λi j=>.bl (!decide (j.cps.toList<i.cps.toList))
def Q8:cH X (binaryOp .Add) (rD X.K YV):=by
 refine io AG λx y H Q q=>?_;refine eS q λB dx a d b M O U e q=>?_;cases O<;>try (cases e)
 cases U<;>try (cases e)
 rename_i i j;simp only[YU]at e;split at e
 .rename_i hc;cases e
  exact⟨i,j,rr,rr,xQ hc,q.one M (.str _)⟩
 simp_all
def U7:cH X (compareOp .LtE) (rD X.K sLe):=by
 intro af s σ H x y v u Q I M O q;refine eS q λB dx f d b U a c e q=>?_;cases a<;>try (cases e)
 cases c<;>try (cases e;done)
 cases e
 obtain⟨t,rfl⟩:=M;obtain⟨t',rfl⟩:=O;exact PySem.P.le_str ⟨.bl _,H,I,rr,q.one U (.bl _)⟩
end
section
variable {X:Cx}{a b c e:Expr}{pos:Pos}{st:Stmt}{aj:List Stmt}
def Q9:yj X [] qE:=tV.to Lm λ_ _ _ h=>Hj h
def Ma (h1:JS X st g)(h2:yj X aj h):yj X (st::aj) (ce g h):=tV.to (GD h1 h2) λ_ _ _ q=>LH q
def QA (h1:JS X st g):yj X [st] g:=Ln h1
def U8 {c:Expr}{a b:List Stmt}{M:FT}{g h:FS}(hc:JT X c M)(ha:yj X a g)(hb:yj X b h):JS X (.If c a b pos) (AU M g h):=PS.to (TC hc ha hb) λ_ _ _ q=>Ql q
def Hu (he:JE X e f):JS X (.Return (some e) pos) (yg f):=PS.to (GF he) λ_ _ _ q=>LJ q
def Mb (i:Nat)(O:X.N[i]? = some x)(hv:KQ X.env.scope x)(hd:bj x)
  (M:ln x):JS X (.Return (some (.Name x p)) pos) (oV i):=PS.to (GF (j9 O hv hd M)) λ_ _ _ q=>Hk q
def QB (M:X.N.Nodup)(he:JE X e f)(hi:X.N[i]? = some x)(hx:KR X.env.scope x)(hs:swapsWith e (some (.Name x p)) pos.line X.env=pure false)
  (hf:X.fn x=true\/X.env.scope.names.lookup x=some .local):JS X (.Assign [.Name x p] e pos) (eM i f):=PS.to (wn M hi hx he hs hf) λ_ _ _ q=>Co q
def Mc (M:X.N.Nodup)(he:JE X e f)(hi:X.N[i]? = some x)(hx:KR X.env.scope x)(hs:swapsWith e (some (.Name x p)) pos.line X.env=pure false)
  (hf:X.fn x=true\/X.env.scope.names.lookup x=some .local):JS X (.Assign [.Name x p] e pos) (Cn i f):=PS.to (wn M hi hx he hs hf) λ_ _ _ q=>Hl q
def Hv (n:Nat)(hp:PassesOwn (model X.prog X.w) X.A X.env X.xe)(hc:JT X c O)(hb:yj X M g):JS X (.While c M [] pos) (c6 O g n):=PS.to (GI hp hc hb) λ_ _ _ q=>EY q
def QC (hp:PassesOwn (model X.prog X.w) X.A X.env X.xe)(hc:X.calm=true)(hi:JI X tg dS fi)(M:PG X tg t)(O:KU X.K t9 t)(hb:yj X U g)
  (hs:∀x,foldedSetIterable dS X.env x=pure x:=by intro _;rfl):JS X (.For tg dS U [] pos) (EZ fi t9 g):=PS.to (GK hp hc hi M hb hs) λ_ _ _ q=>LM O q
def Md (hp:PassesOwn (model X.prog X.w) X.A X.env X.xe)(hc:X.calm=true)(hi:PI X tg dS (Ut X.K fi))(M:PG X tg t)(O:KU X.K t9 t)(hb:yj X U g)
  (hs:∀x,foldedSetIterable dS X.env x=pure x:=by intro _;rfl):JS X (.For tg dS U [] pos) (ug fi t9 g):=PS.to (GK hp hc hi M hb hs) λ_ _ _ q=>Ho O q
def QE (he:JE X e f)(d:X.N[i]? = some x)(hv:KQ X.env.scope x)(hd:bj x)
  (g:ln x)
  (M:attributeBase (.Name x p) "append" X.env (eval (.Name x p) X.env)=eval (.Name x p) X.env)
  (U:oQ bS e X.env)
  (O:(cn.endLine == bS.line)=true) (hs:cM e X.env) (h:swapsWith (.Call (.Attribute (.Name x p) "append" cn) [e] [] bS) none pos.line X.env=pure false):
  JS X (.Expr (.Call (.Attribute (.Name x p) "append" cn) [e] [] bS) pos) (wB i f):=by
 refine PS.to (Cc (xZ plainAttrs_list PySem.F.slot_list_append PySem.F.type_list_append ua (j9 d hv hd g) (de he fF hs) M U O hs rr) h) λE σ H q=>?_;obtain⟨a,us,h1,h2,k⟩:=LL q;exact⟨_,h1,.inl ⟨rr,us,eO.of h2⟩,k⟩
end
@[simp] noncomputable def ax (g:FS)(n k:Nat):LD->OB:=λds=>if ds.length=n then
 match g (ds.map (λd=>some (d,false))++List.replicate k none) with
 |some (.rt d b)=>some (d,b)
 |some (.nx _)=>some (.non,false)
 |_=>none
 else none
def KW (K:Frag)(f:LD->OB):Sp:=λvs H Q _=>∃(B:Hp)(ds:LD)(d:D)(b:Bool),(aJ B H/\Tb K B)/\IsL K B vs ds/\f ds=some (d,b)/\Fin K B H d b Q
def yo {K:Frag}{B H:Hp}{vs:LV}{ds:LD}{N:LS}(O:aJ B H)(tb:Tb K B)(i:IsL K B vs ds):dc K B H B H (L2.lq N vs) (ds.map (λd=>some (d,false))++List.replicate (N.length - vs.length) none):=by
 have M:∀(j:Nat)(d:D)(b:Bool),(ds.map (λd=>some (d,false))++List.replicate (N.length - vs.length) none:Env)[j]? = some (some (d,b))->b=false/\ds[j]? = some d:=λj d b e=>by
  by_cases hj:j<ds.length
  .rw[getElem?_append_left (by simpa using hj),vA]at e;refine eR e λd' h1 h2=>?_;cases h2
   exact⟨rr,h1⟩
  .rw[getElem?_append_right (by simpa using Nat.not_lt.mp hj),List.getElem?_replicate]at e;split at e<;>cases e
 have no:∀a,¬own (L2.lq N vs) (ds.map (λd=>some (d,false))++List.replicate (N.length - vs.length) none) a:=λa ⟨j,d,h,_⟩=>by
  obtain⟨z,_⟩:=M j d true h;cases z
 refine⟨O,tb,.refl O,?_,λj d e=>?_,λj d e=>?_,λj k a d e h=>?_⟩
 .unfold L2.lq;rw[uZ,uZ,vI,vI,length_replicate,length_replicate,i.length]
 .obtain⟨_,U⟩:=M j d false e;obtain⟨v,h1,h2⟩:=i.get U;refine⟨v,?_,h2.mono λa o e=>by rw[cz (no a)];exact e⟩;unfold L2.lq;have hj:=(vV h1).1;rw[getElem?_append_left (by simpa using hj),vA,h1]<;>rfl
 .obtain⟨z,_⟩:=M j d true e;cases z
 .obtain⟨z,_⟩:=M j d true h;cases z
section
variable {P:Program}{w:World}{K:Frag}{mg:SV}{base:Heap}
def YW {x qual:Str}{st:Stmt}{f:Addr}{fd:FuncData}{N ps:LS}{k:Nat}{g:FS}(F:Sn K x qual st f fd)(S:FnScope N ps (aH st))
  (hb:∀(dR:Value)(A:Around)(outer:List PySem.Env)(s:Shared)(H:Hp)(E:XK),dF k (A.deeper (envOfC qual (aH st) s.z f dR))->yj (qw A7 P w K mg base N qual (aH st) f dR A outer s H E).nox (bT st) g):
  t8 P w K mg base A7 (k+1) f fd ps (KW K (ax g ps.length (N.length - ps.length))):=by
 have len:∀vs H Q E,KW K (ax g _ (N.length - ps.length)) vs H Q E->vs.length=ps.length:=λvs H Q E h=>by
  obtain⟨B,ds,d,b,O,i,e,q⟩:=h;unfold ax at e;split at e
  .rename_i hl;rw[i.length];exact hl
  simp_all
 refine F.ok S len λdR A outer s H vs Q E hr h=>⟨_,hb _ A _ s H E hr,?_⟩;have M:=len vs H Q E h;obtain⟨B,ds,d,b,O,i,e,q⟩:=h;unfold ax at e;rw[if_pos (by rw[<-i.length];exact M)]at e;have U:=yo (N:=N) O.1 O.2 i;rw[M]at U;split at e
 .rename_i d' b' a;cases e
  exact⟨B,H,_,_,⟨B,U⟩,a,λv H' N' c j l=>q v H' N' c j l⟩
 .rename_i ρ' a;cases e
  exact⟨B,H,_,_,⟨B,U⟩,a,λm H' ⟨N',s'⟩=>q _ H' N' s'.ext .non X9⟩
 simp_all
structure Fn (P:Program)(w:World)(K:Frag)(mg:Str->Option Value)(base:Heap)(k:Nat)(x:Str)(f:List D->OB):Prop where
 ex:∃(ad:Addr)(fd:FuncData)(ps:List Str),t8 P w K mg base A7 k ad fd ps (KW K f)/\mg x=some (.ref ad)/\PySem.W.keepIn K (.ref ad)=true/\oR K fd ps []
end
def Me (F:Fn X.prog X.w X.K X.mg X.base k x f)(hr:dF k X.A)(ha:JA X (e::es) fa)(a:Gl X x:=by rfl)
  (M:bj x:=by decide) (he:dv e es X.env:=by rfl) (O:j8 pos es X.env:=by rfl):
  JE X (.Call (.Name x p) (e::es) [] pos) (fA f fa):=by
 obtain⟨ad,fd,ps,c,hm,hk,hb⟩:=F.ex;refine PE.to (Lu c hr a hm hk hb .nil Uh ha M he O) λσ H Q q=>?_;obtain⟨B,ρ,d,b,s,r,e,q⟩:=q;refine eX e λds ex e=>?_;exact⟨B,ρ,ds,s,r,ex,λvs g N1 U i1=>by
  show KW _ f _ g Q _;rw[uQ];exact⟨N1,ds,d,b,⟨U.nh,r.tb.mono U.bn⟩,i1,e,q.into U⟩⟩
mutual
noncomputable def gS:D->D->Bool
 |.non,.non=>true
 |.bl a,.bl b=>a == b
 |.bl a,.int b=>decide ((if a then 1 else 0)=b)
 |.int a,.bl b=>decide (a=(if b then 1 else 0))
 |.int a,.int b=>decide (a=b)
 |.str a,.str b=>decide (a=b)
 |.tup xs,.tup ys=>jI xs ys
 |.lst xs,.lst ys=>jI xs ys
 |_,_=>false
@[simp] noncomputable def jI:LD->LD->Bool
 |[],[]=>true
 |x::xs,y::ys=>gS x y && jI xs ys
 |_,_=>false
end
@[simp] theorem yp (a b:Str):gS (.str a) (.str b)=decide (a=b):=rfl
@[simp] def xx0:gS .non .non=true:=rfl
@[simp] def xx1 (a b:Bool):gS (.bl a) (.bl b)=(a == b):=rfl
@[simp] def xx2 (a b:Int):gS (.int a) (.int b)=decide (a=b):=rfl
@[simp] def xx3 (a b:LD):gS (.tup a) (.tup b)=jI a b:=rfl
@[simp] def xx4 (a b:LD):gS (.lst a) (.lst b)=jI a b:=rfl
@[simp] def xx5 (a:Str)(b:Int):gS (.str a) (.int b)=false:=rfl
@[simp] def xx6 (a:Int)(b:Str):gS (.int a) (.str b)=false:=rfl
@[simp] def xx12 (a:LD)(b:Str):gS (.lst a) (.str b)=false:=rfl
@[simp] noncomputable def aK:Nat->D->Bool
 |_,.non=>true
 |_,.bl _=>true
 |_,.int _=>true
 |_,.str _=>true
 |_,.ty _=>false
 |_,.dk _ _=>false
 |_,.dt _ _=>false
 |0,.tup _=>false
 |0,.lst _=>false
 |n+1,.tup ds=>ds.all (aK n)
 |n+1,.lst ds=>ds.all (aK n)
theorem yq:∀ {xs ys:LD},jI xs ys=true->xs.length=ys.length
 |[],[],_=>rr
 |x::xs,y::ys,h=>by
  simp [jI,vC]at h;rw[vE,vE,yq h.2]
 |[],_::_,h=>by simp at h
 |_::_,[],h=>by simp at h
def wG (h:xs.length≠ys.length):jI xs ys=false:=by
 grind[yq]
theorem iY (f:Nat->Bool):∀ {xs ys:LD},xs.length=ys.length->(∀(j:Nat) x y,xs[j]? = some x->ys[j]? = some y->f j=gS x y)->(List.range xs.length).all f=jI xs ys
 |[],[],_,_=>by simp
 |x::xs,y::ys,hl,h=>by
  have e:=iY _ (by simpa using hl) λj a b h1 h2=>h (j+1) a b (by simpa using h1) (by simpa using h2);rw[vE,List.range_succ_eq_map,all_cons,all_map,jI,<-h 0 x y rr rr,<-e];rfl
 |[],_::_,hl,_=>by simp at hl
 |_::_,[],hl,_=>by simp at hl
section
variable {X:Cx}{af:AO}{σ:St}{H:Hp}{s:Shared}
def pU (I:Inv X af σ H s)(h1:gR X.K H a vs)(h2:eO X.K H a ws):False:=by
 obtain⟨its,_,⟨o,e,c,_⟩,_⟩:=I.tuple h1;obtain⟨its',_,⟨o',M,O,U,_⟩,_⟩:=I.list h2;lia
def Cp (I:Inv X af σ H s)(e:s.heap.get? a=some o)(d:o.data=.seq its n):(∀aA ob,H a≠some (.dK aA ob))/\∀aA,H a≠some (.dT aA):=by
 refine⟨λaA ob h=>?_,λaA h=>?_⟩
 .obtain⟨_,_,_,_,_,o',es,M,O,_,d',_⟩:=(show bf _ _ H _ a _ from I.hok a _ h);simp_all
 .obtain⟨_,_,_,_,o',es,M,O,_,d',_⟩:=(show bf _ _ H _ a _ from I.hok a _ h);simp_all
def m8 (I:Inv X af σ H s)(h1:gR X.K H a vs):(∀aA ob,H a≠some (.dK aA ob))/\∀aA,H a≠some (.dT aA):=by
 obtain⟨its,_,⟨o,e,c,n,d⟩,_⟩:=I.tuple h1;exact Cp I e d
def m9 (I:Inv X af σ H s)(h1:eO X.K H a vs):(∀aA ob,H a≠some (.dK aA ob))/\∀aA,H a≠some (.dT aA):=by
 refine I.lisE h1 λits _ p _=>?_;obtain⟨o,e,c,n,d⟩:=p.isList;exact Cp I e d
def Cr (I:Inv X af σ H s):∀(n:Nat){v:V}{d d':D},Is X.K H v d->Is X.K H v d'->aK n d=true->gS d d'=true:=by
 have M:∀ {p:D->Bool}(U:∀ {v:V}{d d':D},Is X.K H v d->Is X.K H v d'->p d=true->gS d d'=true) {vs:LV}{ds O:LD},IsL X.K H vs ds->IsL X.K H vs O->ds.all p=true->jI ds O=true:=by
  intro p U vs;induction vs with
  |nil=>intro ds O h h' _;cases h;cases h';rfl
  |cons v vs a=>
   intro ds O h h' hp;cases h with
   |cons h1 h2=>
    cases h' with
    |cons h3 h4=>
     rw[all_cons,vC]at hp;rw[jI,U h1 h3 hp.1,a h2 h4 hp.2];rfl
 intro n;induction n with
 |zero=>
  intro v d d' h h' hp;cases h<;>cases h'<;>first|(simp at hp;done)|simp
 |succ n U=>
  intro v d d' h h' hp;cases h with
  |tup h1 h2=>
   cases h' with
   |tup h3 h4=>
    rw[I.tuple_inj h3 h1]at h4;exact M U h2 h4 (by simpa [aK]using hp)
   |lst h3 h4=>exact(pU I h1 h3).elim
   |dk h3 _ _=>exact((m8 I h1).1 _ _ h3).elim
   |dt h3 _ _=>exact((m8 I h1).2 _ h3).elim
  |lst h1 h2=>
   cases h' with
   |lst h3 h4=>
    rw[I.list_inj h3 h1]at h4;exact M U h2 h4 (by simpa [aK]using hp)
   |tup h3 h4=>exact(pU I h3 h1).elim
   |dk h3 _ _=>exact((m9 I h1).1 _ _ h3).elim
   |dt h3 _ _=>exact((m9 I h1).2 _ h3).elim
  |ty=>simp at hp
  |dk=>simp at hp
  |dt=>simp at hp
  |_=>cases h'<;>simp
def yr {A:Around}{p:D->Bool}(f:∀ {O U:V}{d1 d2:D}{a b:Value},p d1=true->p d2=true->Is X.K H O d1->Is X.K H U d2->aC O a->aC U b->SeqAt.EqAt A s a b (gS d1 d2))
  {vs ws:LV}{ds es:LD}{its M:LU}(i1:IsL X.K H vs ds) (i2:IsL X.K H ws es) (c:aL vs its) (e:aL ws M) (g:ds.all p=true) (p2:es.all p=true):
  ∀j (h1:j<its.toArray.size) (h2:j<M.toArray.size),SeqAt.EqAt A s its.toArray[j] M.toArray[j] (gS (ds.getD j .non) (es.getD j .non)):=by
 intro j h1 h2;rw[vH]at h1 h2;have l1:=c.length;have l2:=e.length;have h:=i1.length;have k:=i2.length;have hv:j<vs.length:=N9
 have hw:j<ws.length:=N9
 have hd:j<ds.length:=N9
 have he:j<es.length:=N9
 obtain⟨u,l,m⟩:=c.get (i:=j) (x:=vs[j]) (by simp );obtain⟨u',e2,q2⟩:=e.get (i:=j) (x:=ws[j]) (by simp );obtain⟨v,n,o⟩:=i1.get (i:=j) (d:=ds[j]) (by simp );obtain⟨w,q,r⟩:=i2.get (i:=j) (d:=es[j]) (by simp );grind
def wH {xs ys:LD}(j:Nat)(x y:D)(h1:xs[j]? = some x)(h2:ys[j]? = some y):gS (xs.getD j .non) (ys.getD j .non)=gS x y:=by
 simp[h1,h2]
abbrev U9 (A:Around)(s:Shared)(M O:Value)(b:Bool):Prop:=SeqAt.RcAt A s M O b/\SeqAt.EqAt A s M O b/\SeqAt.RcNeAt A s M O (!b)
def Cs {M O:Addr}(rc:SeqAt.RcAt A s (.ref M) (.ref O) b)(U:SeqAt.RcNeAt A s (.ref M) (.ref O) (!b))(h:M=O->b=true):U9 A s (.ref M) (.ref O) b:=by
 grind[SeqAt.EqAt.same,SeqAt.EqAt.of_refs]
def jJ:Bool->Heap->Addr->AV->Prop
 |true,h,a,items=>h.IsList a items
 |false,h,a,items=>h.IsTuple a items
def yt (U:aK 0 d1=true)(p2:aK 0 d2=true)(i1:Is X.K H v1 d1)(i2:Is X.K H v2 d2)(M:aC v1 u1)(O:aC v2 u2):U9 A s u1 u2 (gS d1 d2):=by
 cases i1<;>try (cases U;done)
 all_goals (first|(cases M;done)|obtain⟨t,rfl⟩:=M)
 all_goals (cases i2<;>try (cases p2;done))
 all_goals (first|(cases O;done)|obtain⟨t',rfl⟩:=O)
 all_goals (refine⟨?_,?_,?_⟩)
 exact .none_none;exact .same _;exact .none_none;iterate 3 exact .none_bool _
 iterate 3 exact .none_int _ _
 iterate 3 exact .none_str _ _
 iterate 3 exact .bool_none _
 iterate 3 exact .bool_bool _ _
 iterate 3 exact .bool_int _ _ _
 iterate 3 exact .bool_str _ _ _
 iterate 3 exact .int_none _ _
 iterate 3 exact .int_bool _ _ _
 iterate 3 exact .int_int _ _ _ _
 iterate 3 exact .int_str _ _ _ _
 iterate 3 exact .str_none _ _
 iterate 3 exact .str_bool _ _ _
 iterate 3 exact .str_int _ _ _ _
 iterate 3 exact .str_str _ _ _ _
def pV (M:A.units<cLine)(h1:jJ k s.heap a its)(p2:aK 0 d2=true)(i2:Is X.K H v2 d2)(O:aC v2 U):U9 A s (.ref a) U false/\U9 A s U (.ref a) false:=by
 cases i2<;>try (cases p2;done)
 all_goals (first|(cases O;done)|obtain⟨t,rfl⟩:=O)
 all_goals (cases k<;>refine⟨⟨?_,?_,?_⟩,?_,?_,?_⟩)
 iterate 3 exact .tuple_none h1 M
 iterate 3 exact .none_tuple h1 M
 iterate 3 exact .list_none h1 M
 iterate 3 exact .none_list h1 M
 iterate 3 exact .tuple_bool _ h1 M
 iterate 3 exact .bool_tuple _ h1 M
 iterate 3 exact .list_bool _ h1 M
 iterate 3 exact .bool_list _ h1 M
 iterate 3 exact .tuple_int _ _ h1 M
 iterate 3 exact .int_tuple _ _ h1 M
 iterate 3 exact .list_int _ _ h1 M
 iterate 3 exact .int_list _ _ h1 M
 iterate 3 exact .tuple_str _ _ h1 M
 iterate 3 exact .str_tuple _ _ h1 M
 iterate 3 exact .list_str _ _ h1 M
 iterate 3 exact .str_list _ _ h1 M
def Hw (I:Inv X af σ H s):∀(n:Nat){A:Around}{i l:V}{d1 d2:D}{m o:Value},A.units+n<cLine->aK n d1=true->aK n d2=true->Is X.K H i d1->Is X.K H l d2->aC i m->aC l o->U9 A s m o (gS d1 d2):=by
 intro n;induction n with
 |zero=>exact λ_ d p2 i1 i2 c f=>yt d p2 i1 i2 c f
 |succ n E=>
  intro A i l d1 d2 m o hu d p2 i1 i2 c f;have M:A.units<cLine:=N9
  have q:∀ {i l:V}{d1 d2:D}{m o:Value},aK n d1=true->aK n d2=true->Is X.K H i d1->Is X.K H l d2->aC i m->aC l o->SeqAt.EqAt A.in1 s m o (gS d1 d2):=λd p2 i1 i2 c f=>(E (A:=A.in1) (by show A.units+1+n<cLine;lia) d p2 i1 i2 c f).2.1;have off:∀ {a b:D},aK 0 a=true->¬aK 0 b=true->gS a b=false/\gS b a=false:=λ{a b} h h'=>by
   cases a<;>try (cases h;done)
   all_goals (cases b<;>first|exact(h' rr).elim|exact⟨rfl,rfl⟩)
  by_cases f2:aK 0 d2=true
  .by_cases f1:aK 0 d1=true
   .exact yt f1 f2 i1 i2 c f
   .rw[(off f2 f1).2];cases i1 with
    |tup h1=>
     cases c
     refine I.tupE h1 λits _ O _=>?_;exact(pV (k:=false) M O f2 i2 f).1
    |lst h1=>
     cases c
     refine I.lisE h1 λits _ O _=>?_;exact(pV (k:=true) M O.isList f2 i2 f).1
    |_=>simp at f1 d
  .by_cases f1:aK 0 d1=true
   .rw[(off f1 f2).1];cases i2 with
    |tup h1=>
     cases f
     refine I.tupE h1 λits _ O _=>?_;exact(pV (k:=false) M O f1 i1 c).2
    |lst h1=>
     cases f
     refine I.lisE h1 λits _ O _=>?_;exact(pV (k:=true) M O.isList f1 i1 c).2
    |_=>simp at f2 p2
   .cases i2 with
    |tup h2 k2=>
     cases f
     refine I.tupE h2 λr t g F=>?_;cases i1 with
     |tup h1 k1=>
      cases c
      refine I.tupE h1 λits U O v=>?_;rename_i w ws es z vs ds;have he:=yr (A:=A.in1) (p:=aK n) q k1 k2 U t (by simpa using d) (by simpa using p2);have B:((List.range (min its.toArray.size r.toArray.size)).all (λj=>gS (ds.getD j .non) (es.getD j .non)) && its.toArray.size == r.toArray.size)=gS (.tup ds) (.tup es):=by
       show _=jI ds es;rw[vH,vH,<-U.length,<-t.length,k1.length,k2.length];by_cases hl:ds.length=es.length
       .rw[<-hl,Nat.min_self,beq_self_eq_true,Bool.and_true];exact iY _ hl λj x y C e2=>wH j x y C e2
       simp_all[wG]
      have rc:=SeqAt.RcAt.tuples O g M he;have u:=SeqAt.RcNeAt.tuples O g M he;rw[B]at rc u;exact Cs rc u λe=>by subst e;exact Cr I (n+1) (.tup h1 k1) (.tup h2 k2) d
     |lst h1 k1=>
      cases c
      refine I.lisE h1 λits U O v=>?_;refine⟨?_,?_,?_⟩<;>exact .list_tuple O.isList g M
     |_=>simp at f1 d
    |lst h2 k2=>
     cases f
     refine I.lisE h2 λr t g F=>?_;replace g:=g.isList;cases i1 with
     |lst h1 k1=>
      cases c
      refine I.lisE h1 λits U O v=>?_;replace O:=O.isList;rename_i w ws es z vs ds;have he:=yr (A:=A.in1) (p:=aK n) q k1 k2 U t (by simpa using d) (by simpa using p2);have both:SeqAt.RcAt A s (.ref z) (.ref w) (gS (.lst ds) (.lst es))/\SeqAt.RcNeAt A s (.ref z) (.ref w) (!gS (.lst ds) (.lst es)):=by
       have hz:its.toArray.size=ds.length/\r.toArray.size=es.length:=by rw[vH,vH,<-U.length,<-t.length,k1.length,k2.length];simp
       by_cases hl:ds.length=es.length
       .have B:(List.range its.toArray.size).all (λj=>gS (ds.getD j .non) (es.getD j .non))=gS (.lst ds) (.lst es):=by
         show _=jI ds es;rw[hz.1];exact iY _ hl λj x y C e2=>wH j x y C e2
        have hs:=(hz.1.trans hl).trans hz.2.symm;have rc:=SeqAt.RcAt.lists O g hs M he;have u:=SeqAt.RcNeAt.lists O g hs M he;rw[B]at rc u;exact⟨rc,u⟩
       .have hs:(its.toArray.size != r.toArray.size)=true:=by simp_all
        rw[show gS (.lst ds) (.lst es)=false from wG hl];exact⟨.lists_lengths O g hs M,.lists_lengths O g hs M⟩
      exact Cs both.1 both.2 λe=>by subst e;exact Cr I (n+1) (.lst h1 k1) (.lst h2 k2) d
     |tup h1 k1=>
      cases c
      refine I.tupE h1 λits U O v=>?_;refine⟨?_,?_,?_⟩<;>exact .tuple_list O g M
     |_=>simp at f1 d
    |_=>simp at f2 p2
@[simp] def lu:D->D->OB:=λx y=>if aK 40 x=true/\aK 40 y=true then some (.bl (gS x y),false)else none
@[simp] def Hx:D->D->OB:=λx y=>if aK 40 x=true/\aK 40 y=true then some (.bl (!gS x y),false)else none
def YX (hu:X.A.units+40<cLine):cH X (compareOp .Eq) (rD X.K lu):=by
 intro af s σ H x y v u Q I O U q;refine eS q λB dx f d b M a c e q=>?_;unfold lu at e;split at e
 .rename_i hp;cases e
  exact(Hw I 40 hu hp.1 hp.2 (a.mono M) (c.mono M) O U).1 _ _ _ _ ⟨.bl _,H,I,rr,q.one M (.bl _)⟩
 simp_all
def YY (hu:X.A.units+40<cLine):cH X (compareOp .NotEq) (rD X.K Hx):=by
 intro af s σ H x y v u Q I O U q;refine eS q λB dx f d b M a c e q=>?_;unfold Hx at e;split at e
 .rename_i hp;cases e
  exact(Hw I 40 hu hp.1 hp.2 (a.mono M) (c.mono M) O U).2.2 _ _ _ _ ⟨.bl _,H,I,rr,q.one M (.bl _)⟩
 simp_all
end
section
variable {X:Cx}{a b e:Expr}{pos:Pos}
def Ct {K:Frag}{H:Hp}{vs:LV}{ds:LD}{i:Int}{d:D}(h:IsL K H vs ds)(e:mq ds i=some d):∃v,mq vs i=some v/\Is K H v d:=by
 unfold mq at e |-;rw[h.length];cases q:G4 _ i with
 |none=>rw[q]at e;cases e
 |some j=>rw[q]at e;exact h.get e
@[simp] noncomputable def fu:D->D->OB
 |.lst ds,.int i=>(mq ds i).map λd=>(d,false)
 |.tup ds,.int i=>(mq ds i).map λd=>(d,false)
 |.str z,.int i=>if z.length<=sizeLine then (mq z.cps.toList i).map λc=>(.str ⟨#[c]⟩,false)else none
 |_,_=>none
def YZ:Qb X (rD X.K fu):=by
 intro U f af s σ H x y v u Q I g j q hs;refine eS q λB dx m d b M k l e q=>?_;cases k<;>try (cases e)
 all_goals (cases l<;>try (cases e))
 .simp only[fu]at e;split at e
  .rename_i hz;refine eR e λc O e2=>?_;cases e2
   exact AM _ _ _ s σ H _ _ v u Q I g j ⟨_,_,c,rr,rr,hz,O,q.one M (.str _)⟩ hs
  simp_all
 .rename_i h hl i;refine eR e λc O e2=>?_;cases e2
  obtain⟨w,h1,h2⟩:=Ct hl O;exact AL _ _ _ s σ H _ _ v u Q I g j ⟨_,_,_,w,rr,rr,aT M h,h1,q.one M h2⟩ hs
 .rename_i h hl i;refine eR e λc O e2=>?_;cases e2
  obtain⟨w,h1,h2⟩:=Ct hl O;exact L4 _ _ _ s σ H _ _ v u Q I g j ⟨_,_,_,w,rr,rr,M.seq h,h1,q.one M h2⟩ hs
def UA (ha:JE X a fa)(hb:JE X b M)(hs:mr b):JE X (.Subscript a b pos) (f2 fu fa M):=PE.to (GV YZ ha hb hs) λ_ _ _ h=>LC h
abbrev FO:=Env->Option OI
def tDO (K:Frag)(f:FO):TO:=λσ H Q=>∃(B:Hp)(ρ:Env)(o:OI),aJ B H/\eK K B σ ρ/\f ρ=some o/\∀H',aJ H H'->Q o H'
abbrev JO (X:Cx)(e:Option Expr)(f:FO):Prop:=PO X e (tDO X.K f)
@[simp] def lw:FO:=λ_=>some none
@[simp] noncomputable def jK (f:FE):FO:=λρ=>match f ρ with|some (.int i,_)=>some (some i)|_=>none
def Mf:JO X none lw:=λaf s σ H Q I h=>Lz _ s σ H Q I (by
 obtain⟨B,ρ,o,M,r,e,q⟩:=h;cases e
 exact q H (.refl H))
def Mg (h:JE X e f):JO X (some e) (jK f):=λaf s σ H Q I q=>L0 h _ s σ H Q I (by
 obtain⟨B,ρ,o,M,r,e,q⟩:=q;unfold jK at e;split at e
 .rename_i i b' O;cases e
  refine⟨B,ρ,_,_,M,r,O,λv U N1 c i1 _=>?_⟩;cases i1
  exact⟨i,rr,q U c.hh⟩
 simp_all)
def gT (ds:LD)(lo hi:OI):LD:=(ds.drop (HT.df ds.length 0 lo)).take (HT.df ds.length ds.length hi - HT.df ds.length 0 lo)
def wI {K:Frag}{H:Hp}{vs:LV}{ds:LD}{lo hi:OI}(h:IsL K H vs ds):IsL K H (tG vs lo hi) (gT ds lo hi):=by
 unfold tG gT;rw[h.length];exact(h.drop _).take _
def b8.to (h:b8 X f r)(k:∀xs H Q,M xs H Q->r xs H Q):b8 X f M:=λaf s σ H xs us Q I rs q=>h _ s σ H xs us Q I rs (k xs H Q q)
variable {es:QD}{x:Str}{p:Pos}{id T:String}
def Hy (hc:b8 X (.builtin id) (A8 X.K f))(hm:X.mg x=none)(hv:bootBuiltins x=some (.builtin id))(ha:JA X (e::es) fa)(U:Gl X x)(hn:x ≠ "__name__")(M:bj x)
  (he:dv e es X.env) (O:j8 pos es X.env):JE X (.Call (.Name x p) (e::es) [] pos) (fA f fa):=PE.to (qy hc U hm hv ha hn M he O) λ_ _ _ h=>LF h
def Fc (hc:b8 X (.type T) (A8 X.K f))(hm:X.mg x=none)(hv:bootBuiltins x=some (.type T))(ha:JA X (e::es) fa)(U:Gl X x)(hn:x ≠ "__name__")(M:bj x)
  (he:dv e es X.env) (O:j8 pos es X.env):JE X (.Call (.Name x p) (e::es) [] pos) (fA f fa):=PE.to (nN hc U hm hv ha hn M he O) λ_ _ _ h=>LF h
@[simp] noncomputable def lI:LD->OB
 |[.lst ds]=>some (.int ds.length,false)
 |[.tup ds]=>some (.int ds.length,false)
 |[.str z]=>if z.length<=sizeLine then some (.int z.length,false)else none
 |_=>none
def UB:b8 X (.builtin "len") (A8 X.K lI):=by
 refine b8.to (b8.or ww wx) λxs H Q q=>?_;refine e5 q λB ds d b M i e q=>?_;cases i with
 |nil=>simp at e
 |cons i1 i2=>
  cases i2 with
  |cons _ _=>cases i1<;>simp at e
  |nil=>
   cases i1<;>try (simp at e;done)
   .simp only[lI]at e;split at e
    .rename_i hz;cases e
     exact .inr ⟨_,rr,hz,q.one M (.int _)⟩
    simp_all
   .rename_i h hl;cases e
    refine .inl ⟨_,_,rr,.inr (aT M h),?_⟩;rw[hl.length];exact q.one M (.int _)
   .rename_i h hl;cases e
    refine .inl ⟨_,_,rr,.inl (M.seq h),?_⟩;rw[hl.length];exact q.one M (.int _)
def UC (hm:X.mg x=none)(hv:bootBuiltins x=some (.type n))(M:Gl X x)(hn:x ≠ "__name__")(hd:bj x):JE X (.Name x pos) (fC (.ty n)):=
 PE.to (Lj M hm hv (v:=.ty n) rr hn hd) λ_ _ _ h=>Fb (λ_=>.ty n) h
end
def lg (hr:dF k A):A.units+40<cLine:=by have:=hr.un;lia
section
variable {X:Cx}{a b e:Expr}{pos:Pos}{x:Str}{p:Pos}
def Hz (h:∃u v,X.mg x=some u/\aC v u/\∀B,Is X.K B v d)(M:Gl X x)(hd:bj x):JE X (.Name x pos) (fC d):=by
 obtain⟨u,v,hm,r,i⟩:=h;exact LW M hm r i hd
@[simp] noncomputable def UD:D->D->OB
 |.int i,.int j=>some (.int (i+j),false)
 |.str i,.str j=>if i.length+j.length<=sizeLine then some (.str (i++j),false)else none
 |_,_=>none
def Mh:cH X (binaryOp .Add) (rD X.K UD):=by
 refine io (nR U1 Q8) λx y H Q q=>?_;refine eS q λB dx M d b O U c e q=>?_;refine⟨B,dx,M,d,b,O,U,c,?_,q⟩;cases dx<;>try (cases e)
 all_goals (cases M<;>try (done))
 all_goals simp_all[SN]
@[simp] def yu:D->D->OB:=U0
def QF:cH X (binaryOp .Mult) (rD X.K yu):=U3
@[simp] def UE:D->D->OB:=iLt
def UF:cH X (compareOp .Lt) (rD X.K UE):=YQ
@[simp] noncomputable def O5:D->D->OB
 |.int i,.int j=>some (.bl (decide (i<=j)),false)
 |.str i,.str j=>some (.bl (!decide (j.cps.toList<i.cps.toList)),false)
 |_,_=>none
def UG:cH X (compareOp .LtE) (rD X.K O5):=by
 refine io (nR YR U7) λx y H Q q=>?_;refine eS q λB dx M d b O U c e q=>?_;refine⟨B,dx,M,d,b,O,U,c,?_,q⟩;cases dx<;>try (cases e)
 all_goals (cases M<;>try (done))
 all_goals simp_all[SN]
@[simp] noncomputable def HA:D->OB
 |.int i=>some (.int (-i),false)
 |_=>none
def UH:TK X (unaryOp .USub) (YI X.K HA):=by
 intro af s σ H x v Q I M q;obtain⟨B,dx,d,b,O,U,e,q⟩:=q;cases U<;>try (simp at e;done)
 cases e
 exact PR _ s σ H _ v Q I M ⟨_,rr,q.one O (.int _)⟩
@[simp] noncomputable def Fd:D->D->Option Bool
 |x,.non=>some (match x with|.non=>true|_=>false)
 |x,.bl b=>some (match x with|.bl a=>a == b|_=>false)
 |_,_=>none
@[simp] def SO:D->D->OB:=λx y=>(Fd x y).map λb=>(.bl b,false)
@[simp] def qI:D->D->OB:=λx y=>(Fd x y).map λb=>(.bl (!b),false)
def Cu {K:Frag}{B:Hp}{x y:V}{v u:Value}{dx M:D}{k:Bool}(U:Is K B x dx)(f:Is K B y M)(O:aC x v)(g:aC y u)(e:Fd dx M=some k):plainIs v u=true/\(v == u)=k:=by
 cases f<;>(first|(cases e;done)|skip)
 all_goals (cases U)
 all_goals (first|(obtain⟨t,rfl⟩:=O)|cases O)
 all_goals (cases g)
 all_goals (cases e)
 all_goals (first|exact⟨rr,rr⟩|skip)
 all_goals (rename_i c d;cases c<;>cases d<;>exact⟨rr,rr⟩)
def Za:cH X (compareOp .Is) (rD X.K SO):=by
 intro af s σ H x y v u Q I M O q;refine eS q λB dx g d b U c f e q=>?_;refine eR e λk ek e=>?_;cases e
 obtain⟨h1,h2⟩:=Cu c f M O ek;refine wpAny_is_plain h1 ⟨.bl k,H,I,by rw[h2];rfl,q.one U (.bl _)⟩
def Mi:cH X (compareOp .IsNot) (rD X.K qI):=by
 intro af s σ H x y v u Q I M O q;refine eS q λB dx g d b U c f e q=>?_;refine eR e λk ek e=>?_;cases e
 obtain⟨h1,h2⟩:=Cu c f M O ek;refine wpAny_isNot_plain h1 ⟨.bl _,H,I,by rw[h2];rfl,q.one U (.bl _)⟩
@[simp] noncomputable def gW:D->Bool
 |.non=>true|.bl _=>true|.int _=>true|.str _=>true
 |_=>false
def G5 (x:D)(ds:LD):Bool:=ds.any λy=>gS y x
@[simp] noncomputable def f7:D->Option LD
 |.lst ds=>some ds
 |.tup ds=>some ds
 |_=>none
@[simp] def HB:D->D->OB:=λx y=>(f7 y).bind λds=>if gW x=true/\ds.all gW=true then some (.bl (G5 x ds),false)else none
@[simp] def dz:D->D->OB:=λx y=>(f7 y).bind λds=>if gW x=true/\ds.all gW=true then some (.bl (!G5 x ds),false)else none
def qJ {K:Frag}{B:Hp}{v:V}{d:D}(i:Is K B v d)(h:gW d=true):lr v=true:=by
 cases i<;>first|rfl|(simp at h)
def Zb {K:Frag}{B:Hp}{v w:V}{d e:D}(i:Is K B v d)(j:Is K B w e)(h:gW d=true)(h':gW e=true):L6 v w=gS d e:=by
 cases i<;>(first|(simp at h)|skip)
 all_goals (cases j<;>(first|(done)|skip))
 all_goals rfl
theorem yv {K:Frag}{B:Hp}:∀ {vs:LV}{ds:LD},IsL K B vs ds->ds.all gW=true->vs.all lr=true
 |_,_,.nil,_=>rr
 |_,_,.cons i t,h=>by
  rw[all_cons,vC]at h;rw[all_cons,qJ i h.1,yv t h.2];rfl
theorem HC {K:Frag}{B:Hp}{v:V}{d:D}(j:Is K B v d)(hd:gW d=true):∀ {vs:LV}{ds:LD},IsL K B vs ds->ds.all gW=true->XX v vs=G5 d ds
 |_,_,.nil,_=>rr
 |_,_,.cons i t,h=>by
  rw[all_cons,vC]at h;have e:=HC j hd t h.2;unfold XX G5 at *;rw[any_cons,any_cons,e,Zb i j h.1 hd]
def UI:cH X (compareOp .In) (rD X.K HB):=by
 refine io ER λx y H Q q=>?_;obtain⟨B,dx,c,d,b,M,O,U,e,q⟩:=q;refine eX e λds es e=>?_;split at e
 .rename_i hf;cases e
  cases U<;>simp [f7]at es<;>try (cases es;done)
  .rename_i h hl;cases es
   exact⟨_,_,rr,.inr (aT M h),qJ O hf.1,yv hl hf.2,by rw[HC O hf.1 hl hf.2];exact q.one M (.bl _)⟩
  .rename_i h hl;cases es
   exact⟨_,_,rr,.inl (M.seq h),qJ O hf.1,yv hl hf.2,by rw[HC O hf.1 hl hf.2];exact q.one M (.bl _)⟩
 simp_all
def HD:cH X (compareOp .NotIn) (rD X.K dz):=by
 refine io wv λx y H Q q=>?_;obtain⟨B,dx,c,d,b,M,O,U,e,q⟩:=q;refine eX e λds es e=>?_;split at e
 .rename_i hf;cases e
  cases U<;>simp [f7]at es<;>try (cases es;done)
  .rename_i h hl;cases es
   exact⟨_,_,rr,.inr (aT M h),qJ O hf.1,yv hl hf.2,by rw[HC O hf.1 hl hf.2];exact q.one M (.bl _)⟩
  .rename_i h hl;cases es
   exact⟨_,_,rr,.inl (M.seq h),qJ O hf.1,yv hl hf.2,by rw[HC O hf.1 hl hf.2];exact q.one M (.bl _)⟩
 simp_all
def O6:bootBuiltins "len" = some (.builtin "len"):=PySem.boot_len
def mB:bootBuiltins "isinstance" = some (.builtin "isinstance"):=S9
def UJ:bootBuiltins "min" = some (.builtin "min"):=S9
def UK:bootBuiltins "all" = some (.builtin "all"):=S9
def UL:bootBuiltins "int" = some (.type "int"):=S9
def QG:bootBuiltins "bool" = some (.type "bool"):=S9
def UM:bootBuiltins "str" = some (.type "str"):=S9
def wJ:bootBuiltins "list" = some (.type "list"):=S9
def Cv:bootBuiltins "tuple" = some (.type "tuple"):=S9
@[simp] noncomputable def UN:LD->OB
 |[.int i,.int j]=>some (.int (if j<i then j else i),false)
 |_=>none
def HE {K:Frag}{B:Hp}{xs:LV}{i j:Int}(h:IsL K B xs [.int i,.int j]):xs=[.int i,.int j]:=by
 cases h with
 |cons h1 h2=>cases h1;cases h2 with|cons h3 h4=>cases h3;cases h4;rfl
def UO (hc:X.calm=true):b8 X (.builtin "min") (A8 X.K UN):=by
 refine b8.to (EN hc) λxs H Q q=>?_;refine e5 q λB ds d b M i e q=>?_;match ds,e with
 |[.int O,.int U],e=>cases e;exact⟨O,U,HE i,q.one M (.int _)⟩
@[simp] noncomputable def iq:D->String
 |.non=>"NoneType" | .bl _=>"bool" | .int _=>"int" | .str _=>"str" | .ty _=>"type" | .tup _=>"tuple" | .lst _=>"list" | .dk _ _=>"dict" | .dt _ _=>"dict"
@[simp] noncomputable def Fe:D->Bool
 |.ty _=>true
 |_=>false
@[simp] noncomputable def Cw (t n:String):OB:=
 if n = "int" then some (.bl (t == "int" || t == "bool"),false)else if n = "bool" then some (.bl (t == "bool"),false)else if n = "str" then some (.bl (t == "str"),false)
 else if n = "list" then some (.bl (t == "list"),false)else if n = "tuple" then some (.bl (t == "tuple"),false)else none
@[simp] def oW:LD->OB
 |[d,.ty n]=>if Fe d=true then none else Cw (iq d) n
 |_=>none
def Mj {af:AO}{σ:St}{H:Hp}{s:Shared}{A:Around}{E:QV}{Q:QV}{c:Value}{b:Bool}{v:V}{d:D}{u:Value}(I:Inv X af σ H s)(i:Is X.K H v d)(hd:∀n,d≠.ty n)(M:aC v u)(e:PySem.W.kitOne X.K (.type (iq d)) c=some b)(h:∀tk,Q (.bool b) { s with toks:=tk }):
  wpAny (model X.prog X.w) A (call (.builtin "isinstance") [u,c]) Q E s:=by
 cases i with
 |non=>exact fT I M .non e h
 |bl y=>exact fT I M (.bl y) e h
 |int y=>exact fT I M (.int y) e h
 |str y=>exact fT I M (.str y) e h
 |ty n=>exact absurd rr (hd n)
 |dk h1 _ _=>exact fT I M (.dK h1) e h
 |dt h1 _ _=>exact fT I M (.dT h1) e h
 |tup O _=>
  cases M
  obtain⟨its,_,⟨o,h1,h2,_⟩,_⟩:=I.tuple O;exact kia_one PySem.W.kitx_tuple I.kIn ⟨o,h1,h2⟩ e (λz=>nomatch z) h
 |lst hl _=>
  cases M
  obtain⟨its,_,⟨o,n,h1,h2,_⟩,_⟩:=I.list hl;exact kia_one PySem.W.kitx_list I.kIn ⟨o,h1,h2⟩ e (λz=>nomatch z) h
def HF (K:Frag)(d:D)(hd:∀n,d≠.ty n):
  PySem.W.kitOne K (.type (iq d)) (.type "int")=some (iq d == "int" || iq d == "bool")/\PySem.W.kitOne K (.type (iq d)) (.type "bool")=some (iq d == "bool")/\PySem.W.kitOne K (.type (iq d)) (.type "str")=some (iq d == "str") /\
   PySem.W.kitOne K (.type (iq d)) (.type "list")=some (iq d == "list")/\PySem.W.kitOne K (.type (iq d)) (.type "tuple")=some (iq d == "tuple"):=by
 cases d<;>(first|exact absurd _ _|skip)
 all_goals (refine⟨?_,?_,?_,?_,?_⟩<;>kernel_rfl)
def wK:b8 X (.builtin "isinstance") (A8 X.K oW):=by
 intro af s σ H xs us Q I rs q;refine e5 q λB ds d b M i e q=>?_;cases i with
 |nil=>cases e
 |cons i1 i=>cases i with
 |nil=>cases e
 |cons i2 i=>
  cases i2<;>try (cases e)
  cases i<;>try (cases e)
  rename_i dx n;obtain⟨f,g,rfl,O,U⟩:=GO rs;cases U
  simp only[oW]at e;split at e
  .cases e
  .rename_i c;have hd:∀n,dx≠.ty n:=λn z=>by subst z;exact c rr
   obtain⟨k1,k2,k3,k4,k5⟩:=HF X.K dx hd;have dQ:∀ {k:Bool},PySem.W.kitOne _ _ (.type n)=some k->Fin X.K B H _ _ Q->wpAny _ X.A _ (EP X _ σ Q) X.xe s:=λ{k} hk q=>
    Mj I (i1.mono M) hd O hk λtk=>⟨.bl k,H,I.tok tk,rr,q.one M (.bl k)⟩
   unfold Cw at e;grind
@[simp] def HG (f:FE):FA:=λρ=>(f ρ).bind λx=>f7 x.1
def Cy (h:JE X e f):JI X tg e (HG f):=by
 intro af s σ H R I q;obtain⟨B,ρ,ds,g,r,j,q⟩:=q;refine eX j λx ex es=>?_;obtain⟨xd,l⟩:=x;cases xd<;>simp [f7]at es<;>try (cases es;done)
 .cases es
  refine PB h _ s σ H R I ⟨B,ρ,_,_,g,r,ex,λv c N1 U i1 _=>?_⟩;cases i1 with
  |@tup a vs _ O hl=>
   refine⟨a,rr,⟨vs,aT U.nh O⟩,q _ c N1 U λi H2 s2=>⟨λd ed=>?_,λM=>⟨vs,aT s2 O,by rw[hl.length];exact M⟩⟩⟩;obtain⟨v,ev,iv⟩:=hl.get ed;refine⟨⟨vs,v,aT s2 O,ev⟩,λy k hy=>?_⟩;obtain⟨rfl,hy⟩:=hy;have:=hy vs (aT s2 O);rw[ev]at this;cases this;exact⟨N1,.refl s2,iv⟩
 .cases es
  refine Lo h _ s σ H R I ⟨B,ρ,_,_,g,r,ex,λv c N1 U i1 _=>?_⟩;cases i1 with
  |@lst a vs _ O hl=>
   refine⟨a,rr,⟨vs,U.nh.seq O⟩,q _ c N1 U λi H2 s2=>⟨λd ed=>?_,λM=>⟨vs,s2.seq O,by rw[hl.length];exact M⟩⟩⟩;obtain⟨v,ev,iv⟩:=hl.get ed;refine⟨⟨vs,v,s2.seq O,ev⟩,λy k hy=>?_⟩;obtain⟨rfl,hy⟩:=hy;have:=hy vs (s2.seq O);rw[ev]at this;cases this;exact⟨N1,.refl s2,iv⟩
noncomputable def ge (lo:Int)(n:Nat):LD:=(List.range n).map λ(k:Nat)=>.int (lo+(k:Int))
def HH {K:Frag}{B:Hp}(lo:Int)(n:Nat):m4 K (XV lo n) B (ge lo n):=by
 intro i H s;unfold ge;refine⟨λd ed=>?_,λhl=>by rw[vI,length_range]at hl;exact hl⟩;rw[vA]at ed;refine eR ed λk ek ed=>?_;have hk:=vV ek;obtain⟨M,hk⟩:=hk;rw[length_range]at M;rw[List.getElem_range]at hk;subst hk;subst ed;refine⟨M,λx H' hy=>?_⟩;obtain⟨rfl,rfl⟩:=hy;exact⟨B,.refl s,.int _⟩
@[simp] def lJ (f:FE):FA:=λρ=>match f ρ with
 |some (.int j,_)=>if -1000<=j/\j<=1000 then some (ge 0 j.toNat)else none
 |_=>none
def yw (hm:X.mg "range" = none)(h:JE X a f)(O:Gl X "range":=by rfl)(hs:cM a X.env:=by rfl):PI X tg (.Call (.Name "range" p) [a] [] pos) (Ut X.K (lJ f)):=by
 refine PI.to (EK O hm (fM h lH hs) hs) λσ H R q=>?_;obtain⟨B,ρ,ds,U,r,M,q⟩:=q;unfold lJ at M;split at M
 .rename_i j b' c;split at M
  .cases M
   refine⟨B,ρ,[.int j],U,r,by simp[c],λvs d N1 g i1=>?_⟩;cases i1 with
   |cons i1 i2=>
    cases i1;cases i2
    exact⟨j,rr,N9,N9,q _ d N1 g λ_=>HH 0 _⟩
  simp_all
 simp_all
def HI (hm:X.mg "range" = none)(h:JE X a f)(M:Gl X "range")(hs:cM a X.env):JI X tg (.Call (.Name "range" p) [a] [] pos) (lJ f):=
 PI.to (yw hm h M hs) λσ H R ⟨B,ρ,ds,O,r,U,q⟩=>⟨B,ρ,ds,O,r,U,λJ H' N x h=>q J H' N x (h _)⟩
end
def bQ (K:Frag)(x:Str)(st:Stmt):Prop:=∃(f:Addr)(fd:FuncData),Sn K x x st f fd/\nsIn K mainGlobals x=some (some (.ref f))
def def_mk {K:Frag}{x:Str}{st:Stmt}{f:Addr}{oc:Value}{od an:Option Addr}{nL:Array (Option Value)}{kV doc pm dR ct:Value}(a:nsIn K mainGlobals x=some (some (.ref f)))
  (l:K.lookup f=some ⟨oc,od,.func (fnOf x x (fL st) (bT st) (aH st) .none kV doc pm an dR ct),nL⟩) (c:PySem.W.codeIn K dR x=true) (k:PySem.W.keepIn K (.ref f)=true):bQ K x st:=⟨f,_,Qd l c k,a⟩
section
variable {P:Program}{w:World}{K:Frag}{mg:SV}{base:Heap}
end
def UP (H:Hp):Prop:=∀b,H b=none\/(∃o xs,H b=some (.frz o (.lst xs)))\/∃q,H b=some (.tbl q)
noncomputable def qK (M:List (Addr×Str))(G:Hp):Hp:=λb=>match M.lookup b with|some q=>some (.tbl q)|none=>G b
def f8 (e:M.lookup b=some q):qK M G b=some (.tbl q):=by unfold qK;rw[e]
def iG (e:M.lookup b=none):qK M G b=G b:=by unfold qK;rw[e]
def Ff {P:Program}{w:World}{K:Frag}{mg mb:SV}{k:Nat}{fa a:Addr}{fd:FuncData}{x:Str}{sp:Sp}{M:Shared}{vs:LU}{ns:LI}(O:List (Addr×Str))
  (L:∀b q,O.lookup b=some q->M.heap.get? b=some (PySem.W.tabObj #[])/\isCodeTable M.heap b) (t:PySem.W.noTabs K=true)
  (y:K.In M.heap) (C:M.heap.Ns mainGlobals mg) (hb:M.heap.Ns builtinsNs mb) (A:∀x:Str,x ≠ "__name__"->mb x=bootBuiltins x) (N:M.heap.NoLimit)
  (Q:∃bm ob,mg "__builtins__" = some (.ref bm)/\bm≠builtinsNs/\M.heap.get? bm=some ob/\ob.cls=.type "module"/\ob.dict=some builtinsNs/\ob.data=.plain) (R:M.gens=#[])
  (ha:M.heap.get? a=some { cls:=.type "list",data:=.seq vs.toArray }) (hi:IntsAre vs ns) (hl:ns.length<=sizeLine) (hr:dF k callerA)
  (F:∀base:Heap,K.In base->base.Ns mainGlobals mg->t8 P w K mg base A7 k fa fd [x] sp) (S:∀(s:Shared)(u:Value),BindsTo s fd ⟨[u],[]⟩ [(x,u)])
  (T:∀H:Hp,(∀b q,O.lookup b=some q->H b=some (.tbl q))->eO K H a (ns.map V.int)->sp [.ref a] H (λv _=>v=.bl true) λ_ _ _=>False):
  codeAny (model P w) callerA (.call (.ref fa) ⟨[.ref a],[]⟩) (λr s'=>r=.ok (.ret (.bool true))/\OldK M.heap s'.heap/\s'.os=M.os/\AllBare s'.gens) M:=by
 have D:=L2.fU hi;have X:=hi.length;have E:∀H:Hp,UP H->(∀b q,O.lookup b=some q->H b=some (.tbl q))->eO K H a (ns.map V.int)->lb P w H M.heap->(∀b q,H b=some (.tbl q)->M.heap.get? b=some (PySem.W.tabObj #[])/\isCodeTable M.heap b) ->
   (∀b o u,H b=some (.frz o u)->b=a)->(∀b o u,H b=some (.frz o u)->K.lookup b=none) ->
   codeAny (model P w) callerA (.call (.ref fa) ⟨[.ref a],[]⟩) (λr s'=>r=.ok (.ret (.bool true))/\OldK M.heap s'.heap/\s'.os=M.os/\AllBare s'.gens) M:=by
  intro H j Y hS hok I hB Z;have noA:∀ {b:Addr}{o:Obj},M.heap.get? b=some o->(o.cls≠.none)->(o.cls≠.type "list")->H b=none:=λ{b o} e d d'=>by
   rcases j b with q|⟨ob,xs,q⟩|⟨u,q⟩
   .exact q
   .grind
   simp_all<;>lia
  have B:∀ {b:Addr}{o:Obj}{es:Array DictEntry}{l:Nat},M.heap.get? b=some o->o.data=.dict es l->H b=none:=λ{b o es l} e d=>by
   rcases j b with q|⟨ob,xs,q⟩|⟨u,q⟩
   .exact q
   .grind
   grind
  have p:∀ {b:Addr}{m:SV},M.heap.Ns b m->(xV M.heap H).Ns b m:=λ{b m} ⟨o,es,l,e,d,r⟩=>⟨o,es,l,qr e (B e d),d,r⟩;have f:K.In (xV M.heap H):=λb o e=>qr (y b o e) (by
   rcases j b with q|⟨ob,xs,q⟩|⟨u,q⟩
   .exact q
   .rw[Z b _ _ q]at e;cases e
   .have z:=(I b u q).1;rw[y b o e]at z;cases z
    have:=uR t _ (PySem.W.mem_of_lookupK e);simp at this)
  have hM:Mod K mg (xV M.heap H):=⟨f,p C,⟨mb,p hb,A⟩,let ⟨mc,h1,h2⟩:=N;⟨mc,p h1,h2⟩,by
   grind[qr]⟩
  have e0:Env0 P w K mg (xV M.heap H) callerA [] M H:=⟨rr,hM,λb o e=>Lh e,le_of_eq (EH _ _),trivial,λb hb=>absurd (show b∈([]:List Addr)from hb) X9,hok,.of_eq R⟩;refine codeAny_mono ((F _ f (p C)).run callerA [] M H ⟨[.ref a],[]⟩ [.ref a] [.ref a] _ _ hr e0 (S M (.ref a)) (.cons rr .nil) (T H Y hS)) λr s' h=>?_;cases r with
  |error e=>exact False.elim h
  |ok fl=>
   cases fl with
   |next=>exact False.elim h
   |brk=>exact False.elim h
   |cont=>exact False.elim h
   |ret u=>
    obtain⟨v,H',os,bare,un,J,r',q⟩:=h;have g:v=.bl true:=q;subst g;obtain rfl:u=Value.bool true:=r';have kp:=λb o n e=>un.keep b o e n (by intro z;exact absurd (show b∈([]:List Addr)from z) X9) X9;refine⟨rr,⟨λb o e=>?_,λb o e=>un.there b o e X9⟩,os,bare⟩;rcases j b with z|⟨ob,xs,z⟩|⟨u,z⟩
    .exact .inl (kp b o z e)
    .have z2:=un.frzs b ob _ z;obtain⟨i,_⟩:=hok b _ z;obtain⟨e2,_⟩:=J b _ z2;rw[e]at i;cases i;exact .inl e2
    .obtain⟨i,e2⟩:=I b u z;rw[e]at i;cases i;obtain⟨ps,e3,_⟩:=J b _ (un.tbls b u z);exact .inr (.inl ⟨e2,rr,#[],ps,rr,by simpa using e3⟩)
 have Ss:∀q,O.lookup a≠some q:=λq z=>by
  simp_all
 have ta:O.lookup a=none:=by
  cases z:O.lookup a with
  |none=>rfl
  |some q=>exact absurd z (Ss q)
 have abz:∀(G:Hp) b q,O.lookup b=some q->bf P w (qK O G) M.heap b (.tbl q):=λG b q z=>⟨#[],(L b q z).1,trivial,λpos cv c=>by cases c⟩;cases hk:K.lookup a with
 |some o=>
  have e:=y a o hk;rw[ha]at e;cases e
  refine E (qK O λ_=>none) (λb=>?_) (λb q z=>f8 z) (.inr ⟨_,vs.toArray,_,hk,rr,rr,rr,by simp_all,by simpa using D⟩) (λb u z=>?_) (λb q z=>?_) (λb o u z=>?_) λb o u z=>?_
  all_goals cases U:O.lookup b with
   |none=>first|exact .inl (iG U)|(rw[iG U]at z;cases z)
   |some g=>first|exact .inr (.inr ⟨g,f8 U⟩)|(rw[f8 U]at z;cases z;done)|(rw[f8 U]at z;grind)
 |none=>
  refine E (qK O λb=>if b=a then some _ else none) (λb=>?_) (λb q z=>f8 z) (.inl (.inr ⟨{ cls:=.type "list",data:=.seq vs.toArray },by rw[iG ta,if_pos rr]⟩)) (λb u z=>?_) (λb q z=>?_) (λb o u z=>?_) λb o u z=>?_
  all_goals cases U:O.lookup b with
   |some g=>first|exact .inr (.inr ⟨g,f8 U⟩)|(rw[f8 U]at z;cases z;done)|(rw[f8 U]at z;grind)
   |none=>
    first
    |rw[iG U]at z
    |rw[iG U]
    by_cases hb:b=a
    .first
     |rw[if_pos hb]at z
     |rw[if_pos hb]
     first
     |exact .inr (.inl ⟨_,_,rr⟩)
     | (cases z;subst hb;exact⟨ha,by rw[vI];exact hl,vs,_,D,ha⟩)
     |exact hb
     | (rw[hb];exact hk)
     |cases z
    .simp_all
noncomputable def wL (L:List (Str×Option (Addr×Addr))):List (Addr×Str):=L.filterMap λp=>p.2.map λq=>(q.2,tJ p.1)
structure qq (K:Frag)(L:List (Str×Option (Addr×Addr))):Prop where
 names:L=jF.map λx=>(x,PySem.W.tabIn K x)
 apart:((wL L).map (·.1)).Nodup
 none:PySem.W.noTabs K=true
theorem lx {α M:Type}[BEq α][LawfulBEq α]:∀ {l:List (α×M)}{a:α}{b:M},(l.map (·.1)).Nodup->(a,b)∈l->l.lookup a=some b
 | (c,d)::l,a,b,nd,h=>by
  rw[lookup_cons];rcases vP h with e|h
  .cases e;simp
  .have ne:a≠c:=λz=>(nodup_cons.mp nd).1 (by grind);rw[show(a == c)=false by simpa using ne];exact lx (nodup_cons.mp nd).2 h
theorem jL {α M:Type}[BEq α][LawfulBEq α]:∀ {l:List (α×M)}{a:α}{b:M},l.lookup a=some b->(a,b)∈l
 | (c,d)::l,a,b,h=>by
  rw[lookup_cons]at h;cases e:a == c with
  |true=>simp_all
  |false=>rw[e]at h;exact mZ _ (jL h)
def qq.tb {K:Frag}{L:List (Str×Option (Addr×Addr))}(F:qq K L){H:Hp}(h:∀b q,(wL L).lookup b=some q->H b=some (.tbl q)):Tb K H:=λx hx c P e=>by
 refine h P _ (lx F.apart ?_);rw[F.names];exact mem_filterMap.mpr ⟨(x,PySem.W.tabIn K x),uS ⟨x,hx,rr⟩,by rw[e];rfl⟩
def tab_no {K:Frag}{x:Str}(e:nsIn K mainGlobals x=some none):PySem.W.tabIn K x=none:=by unfold PySem.W.tabIn;rw[e]
def tab_yes {K:Frag}{x:Str}{f c P:Addr}{oc O:Value}{od U:Option Addr}{nL M:Array (Option Value)}{fd:FuncData}{vs:AV}(a:nsIn K mainGlobals x=some (some (.ref f)))(e2:K.lookup f=some ⟨oc,od,.func fd,nL⟩)(b:fd.code=.ref c)
  (d:K.lookup c=some ⟨O,U,.fields vs,M⟩) (e:vs[11]? = some (.ref P)):PySem.W.tabIn K x=some (c,P):=by simp_all[PySem.W.tabIn]
def tabs_fit {K:Frag}{M O U a b:Option (Addr×Addr)}(h0:PySem.W.tabIn K "in_order" = M)(h1:PySem.W.tabIn K "has_seal" = O)(h2:PySem.W.tabIn K "is_first_death" = U)(h3:PySem.W.tabIn K "bases_by" = a)(h4:PySem.W.tabIn K "as_heard" = b)
  (ap:((wL [("in_order",M),("has_seal",O),("is_first_death",U),("bases_by",a),("as_heard",b)]).map (·.1)).Nodup) (nt:PySem.W.noTabs K=true):qq K [("in_order",M),("has_seal",O),("is_first_death",U),("bases_by",a),("as_heard",b)]:=
 ⟨by subst h0;subst h1;subst h2;subst h3;subst h4;rfl,ap,nt⟩
def bQ.law {P:Program}{w:World}{K:Frag}{mg:SV}{x y:Str}{st:Stmt}{N:LS}{k:Nat}{g:FS}{h:Heap}{fa:Addr}(F:bQ K x st)(X:K.In h)(G:h.Ns mainGlobals mg)(M:mg x=some (.ref fa))(S:FnScope N [y] (aH st))
  (O:∀(kV doc pm:Value)(an:Option Addr)(dR ct:Value)(u:Value),bindArgs (fnOf x x (fL st) (bT st) (aH st) .none kV doc pm an dR ct) ⟨[u],[]⟩=pure [(y,u)])
  (hb:∀(base:Heap),K.In base->base.Ns mainGlobals mg->∀(f:Addr)(dR:Value)(A:Around)(outer:List PySem.Env)(s:Shared)(H:Hp)(E:XK),dF k (A.deeper (envOfC x (aH st) s.z f dR))->yj (qw A7 P w K mg base N x (aH st) f dR A outer s H E).nox (bT st) g):
  ∃fd:FuncData,(∀(s:Shared)(u:Value),BindsTo s fd ⟨[u],[]⟩ [(y,u)])/\∀base:Heap,K.In base->base.Ns mainGlobals mg->t8 P w K mg base A7 (k+1) fa fd [y] (KW K (ax g 1 (N.length - 1))):=by
 obtain⟨f,fd,U,a⟩:=F;have e:=M.symm.trans (mg_of X G a);cases e
 refine⟨fd,λs u=>?_,λbase b c=>YW U S (hb _ b c _)⟩;obtain⟨oc,od,kV,doc,pm,an,dR,ct,nL,rfl,d,i⟩:=U.ex;exact .of_eq (O kV _ pm an _ ct u)
section
variable {X:Cx}{a b e:Expr}{pos:Pos}{x:Str}{p:Pos}
@[simp] noncomputable def UQ:D->D->OB
 |.lst xs,.lst ys=>if xs.length+ys.length<=sizeLine then some (.lst (xs++ys),true)else none
 |_,_=>none
def QH:cH X (binaryOp .Add) (rD X.K UQ):=by
 intro af s σ H x y v u Q I n r q;refine eS q λB dx E d bb c t w U q=>?_;cases t<;>try (cases U;done)
 all_goals (cases w<;>try (cases U;done))
 rename_i l vs ds h hl z ws es h' O;simp only[UQ]at U;split at U
 .rename_i hz;cases U
  cases n
  cases r
  refine I.lisE (c.seq h) λits f A G=>?_;refine I.lisE (c.seq h') λM g p2 J=>?_;obtain⟨⟨L,d1,N,s1⟩,i,C,n1,k1⟩:=A.isList;obtain⟨⟨c2,d2,P,s2⟩,j,e2,n2,k2⟩:=p2.isList;subst C;subst k1;subst e2;subst k2;have hsz:its.toArray.size+M.toArray.size<=sizeLine:=by
   rw[vH,vH,<-f.length,<-g.length,hl.length,O.length];exact hz
  have D:its.toArray++M.toArray=(its++M).toArray:=X9
  refine concat_meets ⟨_,i,rr⟩ ⟨_,j,rr⟩ noFill_list_add seq_list_add PySem.F.slot_list_add PySem.F.entry_list_add (PySem.F.args_list_add_2 _ _) (list_addW l z its.toArray M.toArray n1 n2 d1 d2 s1 s2 hsz) ⟨i,j,?_⟩;rw[D];have k:=Ext.laid (o:=.lst (vs++ws)) c I.fresh;have m:=(hl.append O).mono k.bn;exact⟨.ref _,_,I.lnew (f.append g) (by rw[uZ,hl.length,O.length];exact hz),rr,q _ _ _ k (.lst (eO.of au) m) λ_=>⟨_,_,_,rr,rr,I.fresh,au,m⟩⟩
 simp_all
@[simp] noncomputable def AY:D->D->OB
 |.tup xs,.tup ys=>if xs.length+ys.length<=sizeLine/\xs.isEmpty=false then some (.tup (xs++ys),false)else none
 |_,_=>none
def HJ:cH X (binaryOp .Add) (rD X.K AY):=by
 refine io L1 λx y H Q q=>?_;refine eS q λB dx j d bb U f g O q=>?_;cases f<;>try (cases O)
 all_goals (cases g<;>try (cases O))
 rename_i l vs ds h hl i ws es h' M;simp only[AY]at O;split at O
 .cases O
  have l1:=hl.length;have l2:=M.length;refine⟨l,i,vs,ws,rr,rr,aT U h,aT U h',λz=>?_,N9,λz=>?_,λ_ pp hp=>?_⟩
  .grind
  .subst z;cases M
   rw[uQ]at q;exact q.one U (.tup h hl)
  .have c:=Ext.laid (o:=.tup (vs++ws)) U hp;exact q _ _ _ c (.tup (gR.of au) ((hl.append M).mono c.bn)) X9
 simp_all
@[simp] noncomputable def Zc:D->D->OB
 |.bl i,.int j=>some (.int ((if i=true then 1 else 0)+j),false)
 |.int i,.bl j=>some (.int (i+b2i j),false)
 |_,_=>none
def QI:cH X (binaryOp .Add) (rD X.K Zc):=by
 intro af s σ H x y v u Q I O U q;refine eS q λB dx h d bb c f g M q=>?_;cases f<;>try (cases M)
 all_goals (cases g<;>try (cases M;done))
 .cases M
  cases O
  obtain⟨t,rfl⟩:=U;exact IntBool.add_bool_int ⟨.int _,H,I.tok _,⟨_,rr⟩,q.one c (.int _)⟩
 .cases M
  exact EM _ s σ H _ _ v u Q I O U ⟨_,_,rr,rr,q.one c (.int _)⟩
noncomputable def j0:D->D->OB
 |.int i,.int j=>some (.int (i+j),false)
 |.str i,.str j=>if i.length+j.length<=sizeLine then some (.str (i++j),false)else none
 |.lst xs,.lst ys=>if xs.length+ys.length<=sizeLine then some (.lst (xs++ys),true)else none
 |.tup xs,.tup ys=>if xs.length+ys.length<=sizeLine/\xs.isEmpty=false then some (.tup (xs++ys),false)else none
 |.bl i,.int j=>some (.int ((if i=true then 1 else 0)+j),false)
 |.int i,.bl j=>some (.int (i+b2i j),false)
 |_,_=>none
@[simp] def zz0 (i j:Int):j0 (.int i) (.int j)=some (.int (i+j),false):=rfl
@[simp] def zz1 (i j:Str):j0 (.str i) (.str j)=if i.length+j.length<=sizeLine then some (.str (i++j),false)else none:=rfl
@[simp] def zz2 (i j:LD):j0 (.lst i) (.lst j)=if i.length+j.length<=sizeLine then some (.lst (i++j),true)else none:=rfl
@[simp] def zz3 (i j:LD):j0 (.tup i) (.tup j)=if i.length+j.length<=sizeLine/\i.isEmpty=false then some (.tup (i++j),false)else none:=rfl
@[simp] def zz4 (i:Bool)(j:Int):j0 (.bl i) (.int j)=some (.int ((if i=true then 1 else 0)+j),false):=rfl
@[simp] def zz5 (i:Int)(j:Bool):j0 (.int i) (.bl j)=some (.int (i+b2i j),false):=rfl
def QJ:cH X (binaryOp .Add) (rD X.K j0):=by
 refine io (nR Mh (nR QH (nR HJ QI))) λx y H Q q=>?_;refine eS q λB dx M d bb O U c f q=>?_;refine⟨B,dx,M,d,bb,O,U,c,?_,q⟩;cases dx<;>try (cases f)
 all_goals (cases M<;>try (cases f;done))
 all_goals simp_all[SN]
@[simp] noncomputable def Zd:D->Option Bool
 |.bl b=>some b
 |_=>none
def tK:LD->Option (List Bool)
 |[]=>some []
 |d::ds=>(Zd d).bind λb=>(tK ds).map (b :: ·)
@[simp] def UR:tK []=some []:=rfl
@[simp] def SQ (d:D)(ds:LD):tK (d::ds)=(Zd d).bind λb=>(tK ds).map (b :: ·):=rfl
theorem wM {K:Frag}{B:Hp}:∀ {vs:LV}{ds:LD}{bs:List Bool}{its:LU},L2.aL vs its->IsL K B vs ds->tK ds=some bs->its=bs.map Value.bool
 |_,_,_,_,.nil,.nil,e=>by cases e;rfl
 |_,_,_,_,.cons r O,.cons i U,e=>by
  refine eX e λb M e=>?_;refine eR e λbs e2 e=>?_;subst e;cases i<;>simp [Zd]at M<;>try (cases M;done)
  cases M
  cases r
  rw[wM O U e2];rfl
@[simp] def Mk:LD->OB
 |[.lst ds]=>(tK ds).map λbs=>(.bl (bs.all id),false)
 |_=>none
@[simp] def QK:LD->OB
 |[.lst ds]=>(tK ds).map λbs=>(.bl (bs.any id),false)
 |_=>none
def US (hc:X.calm=true):b8 X (.builtin "all") (A8 X.K Mk):=by
 intro af s σ H xs us Q I rs q;refine e5 q λB ds d bb k i M q=>?_;cases i with
 |nil=>cases M
 |cons i1 i=>
  cases i with
  |cons _ _=>cases i1<;>cases M
  |nil=>
   cases i1<;>try (cases M;done)
   rename_i l vs es h hl;refine eR M λbs m M=>?_;cases M
   obtain⟨z,rfl,n⟩:=fZ rs;cases n
   refine I.lisE (k.seq h) λits r f C=>?_;have ei:=wM r hl m;have t:l<s.z:=by obtain⟨_,O,_⟩:=f.isList;exact vX O
   refine call_all_walk (wpAny_pyIter_list f.isList ⟨_,_,_,_,_,_,λj=>(bs[j]?).getD true,rr,Walks.list (A:=X.A.in1) (I.ok.hd hc) _ l (vS t) _,⟨⟨_,vY _ rr,rr,rr⟩,f.isList.push _⟩,λj v s' D E u g=>?_,λh' tk hk=>?_⟩)
   .have U:=by simpa using u
    rw[ei,vA]at U;refine eR U λc w e2=>?_;subst e2;dsimp only at g;rw[w]at g;exact wpAny_truthy_bool g
   .have y:((List.range its.toArray.size).all λj=>(bs[j]?).getD true)=bs.all id:=by
     simp_all[LSm.range_all]
    rw[y];refine⟨.bl _,H,I.kept λc o O=>?_,rr,q.one k (.bl _)⟩;exact hk c o (λhm=>by rw[uT hm]at O;exact Nat.lt_irrefl _ (vX O)) (vZ _ O)
def UT (hc:X.calm=true):b8 X (.builtin "any") (A8 X.K QK):=by
 intro af s σ H xs us Q I rs q;refine e5 q λB ds d bb k i M q=>?_;cases i with
 |nil=>cases M
 |cons i1 i=>
  cases i with
  |cons _ _=>cases i1<;>cases M
  |nil=>
   cases i1<;>try (cases M;done)
   rename_i l vs es h hl;refine eR M λbs m M=>?_;cases M
   obtain⟨z,rfl,n⟩:=fZ rs;cases n
   refine I.lisE (k.seq h) λits r f C=>?_;have ei:=wM r hl m;have t:l<s.z:=by obtain⟨_,O,_⟩:=f.isList;exact vX O
   refine call_any_walk (wpAny_pyIter_list f.isList ⟨_,_,_,_,_,_,λj=>(bs[j]?).getD false,rr,Walks.list (A:=X.A.in1) (I.ok.hd hc) _ l (vS t) _,⟨⟨_,vY _ rr,rr,rr⟩,f.isList.push _⟩,λj v s' D E u g=>?_,λh' tk hk=>?_⟩)
   .have U:=by simpa using u
    rw[ei,vA]at U;refine eR U λc w e2=>?_;subst e2;dsimp only at g;rw[w]at g;exact wpAny_truthy_bool g
   .have y:((List.range its.toArray.size).any λj=>(bs[j]?).getD false)=bs.any id:=by
     simp_all[LSm.range_any]
    rw[y];refine⟨.bl _,H,I.kept λc o O=>?_,rr,q.one k (.bl _)⟩;exact hk c o (λhm=>by rw[uT hm]at O;exact Nat.lt_irrefl _ (vX O)) (vZ _ O)
def UU:bootBuiltins "any" = some (.builtin "any"):=S9
end
noncomputable def O7 (z:Str):It:=⟨λi _=>i<z.cps.size,λi H v H'=>H'=H/\∃c,z.cps[i]? = some c/\v=.str ⟨#[c]⟩,λi _=>z.cps.size<=i⟩
def yx {P:Program}{w:World}{K:Frag}{tg:Expr}(z:Str)(t:Tok)(it:Addr):Turn P w K tg (O7 z) [it] it (λi h=>h.IsStrIter it "str_ascii_iterator" z t i) where
 mem:=mem_singleton.mpr rr
 obj:=λi h st b hb=>by
  have g:=uT hb;obtain⟨o,O,_,d1⟩:=st;simp_all
 keep:=λi h h' st k=>let ⟨o,O,r⟩:=st;⟨o,k it (mem_singleton.mpr rr) o O,r⟩
 item:=by
  intro X j hw l hc i af s σ H E I hf st U;have m:i<z.cps.size:=U;obtain⟨a,f1,f2,d,e,f⟩:=hf it (mem_singleton.mpr rr);refine wpAny_pyNext_ascii_item st (c:=z.cps[i]) (by simp ) λh' M n=>?_;obtain⟨o,O,p,d1⟩:=id M;exact⟨_,rr,qt O p d1 H9 ⟨.str _,H,I.turned (λb o hb e2=>(n.2 b hb).trans e2) a f1 d e f,⟨_,rr⟩,⟨rr,_,by simp ,rr⟩,M,λb hb=>(hf b hb).1⟩⟩
 done:=by
  intro X j hw l hc i af s σ H E I hf st U;have m:z.cps.size<=i:=U;obtain⟨a,f1,f2,d,e,f⟩:=hf it (mem_singleton.mpr rr);exact wpAny_pyNext_ascii_end (I.ok.hd hc) st s9 λh' g=>⟨rr,I.turned (λb o hb e2=>g b o hb e2) a f1 d e f⟩
 self:=λ_ _ _ _ _ st h=>wpAny_pyIter_striter_ascii st h
def yy {P:Program}{w:World}{K:Frag}{tg:Expr}(z:Str)(t:Tok)(it:Addr):Turn P w K tg (O7 z) [it] it (λi h=>h.IsStrIter it "str_iterator" z t i) where
 mem:=mem_singleton.mpr rr
 obj:=λi h st b hb=>by
  have g:=uT hb;obtain⟨o,O,_,d1⟩:=st;simp_all
 keep:=λi h h' st k=>let ⟨o,O,r⟩:=st;⟨o,k it (mem_singleton.mpr rr) o O,r⟩
 item:=by
  intro X j hw l hc i af s σ H E I hf st U;have m:i<z.cps.size:=U;obtain⟨a,f1,f2,d,e,f⟩:=hf it (mem_singleton.mpr rr);refine wpAny_pyNext_wide_item st (c:=z.cps[i]) (by simp ) λh' M n=>?_;obtain⟨o,O,p,d1⟩:=id M;exact⟨_,rr,qt O p d1 H9 ⟨.str _,H,I.turned (λb o hb e2=>(n.2 b hb).trans e2) a f1 d e f,⟨_,rr⟩,⟨rr,_,by simp ,rr⟩,M,λb hb=>(hf b hb).1⟩⟩
 done:=by
  intro X j hw l hc i af s σ H E I hf st U;have m:z.cps.size<=i:=U;obtain⟨a,f1,f2,d,e,f⟩:=hf it (mem_singleton.mpr rr);exact wpAny_pyNext_wide_end (I.ok.hd hc) st s9 λh' g=>⟨rr,I.turned (λb o hb e2=>g b o hb e2) a f1 d e f⟩
 self:=λ_ _ _ _ _ st h=>wpAny_pyIter_striter_wide st h
section
variable {X:Cx}{a b e:Expr}{pos:Pos}{x:Str}{p:Pos}{tg:Expr}
def HK {l:Expr}{tl:TE}(hl:PE X l tl):PI X tg l (λσ H R=>tl σ H λx M=>∃z,x=.str z/\R (O7 z) M):=by
 intro af s σ H R I h;refine bJ (hl _ s σ H _ I h) λv s1 ⟨x,M,O,U,c⟩=>?_;obtain⟨z,rfl,q⟩:=c;obtain⟨t,rfl⟩:=U;have fp:∀b∈[s1.z],lf X _ M b:=λb hb=>by
  rw[uT hb];exact O.fpOk (vT _) (O.hok.fresh (vT _))
 cases ha:z.cps.all _ with
 |true=>exact wpAny_pyIter_ascii ha ⟨_,[s1.z],_,_,M,rr,O.kept λb o e=>vZ _ e,yx z t _,⟨_,vY _ rr,rr,rr⟩,fp,q⟩
 |false=>exact wpAny_pyIter_wide ha ⟨_,[s1.z],_,_,M,rr,O.kept λb o e=>vZ _ e,yy z t _,⟨_,vY _ rr,rr,rr⟩,fp,q⟩
noncomputable def yz (z:Str):LD:=z.cps.toList.map λc=>.str ⟨#[c]⟩
def HL {K:Frag}{B:Hp}(z:Str):m4 K (O7 z) B (yz z):=by
 intro i H s;refine⟨λd ed=>?_,λhl=>by unfold yz at hl;show z.cps.size<=i;simp_all⟩;unfold yz at ed;rw[vA]at ed;obtain⟨c,U,rfl⟩:=oY ed;have M:=by simpa using U
 refine⟨(Array.getElem?_eq_some_iff.mp M).1,λv H' hy=>?_⟩;obtain⟨rfl,f,O,rfl⟩:=hy;rw[M]at O;cases O;exact⟨B,.refl s,.str _⟩
@[simp] def QL:D->Option LD
 |.lst ds=>some ds
 |.tup ds=>some ds
 |.str z=>some (yz z)
 |_=>none
@[simp] def c9 (f:FE):FA:=λρ=>(f ρ).bind λx=>QL x.1
def QM (h:JE X e f):JI X tg e (c9 f):=by
 intro af s σ H R I q;obtain⟨B,ρ,ds,M,r,O,q⟩:=q;refine eX O λU ex es=>?_;obtain⟨xd,g⟩:=U;cases xd with
 |lst l=>exact Cy h _ s σ H R I ⟨B,ρ,ds,M,r,by unfold HG;rw[ex];exact es,q⟩
 |tup l=>exact Cy h _ s σ H R I ⟨B,ρ,ds,M,r,by unfold HG;rw[ex];exact es,q⟩
 |str z=>
  cases es
  refine HK h _ s σ H R I ⟨B,ρ,_,_,M,r,ex,λv c N1 d i1 _=>?_⟩;cases i1
  exact⟨z,rr,q _ c N1 d (HL z)⟩
 |_=>cases es
def Ml:G3 X (λx lo hi H Q=>∃z,x=.str z/\z.length<=sizeLine/\Q (.str (Txt.slice z lo hi)) H):=by
 intro af s σ H x v vl c lo hi sl Q I U hs pl O h;obtain⟨z,rfl,hz,q⟩:=h;obtain⟨t,rfl⟩:=U;have dQ:∀lo hi,Q (.str (Txt.slice z lo hi)) H->(Txt.slice z lo hi).length<=sizeLine/\∀t' k,EP X af σ Q _ _:=λlo hi q=>
  ⟨vR (Txt.slice_le z _ _) hz,λt' k=>⟨.str _,H,I.tok k,⟨t',rr⟩,q⟩⟩
 refine⟨"str",_,PySem.F.slot_str_getitem.lookup,typeIs_str _ _ _,?_⟩;cases pl with
 |none=>
  cases O with
  |none=>exact wpAny_getItem_str_slice (l:=none) (u:=none) (st:=none) hs rr (post_val_or_str (dQ _ _ q))
  |int j M=>exact wpAny_getItem_str_slice (l:=none) (u:=some (j,M)) (st:=none) hs rr (post_val_or_str (dQ _ _ q))
 |int i ti=>
  cases O with
  |none=>exact wpAny_getItem_str_slice (l:=some (i,ti)) (u:=none) (st:=none) hs rr (post_val_or_str (dQ _ _ q))
  |int j M=>exact wpAny_getItem_str_slice (l:=some (i,ti)) (u:=some (j,M)) (st:=none) hs rr (post_val_or_str (dQ _ _ q))
def Fg {A:Around}{E:QV}{s:Shared}{prog:Program}{w:World}{t sl:Addr}{items:AV}{vl d:Value}{lo hi:OI}{Q:QV}(M:IsTup s.heap t items)(hs:s.heap.IsSliceOf sl vl d .none)(pl:IsPart vl lo)(f:IsPart d hi)
  (h0:HT.df items.size 0 lo=0) (h1:HT.df items.size items.size hi=items.size) (h:Q (.ref t) s):wpAny (model prog w) A (getItem (.ref t) (.ref sl)) Q E s:=by
 obtain⟨os,O,U,i⟩:=id hs
 have g:s.TypeIs (.ref sl) _:=⟨os,O,U⟩
 unfold getItem
 try with_reducible refine wpAny_holding ?_
 refine wX (wpAny_sequenceKey M.typeIs H9 ?_)
 refine wX (wpAny_callSpecial?_slot M.typeIs PyProof.Rows.slot_tuple_getitem (wpAny_call_entry PyProof.Rows.slot_tuple_getitem M.typeIs entry_tuple_getitem ?_ (args_tuple_getitem _ _)))
 show wpAny _ _ (Builtin.Tuple.tupleItemsOf _>>=_) _ _ s
 refine wX (tupleItemsOf_ M ?_)
 refine wX (wpAny_typeOf g ?_)
 refine wX (HT.iD hs pl f ?_)
 have c:(((HT.df items.size 0 lo:Nat):Int) == 0 && (1:Int) == 1 && (HT.df items.size items.size hi - HT.df items.size 0 lo) == items.size)=true:=by
  rw[h0,h1];simp
 show wpAny _ _ (if(((HT.df _ 0 lo:Nat):Int) == 0 && (1:Int) == 1 && (HT.df _ _ hi - HT.df _ 0 lo) == items.size)=true then _ else _) _ _ s
 rw[if_pos c]
 refine wX ?_
 refine wX (wpAny_typeOf M.typeIs (wY ?_))
 refine wX (wpAny_rule ?_)
 exact wY ⟨_,rr,wY h⟩
def Mm:G3 X (λx lo hi H Q=>∃a xs,x=.ref a/\gR X.K H a xs/\HT.df xs.length 0 lo=0/\HT.df xs.length xs.length hi=xs.length/\Q (.ref a) H):=by
 intro af s σ H x v vl d lo hi sl Q I U hs pl c h;obtain⟨a,xs,rfl,hx,h0,h1,q⟩:=h;cases U
 refine I.tupE hx λits r O hz=>?_;have M:its.toArray.size=xs.length:=by exact r.length.symm
 refine⟨"tuple",_,PyProof.Rows.slot_tuple_getitem.lookup,O.typeIs,?_⟩;exact Fg O hs pl c (by rw[M];exact h0) (by rw[M];exact h1) ⟨.ref a,H,I,rr,q⟩
@[simp] def G6 (fa:FE)(fl M:FO):FE:=λρ=>(fa ρ).bind λx=>(fl ρ).bind λl=>(M ρ).bind λh=>match x.1 with
 |.lst ds=>some (.lst (gT ds l h),true)
 |.tup ds=>some (.tup (gT ds l h),false)
 |.str z=>if z.length<=sizeLine then some (.str (Txt.slice z l h),false)else none
 |_=>none
def AZ {ds:LD}{lo hi:OI}(h0:HT.df ds.length 0 lo=0)(h1:HT.df ds.length ds.length hi=ds.length):gT ds lo hi=ds:=by
 unfold gT;rw[h0,h1];simp
def HM {lo hi:Option Expr}{p2:Pos}{fa:FE}{fl g:FO}(ha:JE X e fa)(hl:JO X lo fl)(hh:JO X hi g):JE X (.Subscript e (.Slice lo hi none p2) pos) (G6 fa fl g):=by
 refine PE.to (GU (G3.or (G3.or L5 Qa) (G3.or Ml Mm)) ha hl hh) λσ H Q q=>?_;obtain⟨B,ρ,d,b,i,r,e,q⟩:=q;refine eX e λx ex e=>?_;refine eX e λl j e=>?_;refine eX e λh k e=>?_;refine⟨B,ρ,x.1,x.2,i,r,ex,λv n N1 M i1 _=>⟨N1,ρ,l,M.nh,r.mono M.bn,j,λH2 h2=>⟨N1,ρ,h,M.nh.trans h2,r.mono M.bn,k,λm h3=>?_⟩⟩⟩;have O:aJ N1 m:=M.nh.trans (h2.trans h3);have c:=q.into (M.trans (.grow M.nh (h2.trans h3)));obtain⟨xd,s⟩:=x;cases i1 with
 |@tup f vs ds hs hv=>
  cases e
  by_cases hw:HT.df ds.length 0 l=0/\HT.df ds.length ds.length h=ds.length
  .rw[AZ hw.1 hw.2]at c;exact .inr (.inr ⟨f,vs,rr,aT O hs,by rw[hv.length];exact hw.1,by rw[hv.length];exact hw.2,c.one O (.tup hs hv)⟩)
  .refine .inl (.inr ⟨f,vs,rr,aT O hs,by rw[hv.length];exact hw,λp hp=>?_⟩);have U:=Ext.laid (o:=.tup (tG vs l h)) O hp;exact c _ _ _ U (.tup (gR.of au) ((wI hv).mono U.bn)) X9
 |@lst f vs ds hs hv=>
  cases e
  refine .inl (.inl ⟨f,vs,rr,O.seq hs,λp hp=>?_⟩);have U:=Ext.laid (o:=.lst (tG vs l h)) O hp;exact c _ _ _ U (.lst (eO.of au) ((wI hv).mono U.bn)) λ_=>⟨p,_,_,rr,rr,hp,au,(wI hv).mono U.bn⟩
 |str z=>
  dsimp only at e;split at e
  .rename_i hz;cases e
   exact .inr (.inl ⟨z,rr,hz,c.one O (.str _)⟩)
  simp_all
 |_=>cases e
def const_int {K:Frag}{y:Str}{i:Int}{t:Tok}(e:nsIn K mainGlobals y=some (some (.int i t))):∃u v,nsIn K mainGlobals y=some (some u)/\aC v u/\∀B,Is K B v (.int i):=⟨_,.int i,e,⟨t,rr⟩,λ_=>.int i⟩
noncomputable def wN:Value->D->Bool
 |.none,.non=>true
 |.bool a,.bl b=>a == b
 |.int i _,.int j=>decide (i=j)
 |.str i _,.str j=>decide (i=j)
 |_,_=>false
def iZ:LU->LD->Bool
 |[],[]=>true
 |u::us,d::ds=>wN u d && iZ us ds
 |_,_=>false
theorem kH {K:Frag}{B:Hp}:∀ {u:Value}{d:D},wN u d=true->∃v,aC v u/\Is K B v d
 |.none,.non,_=>⟨.non,rr,.non⟩
 |.bool a,.bl b,h=>by
  have:=eq_of_beq h;subst this;exact⟨.bl a,rr,.bl a⟩
 |.int i t,.int j,h=>by
  have:=xQ h;subst this;exact⟨.int i,⟨t,rr⟩,.int i⟩
 |.str i t,.str j,h=>by
  have:=xQ h;subst this;exact⟨.str i,⟨t,rr⟩,.str i⟩
theorem ja {K:Frag}:∀ {us:LU}{ds:LD},iZ us ds=true->∃vs,L2.aL vs us/\∀B,IsL K B vs ds
 |[],[],_=>⟨[],.nil,λ_=>.nil⟩
 |u::us,d::ds,h=>by
  rw[iZ,vC]at h;obtain⟨vs,r,i⟩:=ja h.2;obtain⟨v,O,_⟩:=kH (K:=K) (B:=λ_=>none) h.1;refine⟨v::vs,.cons O r,λB=>?_⟩;obtain⟨U,M,c⟩:=kH h.1;have:U=v:=by have f:=O.abs;rw[M.abs]at f;simp_all
  subst this;exact .cons c (i B)
def const_tup {K:Frag}{y:Str}{a:Addr}{od:Option Addr}{its:AV}{n:Nat}{nL:Array (Option Value)}{ds:LD}(e:nsIn K mainGlobals y=some (some (.ref a)))
  (l:K.lookup a=some ⟨.type "tuple",od,.seq its n,nL⟩) (h:(decide (its.size<=1000) && iZ its.toList ds)=true):∃u v,nsIn K mainGlobals y=some (some u)/\aC v u/\∀B,Is K B v (.tup ds):=by
 rw[vC]at h;obtain⟨vs,r,i⟩:=ja h.2;exact⟨_,.ref a,e,rr,λB=>.tup (.inr ⟨_,its,n,l,rr,rr,le_of_lt (lt_of_le_of_lt (xQ h.1) H9),r⟩) (i B)⟩
end
section
variable {X:Cx}{a b o e:Expr}{pos:Pos}{x:Str}{p:Pos}{tg:Expr}
def QN {name:Str}{id:String}{cn bS:Pos}{op:D->D->OB}{fo fe:FE}(slot:Slot "str" name id)(i:typeOf (.builtin id)=pure (.type "method_descriptor"))
  (hm:Ue X id (λx xs H Q=>∃y,xs=[y]/\rD X.K op x y H Q)) (j:∀dx k r,op dx k=some r->∃z,dx=.str z) (ho:JE X o fo) (he:JE X e fe)
  (M:attributeBase o name X.env (eval o X.env)=eval o X.env)
  (l:oQ bS e X.env)
  (O:(cn.endLine == bS.line)=true) (hs:cM e X.env):
  JE X (.Call (.Attribute o name cn) [e] [] bS) (f2 op fo fe):=by
 refine PE.to (xZ PySem.F.plainAttrs_str slot i hm ho (de he fF hs) M l O hs rr) λσ H Q q=>?_;obtain⟨B,ρ,d,bb,m,r,c,q⟩:=q;refine eX c λg ex c=>?_;refine eX c λf n c=>?_;obtain⟨z,hz⟩:=j _ _ _ c;refine⟨B,ρ,g.1,g.2,m,r,ex,λv t N1 U i1 _=>?_⟩;rw[hz]at i1;cases i1
 refine⟨show "str" = "str" from rr,N1,ρ,f.1,f.2,U.nh,r.mono U.bn,n,λs H2 N2 h i2 _=>⟨s,rr,N2,.str z,f.1,d,bb,h.nh,.str z,i2,by rw[<-hz];exact c,q.into (U.trans h)⟩⟩
@[simp] noncomputable def QO:D->Option Str
 |.str z=>some z
 |_=>none
def eP:LD->Option LS
 |[]=>some []
 |d::ds=>(QO d).bind λz=>(eP ds).map (z :: ·)
@[simp] def SR:eP []=some []:=rfl
@[simp] def QP (d:D)(ds:LD):eP (d::ds)=(QO d).bind λz=>(eP ds).map (z :: ·):=rfl
@[simp] def SS (zs:LS):eP (zs.map D.str)=some zs:=by
 induction zs with
 |nil=>rfl
 |cons z zs M=>simp[M]
theorem iH {K:Frag}{B:Hp}:∀ {vs:LV}{ds:LD}{zs:LS}{its:LU},L2.aL vs its->IsL K B vs ds->eP ds=some zs->StrsAre its zs
 |_,_,_,_,.nil,.nil,e=>by cases e;exact .nil
 |_,_,_,_,.cons r O,.cons i U,e=>by
  refine eX e λz M e=>?_;refine eR e λzs e2 e=>?_;subst e;cases i<;>simp [QO]at M<;>try (cases M;done)
  cases M
  obtain⟨t,rfl⟩:=r;exact .cons _ t (iH O U e2)
@[simp] def HN:D->D->OB
 |.str M,.lst ds=>(eP ds).bind λzs=>if(zs.map (·.length)).sum+zs.length*M.length<=16777216 then some (.str (Txt.join M zs),false)else none
 |.str M,.tup ds=>(eP ds).bind λzs=>if(zs.map (·.length)).sum+zs.length*M.length<=16777216 then some (.str (Txt.join M zs),false)else none
 |_,_=>none
def QQ:Ue X "str.join" (λx xs H Q=>∃y,xs=[y]/\rD X.K HN x y H Q):=by
 intro af s σ H x xs v us Q I i rs h;obtain⟨y,rfl,B,dx,n,d,bb,O,j,l,M,q⟩:=h;obtain⟨r,rfl,g⟩:=fZ rs;cases j<;>(try (simp at M))
 obtain⟨t,rfl⟩:=i;cases l<;>(try (simp at M;done))
 .rename_i h hl;refine eX M λzs U M=>?_;split at M
  .rename_i hok;cases M
   cases g
   refine I.tupE (aT O h) λits c f m=>?_;exact join_tuple f (by simpa using iH c hl U) hok λt' k=>⟨.str _,H,I.tok k,⟨t',rr⟩,q.one O (.str _)⟩
  simp_all
 .rename_i h hl;refine eX M λzs U M=>?_;split at M
  .rename_i hok;cases M
   cases g
   refine I.lisE (O.seq h) λits c f m=>?_;exact join_list f.isList (by simpa using iH c hl U) hok λt' k=>⟨.str _,H,I.tok k,⟨t',rr⟩,q.one O (.str _)⟩
  simp_all
def HP (dx M:D)(r:D×Bool)(h:HN dx M=some r):∃z,dx=.str z:=by
 cases dx<;>first|exact⟨_,rr⟩|(cases M<;>simp at h)
noncomputable def gX:LN->LD->Env->Option Env
 |[],[],ρ=>some ρ
 |i::is,d::ds,ρ=>gX is ds (ρ.set i (some (d,false)))
 |_,_,_=>none
@[simp] def SU (ρ:Env):gX [] [] ρ=some ρ:=by rw[gX]
@[simp] def Ba (i:Nat)(is:LN)(d:D)(ds:LD)(ρ:Env):gX (i::is) (d::ds) ρ=gX is ds (ρ.set i (some (d,false))):=by rw[gX]
@[simp] def UV (d:D)(ds:LD)(ρ:Env):gX [] (d::ds) ρ=none:=by simp only[gX]
@[simp] def UW (i:Nat)(is:LN)(ρ:Env):gX (i::is) [] ρ=none:=by simp only[gX]
@[simp] def HQ (is:LN):FG:=λd ρ=>match d with|.tup ds=>gX is ds ρ|_=>none
def lK:LN->P6
 |[]=>TF
 |i::is=>Ox (iB i) (lK is)
def HR:aJ (dA N (own σ ρ)) (dA N (own (σ.set i (some v)) (ρ.set i (some (d,false))))):=dC λa u e q=>⟨e,λz=>q (by
 rcases wA z with⟨_,d',p⟩|⟨j,_,d',M,q2⟩
 .cases p
 .exact⟨j,d',M,q2⟩)⟩
theorem uj {K:Frag}:∀ {is:LN}{vs:LV}{ds:LD}{B0 H0 N H:Hp}{σ:St}{ρ ρ':Env}{Q:St->Hp->Prop},dc K B0 H0 N H σ ρ->IsL K (dA N (own σ ρ)) vs ds->gX is ds ρ=some ρ'->(∀M,dc K B0 H0 N H M ρ'->Q M H)->lK is vs σ H Q
 |[],_,_,_,_,_,_,_,_,_,_,s,.nil,e,k=>by
  cases e
  exact⟨rr,k _ s⟩
 |[],_,_,_,_,_,_,_,_,_,_,_,.cons _ _,e,_=>by simp at e
 |_::_,_,_,_,_,_,_,_,_,_,_,_,.nil,e,_=>by simp at e
 |i::is,_,_,_,_,_,_,_,_,_,_,s,.cons h hs,e,k=>by
  exact⟨_,_,rr,uj (s.bind h) (hs.mono HR) e k⟩
theorem nU:∀ {is:LN}{ds:LD}{ρ ρ':Env},gX is ds ρ=some ρ'->ds.length=is.length
 |[],[],_,_,_=>rr
 |_::_,_::_,_,_,e=>by rw[Ba]at e;simp[nU e]
 |[],_::_,_,_,e=>by simp at e
 |_::_,[],_,_,e=>by simp at e
def UX {K:Frag}{is:LN}:KU K (HQ is) (GG K is.length (lK is)):=by
 intro B0 H0 N H σ ρ ρ' v d Q s h e k;cases h with
 |@tup a vs ds O hl=>
  have M:=e;exact⟨a,vs,rr,aT (bv.trans s.ext.nh) O,by rw[hl.length];exact nU M,uj s hl M λU s'=>k _ H ⟨N,s'⟩⟩
 |_=>cases e
theorem ul {K:Frag}{n:Nat}{B H:Hp}{M:Env}{Q:St->Hp->Prop}(cl:∀i,i<n->M[i]? = some none):∀ {is:LN}{vs:LV}{ds:LD}{σ:St}{ρ U:Env},(∀i∈is,i<n)->eK K B σ ρ->IsL K B vs ds->gX is ds ρ=some U->ρ.length=σ.length->ρ.length=M.length ->
  (∀O,eK K B O U->(∀c,eK K c σ M->eK K c O M)->M.length=O.length->Q O H)->lK is vs σ H Q
 |[],_,_,_,_,_,_,rp,.nil,e,l1,l2,k=>by
  cases e
  exact⟨rr,k _ rp (λ_ z=>z) N9⟩
 |[],_,_,_,_,_,_,_,.cons _ _,e,_,_,_=>by simp at e
 |_::_,_,_,_,_,_,_,_,.nil,e,_,_,_=>by simp at e
 |i::is,_,_,σ,ρ,_,hn,rp,.cons h hs,e,l1,l2,k=>by
  have hi:=hn i mX;have m:i<σ.length:=by
   grind
  refine⟨_,_,rr,ul cl (λj hj=>hn j (mZ _ hj)) ⟨rp.tb,λj d b q=>?_⟩ hs e (by simpa using l1) (by simpa using l2) λO f g l=>k _ f (λc z=>g c ⟨z.tb,λj d b q=>?_⟩) l⟩
  .rcases bC q with⟨rfl,pp⟩|⟨ne,pp⟩
   .simp_all
   .obtain⟨w,h1,h2⟩:=rp.at' j d b pp;simp_all
  .obtain⟨w,h1,h2⟩:=z.at' j d b q;have ne:i≠j:=λz=>by grind
   exact⟨w,by simp_all,h2⟩
def HS {K:Frag}{n:Nat}{is:LN}(hn:∀i∈is,i<n):LP K n (HQ is) (GG K is.length (lK is)):=by
 intro B H σ ρ O v d Q cl rep s h e hl k;cases h with
 |@tup a vs ds U hv=>
  have M:=e;exact⟨a,vs,rr,aT s U,by rw[hv.length];exact nU M,ul cl hn rep hv M hl rr k⟩
 |_=>cases e
end
section
variable {prog:Program}{w:World}{A:Around}{E:QV}{s:Shared}
def Bb (st:s.heap.IsTupleIter it l i)(M:s.heap.IsTuple l items)(hv:items[i]? = some v)
  (k:∀h',h'.IsTupleIter it l (i+1)->Heap.SameBut it s.heap h'->Q v { s with heap:=h' }):wpAny (model prog w) A (Builtin.SmallTypes.nextOf (.ref it)) Q E s:=by
 obtain⟨a,g1,O,d1⟩:=id st;obtain⟨b,U,_,n2,d2⟩:=M;refine wX (wpAny_callSpecial?_slot st.typeIs slot_tuple_iterator_next (wpAny_call_entry slot_tuple_iterator_next st.typeIs PySem.F.entry_tuple_iterator_next ?_ (PySem.F.args_tuple_iterator_next_1 _)));show wpAny _ _ (field _ 0>>=_) _ _ _;refine wX (wpAny_field g1 d1 rr ?_);refine wX (wpAny_field g1 d1 rr ?_);refine wX (wpAny_seqItems U d2 ?_);simp [hv,Int.toNat_natCast];refine wX (wpAny_setField g1 d1 X9 (wY ⟨v,rr,wY (k _ ?_ (vW ..))⟩));exact⟨_,Heap.get?_update_self _ g1 (Obj.isFreed_of_fields (Obj.data_mapFields d1 _)),(Obj.cls_mapFields ..).trans O,by rw[Obj.data_mapFields d1];simp[rawInt]⟩
def Fh (M:A.handled=none)(st:s.heap.IsTupleIter it l i)(O:s.heap.IsTuple l items)(hv:items[i]? = none)
  (k:∀h' x,Heap.ExtBut it s.heap h'->(∃o,h'.get? x=some o/\o.cls=.type "StopIteration")->E (.ref x) { s with heap:=h' }):wpAny (model prog w) A (Builtin.SmallTypes.nextOf (.ref it)) Q E s:=by
 obtain⟨a,g1,b,d1⟩:=id st;obtain⟨c,U,_,n2,d2⟩:=O;refine wX (wpAny_callSpecial?_slot st.typeIs slot_tuple_iterator_next (wpAny_call_entry slot_tuple_iterator_next st.typeIs PySem.F.entry_tuple_iterator_next ?_ (PySem.F.args_tuple_iterator_next_1 _)));show wpAny _ _ (field _ 0>>=_) _ _ _;refine wX (wpAny_field g1 d1 rr ?_);refine wX (wpAny_field g1 d1 rr ?_);refine wX (wpAny_seqItems U d2 ?_);simp [hv,Int.toNat_natCast];refine wX (wpAny_rule (wX (wpAny_setField g1 d1 X9 ?_)));refine wX ?_;refine wX (m:=firstArgMember _ _) (wpAny_of_eq I9 ?_);refine wpAny_newObj_type ?_ X8;refine wX (wpAny_handled ?_);first|rw[M]|rw[show A.in1.handled=none from M]
 exact wX (wY (wpAny_throw (k _ _ (((vW ..).extBut.push _).push _) ⟨_,vY _ rr,rr⟩)))
end
def j7:Bool->Heap->Addr->Addr->Nat->Prop
 |true,h,it,a,i=>h.IsListIter it a i
 |false,h,it,a,i=>h.IsTupleIter it a i
def lh (k:Bool)(K:Frag)(H:Hp)(a:Addr)(xs:LV):Prop:=match k with|true=>eO K H a xs|false=>gR K H a xs
def j7.ob (st:j7 k h it a i):∃o,h.get? it=some o/\∀v,o.data≠.cell v:=by
 cases k<;>(obtain⟨o,g,_,d⟩:=st;simp_all)
def j7.upon (st:j7 k h it a i)(g:∀o,h.get? it=some o->h'.get? it=some o):j7 k h' it a i:=by
 cases k<;>(obtain⟨o,e,r⟩:=st;exact⟨o,g o e,r⟩)
def jJ.upon (st:jJ k h a items)(g:∀o,h.get? a=some o->h'.get? a=some o):jJ k h' a items:=by
 cases k<;>(obtain⟨o,e,r⟩:=st;exact⟨o,g o e,r⟩)
def jJ.lt (st:jJ k h a items):a<h.objs.size:=by
 cases k<;>(obtain⟨o,e,r⟩:=st;exact vX e)
theorem lh.same {k:Bool}{K:Frag}{H H':Hp}{a:Addr}{xs:LV}(h:lh k K H a xs)(e:aJ H H'):lh k K H' a xs:=by
 cases k
 .exact aT e h
 .exact e.seq h
def lh.vals (I:Inv X af σ H s)(h:lh k X.K H a xs):∃its:LU,aL xs its/\jJ k s.heap a its.toArray/\xs.length<=sizeLine:=by
 cases k
 .exact I.tuple h
 .refine I.lisE h λits r p z=>?_;exact⟨its,r,p.isList,z⟩
def lh.inj (I:Inv X af σ H s)(h:lh k X.K H a xs)(h':lh k X.K H a ys):xs=ys:=by
 cases k
 .exact I.tuple_inj h h'
 .exact I.list_inj h h'
section
variable {prog:Program}{w:World}{A:Around}{E:QV}{s:Shared}
def eV (st:j7 k s.heap it l i)(M:jJ k s.heap l items)(hv:items[i]? = some v)
  (q:∀h',j7 k h' it l (i+1)->Heap.SameBut it s.heap h'->Q v { s with heap:=h' }):wpAny (model prog w) A (Builtin.SmallTypes.nextOf (.ref it)) Q E s:=by
 cases k
 .exact Bb st M hv q
 .exact wpAny_nextOf_list_item st M hv q
def iI (M:A.handled=none)(st:j7 k s.heap it l i)(O:jJ k s.heap l items)(hv:items[i]? = none)
  (q:∀h' x,Heap.ExtBut it s.heap h'->(∃o,h'.get? x=some o/\o.cls=.type "StopIteration")->E (.ref x) { s with heap:=h' }):wpAny (model prog w) A (Builtin.SmallTypes.nextOf (.ref it)) Q E s:=by
 cases k
 .exact Fh M st O hv q
 .exact wpAny_nextOf_list_end M st O hv q
end
noncomputable def Mn (k:Bool)(l:Addr):Obj:={ cls:=.type (if k=true then "list_iterator" else "tuple_iterator"),data:=.fields #[.ref l,.int 0 0] }
def mC (M:jJ k s.heap l items)
  (q:Q (.ref s.z) { s with heap:=s.heap.push (Mn k l) }):wpAny (model prog w) A (pyIter (.ref l)) Q E s:=by
 cases k
 .exact wpAny_pyIter_tuple M q
 .exact wpAny_pyIter_list M q
def jJ.push (st:jJ k h a items)(o:Obj):jJ k (h.push o) a items:=st.upon λ_ e=>vZ _ e
section
variable (k1 k2:Bool) (h:Heap) (l1 l2:Addr)
abbrev zA:Heap:=h.push (Mn k1 l1)
abbrev zB:Heap:=(zA k1 h l1).push (Mn k2 l2)
abbrev zC:Heap:=(zB k1 k2 h l1 l2).push { cls:=.type "tuple",data:=.seq #[.ref h.objs.size,.ref (zA k1 h l1).objs.size] }
abbrev zD:Heap:=(zC k1 k2 h l1 l2).push { cls:=.type "tuple",data:=.seq #[.none,.none] }
abbrev zE:Heap:=(zD k1 k2 h l1 l2).push { cls:=.type "zip",data:=.fields #[.none,.bool false,.bool false,.ref (zB k1 k2 h l1 l2).objs.size,.ref (zC k1 k2 h l1 l2).objs.size] }
end
def Bc (k1 k2:Bool)(l1 l2:Addr)(xs ys:AV):Meets (Builtin.«zip.__new__» ⟨[.type "zip",.ref l1,.ref l2],[]⟩) (λ_ R s=>jJ k1 s.heap l1 xs/\jJ k2 s.heap l2 ys /\
   R (.ok (.ret (.ref (zD k1 k2 s.heap l1 l2).objs.size))) { s with heap:=zE k1 k2 s.heap l1 l2 }):=
 .of_wp λprog w A R s hs=>by
  obtain⟨hp,g,d,tk,os⟩:=s;obtain⟨O,q2,hs⟩:=hs;have M:=sub_zip;have U:=O;have p2:jJ k2 (Shared.heap ⟨hp.push (Mn k1 l1),g,d,tk,os⟩) l2 ys:=jJ.push q2 _;wp_walk using mC U,mC p2;exact⟨_,rr,hs⟩
section
variable {prog:Program}{w:World}{A:Around}{E:QV}{s:Shared}
def Mo (h:jJ k1 s.heap l1 xs)(q2:jJ k2 s.heap l2 ys)
  (q:∀h',IsZip h' (s.z+4) (s.z+2) (s.z+3) .none->IsPair h' (s.z+2) (.ref s.z) (.ref (s.z+1))->IsPair h' (s.z+3) .none .none ->
   j7 k1 h' s.z l1 0->j7 k2 h' (s.z+1) l2 0->(∀c o,s.heap.get? c=some o->h'.get? c=some o)->Q (.ref (s.z+4)) { s with heap:=h' }):
  wpAny (model prog w) A (call (.type "zip") [.ref l1,.ref l2]) Q E s:=by
 refine callType_new PySem.F.called_zip H9 (PySem.F.typeCall_zip_2 _ _) (PySem.F.newCall_zip_2 _ _) (λobj=>PySem.F.args_object_init_3 obj _ _) PySem.F.entry_zip_new (Bc k1 k2 l1 l2 xs ys) ⟨h,q2,?_⟩;have n1:(zA k1 s.heap l1).objs.size=s.z+1:=Heap.size_push ..;have n2:(zB k1 k2 s.heap l1 l2).objs.size=s.z+2:=by rw[Heap.size_push,n1]
 have n3:(zC k1 k2 s.heap l1 l2).objs.size=s.z+3:=by rw[Heap.size_push,n2]
 have n4:(zD k1 k2 s.heap l1 l2).objs.size=s.z+4:=by rw[Heap.size_push,n3]
 have O:∀ {c o},(zD k1 k2 s.heap l1 l2).get? c=some o->(zE k1 k2 s.heap l1 l2).get? c=some o:=λe=>vZ _ e;have U:∀ {c o},(zC k1 k2 s.heap l1 l2).get? c=some o->(zE k1 k2 s.heap l1 l2).get? c=some o:=λe=>O (vZ _ e);have a:∀ {c o},(zB k1 k2 s.heap l1 l2).get? c=some o->(zE k1 k2 s.heap l1 l2).get? c=some o:=λe=>U (vZ _ e);have b:∀ {c o},(zA k1 s.heap l1).get? c=some o->(zE k1 k2 s.heap l1 l2).get? c=some o:=λe=>a (vZ _ e);have i:∀ {c o},s.heap.get? c=some o->(zE k1 k2 s.heap l1 l2).get? c=some o:=λe=>b (vZ _ e);have M:(zE k1 k2 s.heap l1 l2).get? _=some _:=vY _ rr;have d:=O (vY _ rr);have f:=U (vY _ rr);have g:=a (vY _ (by cases k2<;>rfl))
 have g1:=b (vY _ (by cases k1<;>rfl))
 rw[n2,n3,n4]at M;rw[n1,n2]at f;rw[n3]at d;rw[n1]at g;show _/\_;rw[n4];refine⟨⟨_,M,rr⟩,q _ M f d ?_ ?_ λc o e=>i e⟩
 .cases k1<;>exact⟨_,g1,rr,rr⟩
 .cases k2<;>exact⟨_,g,rr,rr⟩
structure ZApart (z TI TO i1 i2:Addr):Prop where
 tz:TI≠z
 oz:TO≠z
 az:i1≠z
 bz:i2≠z
 oa:TO≠i1
 ob:TO≠i2
 to:TI≠TO
 ta:TI≠i1
 tb:TI≠i2
 ab:i1≠i2
structure ZA (z TI TO i1 i2 l1 l2:Addr):Prop where
 D:ZApart z TI TO i1 i2
 m1:l1≠z/\l1≠TO/\l1≠i1
 m2:l2≠z/\l2≠TO/\l2≠i1/\l2≠i2
def y0 {k1 k2:Bool}{z TI TO i1 i2 l1 l2:Addr}{j:Nat}{xs ys:AV}{x y a b:Value}{Q:QV}(Z:ZA z TI TO i1 i2 l1 l2)
  (hz:IsZip s.heap z TI TO .none) (R:IsPair s.heap TI (.ref i1) (.ref i2)) (T:IsPair s.heap TO a b) (V:j7 k1 s.heap i1 l1 j) (W:j7 k2 s.heap i2 l2 j) (X:jJ k1 s.heap l1 xs) (q2:jJ k2 s.heap l2 ys) (hx:xs[j]? = some x) (hy:ys[j]? = some y)
  (q:∀h',IsZip h' z TI TO (rawInt s.z)->IsPair h' TO x y->j7 k1 h' i1 l1 (j+1)->j7 k2 h' i2 l2 (j+1)->IsPair h' s.z x y->h'.objs.size=s.z+1->IsPair h' TI (.ref i1) (.ref i2) ->
   (∀c o,c∉[z,TI,TO,i1,i2]->s.heap.get? c=some o->h'.get? c=some o)->Q (.ref s.z) { s with heap:=h' }):
  wpAny (model prog w) A (Builtin.«zip.__next__» ⟨[.ref z],[]⟩) (λdQ s'=>∃v,dQ=.done (.ret v)/\Q v s') E s:=by
 obtain⟨D,m1,m2⟩:=Z;show wpAny _ _ (field (.ref z) 2>>=_) _ _ s;refine wX (wpAny_field hz rr (x:=.bool false) rr ?_);show wpAny _ _ (field (.ref z) 3>>=_) _ _ s;refine wX (wpAny_field hz rr (x:=.ref TI) rr (wX (wpAny_seqItems R rr ?_)));refine wX ?_;unfold Builtin.SmallTypes.ownedTupleIsFree;refine wX (wpAny_field hz rr (x:=.none) rr (wY ?_));simp only[if_true];refine wX (wpAny_rule (wX (wpAny_field hz rr (x:=.ref TO) rr (wX (wpAny_setField_rec hz X9 λg1 d s1=>?_)))));replace d:IsZip g1 z TI TO .ellipsis:=d;refine wX ?_;refine wX (wX (wpAny_onRaise ?_));refine wX (eV (s:={ s with heap:=g1 }) (V.upon λo e=>s1.extBut _ _ D.az e) (X.upon λo e=>s1.extBut _ _ m1.1 e) hx λY C s2=>wY ?_);have S:IsPair Y TO a b:=s2.extBut _ _ D.oa (s1.extBut _ _ D.oz T);refine wX (wpAny_seqItems S rr (wX (wpAny_updateSeq_pair S λF f u=>?_)));replace f:IsPair F TO x b:=f;refine wX (wpAny_letGo (wY (wX (wX (wpAny_onRaise ?_)))));have G:∀ {c o},c≠z->c≠TO->c≠i1->s.heap.get? c=some o->F.get? c=some o:=λg c2 c3 e=>u.extBut _ _ c2 (s2.extBut _ _ c3 (s1.extBut _ _ g e));refine wX (eV (s:={ s with heap:=F }) (W.upon λo e=>G D.bz D.ob.symm D.ab.symm e) (q2.upon λo e=>G m2.1 m2.2.1 m2.2.2.1 e) hy λg4 H h=>wY ?_);have i:IsPair g4 TO x b:=h.extBut _ _ D.ob f;refine wX (wpAny_seqItems i rr (wX (wpAny_updateSeq_pair i λM U k=>?_)));replace U:IsPair M TO x y:=U;refine wX (wpAny_letGo (wY (wY (wX (wpAny_seqItems U rr (wX (wpAny_newTuple ?_)))))));have sz:M.objs.size=s.z:=by rw[k.1,h.1,u.1,s2.1,s1.1]
 have l:∀c o,c≠z->c≠TO->c≠i1->c≠i2->s.heap.get? c=some o->M.get? c=some o:=λc o g c2 c3 c4 e=>k.extBut _ _ c2 (h.extBut _ _ c4 (G g c2 c3 e));have m:IsZip M z TI TO .ellipsis:=k.extBut _ _ D.oz.symm (h.extBut _ _ D.bz.symm (u.extBut _ _ D.oz.symm (s2.extBut _ _ D.az.symm d)));have I:j7 k1 M i1 l1 (j+1):=C.upon λo e=>k.extBut _ _ D.oa.symm (h.extBut _ _ D.ab (u.extBut _ _ D.oa.symm e));have J:j7 k2 M i2 l2 (j+1):=H.upon λo e=>k.extBut _ _ D.ob.symm e;have n:z<M.objs.size:=vX m;refine wX ?_;unfold Builtin.SmallTypes.ownedTupleHandOut;have K:IsZip (M.push { cls:=.type "tuple",data:=.seq #[x,y] }) z TI TO .ellipsis:=vZ _ m;refine wX (wpAny_setField_rec K X9 λg7 L N=>?_);refine wpAny_setField_rec L X9 λB p P=>?_;have O:∀c o,c≠z->M.get? c=some o->B.get? c=some o:=λc o g e=>P.extBut _ _ g (N.extBut _ _ g (vZ _ e));have r:IsPair B M.objs.size x y:=P.extBut _ _ (ne_of_gt n) (N.extBut _ _ (ne_of_gt n) (vY _ rr));have t:B.objs.size=M.objs.size+1:=by rw[P.1,N.1,Heap.size_push]
 rw[sz]at p r t;refine wY ⟨_,rr,?_⟩;show Q (.ref M.objs.size) _;rw[sz];exact q B p (O _ _ D.oz U) (I.upon λo e=>O _ o D.az e) (J.upon λo e=>O _ o D.bz e) r t (O _ _ D.tz (l _ _ D.tz D.to D.ta D.tb R)) λc o hc e=>by
  simp at hc;exact O c o hc.1 (l c o hc.1 hc.2.2.1 hc.2.2.2.1 hc.2.2.2.2 e)
end
section
variable {prog:Program}{w:World}{A:Around}{E:QV}{s:Shared}
def Cz {k1 k2:Bool}{z TI TO i1 i2 l1 l2:Addr}{j:Nat}{xs ys:AV}{a b:Value}{Q:PySem.Fin->Shared->Prop}(n:A.handled=none)(Z:ZA z TI TO i1 i2 l1 l2)
  (hz:IsZip s.heap z TI TO .none) (B:IsPair s.heap TI (.ref i1) (.ref i2)) (C:IsPair s.heap TO a b) (p:j7 k1 s.heap i1 l1 j) (F:j7 k2 s.heap i2 l2 j) (r:jJ k1 s.heap l1 xs) (q2:jJ k2 s.heap l2 ys) (he:xs[j]? = none\/ys[j]? = none)
  (q:∀h' x,(∀c o,c∉[z,TI,TO,i1,i2]->s.heap.get? c=some o->h'.get? c=some o)->(∃o,h'.get? x=some o/\o.cls=.type "StopIteration")->E (.ref x) { s with heap:=h' }):
  wpAny (model prog w) A (Builtin.«zip.__next__» ⟨[.ref z],[]⟩) Q E s:=by
 obtain⟨D,m1,m2⟩:=Z;show wpAny _ _ (field (.ref z) 2>>=_) _ _ s;refine wX (wpAny_field hz rr (x:=.bool false) rr ?_);refine wX (wpAny_field hz rr (x:=.ref TI) rr (wX (wpAny_seqItems B rr ?_)));refine wX ?_;refine wX (wpAny_field hz rr (x:=.none) rr (wY ?_));simp only[if_true];refine wX (wpAny_rule (wX (wpAny_field hz rr (x:=.ref TO) rr (wX (wpAny_setField_rec hz X9 λg1 O s1=>?_)))));refine wX ?_;refine wX (wX (wpAny_onRaise ?_));cases hx:xs[j]? with
 |none=>
  refine wX (iI (s:={ s with heap:=g1 }) n (p.upon λo e=>s1.extBut _ _ D.az e) (r.upon λo e=>s1.extBut _ _ m1.1 e) hx λf x s2 hX=>?_);obtain⟨g,h,i⟩:=hX;have k:IsZip f z TI TO .ellipsis:=s2 _ _ D.az.symm O;have l:x≠z:=λG=>by lia
  exact wpAny_setField_rec k X9 λd _ U=>q d x (λc o hc e=>by simp at hc;exact U.extBut _ _ hc.1 (s2 _ _ hc.2.2.2.1 (s1.extBut _ _ hc.1 e))) ⟨g,U.extBut _ _ l h,i⟩
 |some v=>
  have hy:ys[j]? = none:=by
   lia
  refine wX (eV (s:={ s with heap:=g1 }) (p.upon λo e=>s1.extBut _ _ D.az e) (r.upon λo e=>s1.extBut _ _ m1.1 e) hx λf H s2=>wY ?_);have t:IsPair f TO a b:=s2.extBut _ _ D.oa (s1.extBut _ _ D.oz C);refine wX (wpAny_seqItems t rr (wX (wpAny_updateSeq_pair t λd I U=>?_)));refine wX (wpAny_letGo (wY (wX (wX (wpAny_onRaise ?_)))));have M:∀ {c o},c≠z->c≠TO->c≠i1->s.heap.get? c=some o->d.get? c=some o:=λJ c2 c3 e=>U.extBut _ _ c2 (s2.extBut _ _ c3 (s1.extBut _ _ J e));refine wX (iI (s:={ s with heap:=d }) n (F.upon λo e=>M D.bz D.ob.symm D.ab.symm e) (q2.upon λo e=>M m2.1 m2.2.1 m2.2.2.1 e) hy λK x u hX=>?_);obtain⟨g,h,i⟩:=hX;have m:IsZip K z TI TO .ellipsis:=u _ _ D.bz.symm (U.extBut _ _ D.oz.symm (s2.extBut _ _ D.az.symm O));have l:x≠z:=λG=>by lia
  exact wpAny_setField_rec m X9 λL _ y=>q L x (λc o hc e=>by simp at hc;exact y.extBut _ _ hc.1 (u _ _ hc.2.2.2.2 (M hc.1 hc.2.2.1 hc.2.2.2.1 e))) ⟨g,y.extBut _ _ l h,i⟩
end
def kI {X:Cx}{af:AO}{σ:St}{H:Hp}{s:Shared}{h':Heap}{t':Nat}{ch:List Addr}(I:Inv X af σ H s)(f:∀b∈ch,lf X af H b)(k:∀b o,b∉ch->s.heap.get? b=some o->h'.get? b=some o):Inv X af σ H { s with heap:=h',toks:=t' }:=by
 have M:∀b u,H b=some u->b∉ch:=λb u e z=>by rw[(f b z).1]at e;cases e
 refine I.step (λb hb=>?_) (λb o _ _ hc e _=>k b o hc e) (λb o _ _ hc e _=>⟨o.slots,k b o hc e⟩) (λ_ _ _ _ n=>n)
  (λb o hc e=>⟨o,k b o hc e⟩) (λ_ _ e=>e) (λ_ _ _ e=>e) (λ_ _ e=>e) (λm hm=>?_) (λb u e=>?_) I.bare
 .obtain⟨_,f1,_,O,U,a⟩:=f b hb;exact⟨O,f1,U,a⟩
 .obtain⟨o,es,d,ho,r⟩:=hm;exact⟨o,es,d,k _ o (λz=>(f _ z).2.1 rr) ho,r⟩
 .refine(I.hok b u e).stay (λc v hc q=>k c v ?_ q) (λ_ q=>q) (λ_ _ q=>q) λ_ _ _ q=>q;grind
def C0 {X:Cx}{af:AO}{σ:St}{H:Hp}{s:Shared}{h':Heap}{t':Nat}{ch:List Addr}{a:Addr}{ob:HO}(I:Inv X af σ H s)(f:∀b∈ch,lf X af H b)(k:∀b o,b∉ch->s.heap.get? b=some o->h'.get? b=some o)(ha:s.z<=a)
  (new:bf X.prog X.w (upd H a ob) h' a ob):Inv X af σ (upd H a ob) { s with heap:=h',toks:=t' }:=by
 have hn:H a=none:=I.hok.fresh ha;have M:∀b u,H b=some u->b∉ch:=λb u e z=>by rw[(f b z).1]at e;cases e
 have O:∀b o,s.heap.get? b=some o->b≠a:=λb o e=>vS (vQ (vX e) ha);refine I.step (ch:=ch) (λb hb=>?_) (λb o _ _ hc e _=>k b o hc e) (λb o _ _ hc e _=>⟨o.slots,k b o hc e⟩) (λb o _ e n=>by rw[a8 (O b o e)];exact n)
  (λb o hc e=>⟨o,k b o hc e⟩) (λb xs e=>by rw[a8 (aO e hn)];exact e) (λb o u e=>by rw[a8 (aO e hn)];exact e) (λb ps e=>by rw[a8 (aO e hn)];exact e) (λm hm=>?_) (λb u e=>?_) I.bare
 .obtain⟨_,f1,_,U,d,g⟩:=f b hb;exact⟨U,f1,d,g⟩
 .obtain⟨o,es,h,ho,r⟩:=hm;exact⟨o,es,h,k _ o (λz=>(f _ z).2.1 rr) ho,r⟩
 .by_cases hb:b=a
  .simp_all[au]
  .rw[a8 hb]at e;refine(I.hok b u e).stay (λc v hc q=>k c v ?_ q) (λc q=>?_) (λc xs q=>?_) λc o xs q=>?_
   .grind
   .rw[a8 (aO q hn)];exact q
   .rw[a8 (aO q hn)];exact q
   .rw[a8 (aO q hn)];exact q
noncomputable def Ze (K:Frag)(k1 k2:Bool)(M O:Addr):It:=
  ⟨λi H=>∃xs ys x y,lh k1 K H M xs/\lh k2 K H O ys/\xs[i]? = some x/\ys[i]? = some y,
   λi H v H'=>∃T x y,v=.ref T/\H T=none/\H'=upd H T (.tup [x,y])/\(∀xs,lh k1 K H M xs->xs[i]? = some x)/\(∀ys,lh k2 K H O ys->ys[i]? = some y),
   λi H=>∃xs ys,lh k1 K H M xs/\lh k2 K H O ys/\(xs.length<=i\/ys.length<=i)⟩
def HU {P:Program}{w:World}{K:Frag}{es:QD}{C:Nat}{pt:Pos}{k1 k2:Bool}{l m z TI TO i1 i2:Addr}(Z:ZA z TI TO i1 i2 l m):
  Turn P w K (.Tuple es C pt) (Ze K k1 k2 l m) [z,TI,TO,i1,i2] z (λi h=>IsZip h z TI TO .none/\IsPair h TI (.ref i1) (.ref i2)/\(∃a b,IsPair h TO a b)/\j7 k1 h i1 l i/\j7 k2 h i2 m i) where
 mem:=X9
 obj:=λi h st b hb=>by
  obtain⟨hz,d,⟨a,c,f⟩,O,U⟩:=st;simp at hb;rcases hb with rfl|rfl|rfl|rfl|rfl
  .simp_all
  .simp_all
  .simp_all
  .exact O.ob
  .exact U.ob
 keep:=λi h h' st k=>by
  obtain⟨hz,d,⟨a,c,f⟩,O,U⟩:=st;exact⟨k z X9 _ hz,k TI X9 _ d,⟨a,c,k TO X9 _ f⟩,O.upon λo e=>k i1 X9 o e,U.upon λo e=>k i2 X9 o e⟩
 item:=by
  intro X n hw p hc i af s σ H E I hf st r;subst n hw p;obtain⟨hz,d,⟨a,c,f⟩,O,U⟩:=st;obtain⟨xs,ys,x,y,j,q2,hx,hy⟩:=r;obtain⟨its,t,A,F⟩:=j.vals I;obtain⟨G,B,p2,J⟩:=q2.vals I;obtain⟨u,hu,ru⟩:=t.get hx;obtain⟨v,hv,L⟩:=B.get hy;have g:s.TypeIs (.ref z) "zip":=⟨_,hz,rr⟩;have fresh:H s.z=none:=I.hok.fresh (vT _);have lt:∀ {c o},s.heap.get? c=some o->c≠s.z:=λe=>vS (vX e);have l1:i1≠s.z:=by obtain⟨o,e,_⟩:=O.ob;exact lt e
  have l2:i2≠s.z:=by obtain⟨o,e,_⟩:=U.ob;exact lt e
  unfold pyNext;refine wX (wpAny_attempt (wpAny_callSpecial?_slot (name:=Str.ofString "__next__") g slot_zip_next (wpAny_call_entry slot_zip_next g entry_zip_next (y0 Z hz d f O U A p2 (by simpa using hu) (by simpa using hv) λh' b1 b2 b3 b4 N b6 Q bk=>wY ?_) (args_zip_next_1 _))));refine⟨_,rr,wpAny_letOwnedTupleGo_zip (s:={ s with heap:=h' }) b1 λh2 R s2=>?_⟩;have M:Heap.SameBut z h' h2:=s2;have S:∀b o,b∉[z,TI,TO,i1,i2]->s.heap.get? b=some o->h2.get? b=some o:=λb o hb e=>
   M.extBut _ _ (λq=>hb (by simp[q])) (bk b o hb e)
  have V:s.z≠z:=(lt hz).symm;have new:bf X.prog X.w (upd H s.z (.tup [x,y])) h2 s.z (.tup [x,y]):=⟨by show 2<=sizeLine;decide,[u,v],.cons ru (.cons L .nil),⟨_,M.extBut _ _ V N,rr,_,rr⟩⟩;refine⟨.ref s.z,upd H s.z (.tup [x,y]),?_,rr,⟨_,x,y,rr,fresh,rr,λzs hq=>by rw[lh.inj I hq j];exact hx,λzs hq=>by rw[lh.inj I hq q2];exact hy⟩,?_,λb hb=>?_⟩
  .exact C0 (s:=s) (t':=s.toks) I hf S (vT _) new
  .exact⟨R,M.extBut _ _ Z.D.tz Q,⟨_,_,M.extBut _ _ Z.D.oz b2⟩,b3.upon λo e=>M.extBut _ _ Z.D.az e,b4.upon λo e=>M.extBut _ _ Z.D.bz e⟩
  .have W:b≠s.z:=by
    simp at hb;rcases hb with rfl|rfl|rfl|rfl|rfl
    .exact lt hz
    .exact lt d
    .exact lt f
    .exact l1
    .exact l2
   rw[a8 W];exact(hf b hb).1
 done:=by
  intro X n hw p hc i af s σ H E I hf st r;subst n hw p;obtain⟨hz,d,⟨a,c,f⟩,O,U⟩:=st;obtain⟨xs,ys,j,q2,hl⟩:=r;obtain⟨its,t,A,F⟩:=j.vals I;obtain⟨G,B,p2,J⟩:=q2.vals I;have g:s.TypeIs (.ref z) "zip":=⟨_,hz,rr⟩;have n1:=t.length;have n2:=B.length;unfold pyNext;refine wX (wpAny_attempt (wpAny_callSpecial?_slot (name:=Str.ofString "__next__") g slot_zip_next (wpAny_call_entry slot_zip_next g entry_zip_next (Cz (I.ok.hd hc) Z hz d f O U A p2 (hl.imp (λq=>by simp;lia) λq=>by simp;lia) λh' x hk hX=>?_) (args_zip_next_1 _))));obtain⟨o,Y,co⟩:=hX;refine wX (wpAny_isInstance (T:="StopIteration") (b:=true) ⟨o,Y,co⟩ isSubtype_stop (wY ⟨rr,?_⟩));exact kI (t':=s.toks) I hf hk
 self:=λ_ _ _ _ _ st h=>wpAny_pyIter_zip st.1 h
section
variable {X:Cx}{a b e:Expr}{pos:Pos}{p:Pos}
def O8:bootBuiltins "zip" = some (.type "zip"):=S9
def UY (K:Frag)(ta:TA):TI:=λσ H R=>ta σ H λvs M=>∃(k1 k2:Bool)(l1 l2:Addr)(xs ys:LV),vs=[.ref l1,.ref l2]/\lh k1 K M l1 xs/\lh k2 K M l2 ys/\R (Ze K k1 k2 l1 l2) M
def y4 {Q:QV}{E:QV}{A:Around}(M:Inv X af σ H1 s1)(h1:lh k1 X.K H1 l1 xs)(h2:lh k2 X.K H1 l2 ys)
  (q:∀h' z TI TO i1 i2,Inv X af σ H1 { s1 with heap:=h' }->ZA z TI TO i1 i2 l1 l2->IsZip h' z TI TO .none->IsPair h' TI (.ref i1) (.ref i2)->IsPair h' TO .none .none->j7 k1 h' i1 l1 0->j7 k2 h' i2 l2 0->(∀b∈[z,TI,TO,i1,i2],lf X af H1 b)->Q (.ref z) { s1 with heap:=h' }):
  wpAny (model X.prog X.w) A (call (.type "zip") [.ref l1,.ref l2]) Q E s1:=by
 obtain⟨its,i,U,j⟩:=h1.vals M;obtain⟨k,l,p2,m⟩:=h2.vals M;have V0:=U.lt;have c:=p2.lt;refine Mo U p2 λh' d c2 c3 f g h=>q h' _ _ _ _ _ (M.kept (t':=s1.toks) h) ⟨by constructor<;>simp,N9,N9⟩ d c2 c3 f g λb hb=>?_
 have O:s1.z<=b:=by
  grind
 exact M.fpOk O (M.hok.fresh O)
def QR {es:QD}{d:Nat}{pt:Pos}{ta:TA}(f:Gl X "zip")(hm:X.mg "zip" = none)(ha:PA X [a,b] ta)(hs:starEach [a,b] X.env=[(false,eval a X.env),(false,eval b X.env)]:=by rfl)(M:cM b X.env:=by rfl):
  PI X (.Tuple es d pt) (.Call (.Name "zip" p) [a,b] [] pos) (UY X.K ta):=by
 intro af s σ H R I h;refine Call_ (fE I f hm O8 (PyProof.Rows.callWith_type1 (bJ (ha _ _ s σ H _ I h) λus s1 ⟨vs,g,i,j,k⟩=>?_) (by rw[hs,M]) (by rw[M];rfl)));obtain⟨k1,k2,l1,l2,xs,ys,rfl,h1,h2,q⟩:=k;obtain⟨n,o,rfl,O,U⟩:=j.two;cases O
 cases U
 exact y4 i h1 h2 λh' z TI TO i1 i2 J Z c c2 c3 l m fp=>wpAny_pyIter_zip c ⟨_,_,_,_,g,rr,J,HU Z,⟨c,c2,⟨_,_,c3⟩,l,m⟩,fp,q⟩
noncomputable def gU (xs ys:LD):LD:=List.zipWith (λx y=>.tup [x,y]) xs ys
@[simp] def Fi (fa M:FE):FA:=λρ=>(fa ρ).bind λx=>(M ρ).bind λy=>(f7 x.1).bind λxs=>(f7 y.1).map λys=>gU xs ys
def y6 {K:Frag}{B:Hp}{v:V}{d:D}{ds:LD}(h:Is K B v d)(e:f7 d=some ds):∃k a vs,v=.ref a/\lh k K B a vs/\IsL K B vs ds:=by
 cases h with
 |tup M hl=>cases e;exact⟨false,_,_,rr,M,hl⟩
 |lst M hl=>cases e;exact⟨true,_,_,rr,M,hl⟩
 |_=>cases e
def QS {H s}(I:Inv X af σ H s)(h1:lh k1 X.K N l1 vs)(i1:IsL X.K N vs ds)(h2:lh k2 X.K N l2 ws)(i2:IsL X.K N ws es):m4 X.K (Ze X.K k1 k2 l1 l2) N (gU ds es):=by
 intro i H' M;have n1:=i1.length;have n2:=i2.length;refine⟨λd ed=>?_,λhl=>⟨vs,ws,h1.same M,h2.same M,?_⟩⟩
 .unfold gU at ed;rw[List.getElem?_zipWith]at ed;cases O:ds[i]? with
  |none=>rw[O]at ed;simp at ed
  |some x=>
   cases e2:es[i]? with
   |none=>rw[O,e2]at ed;simp at ed
   |some y=>
    rw[O,e2]at ed;simp at ed;subst ed;obtain⟨v,ev,iv⟩:=i1.get O;obtain⟨w,c,h⟩:=i2.get e2;refine⟨⟨vs,ws,v,w,h1.same M,h2.same M,ev,c⟩,λr H2 hy=>?_⟩;obtain⟨T,k,l,rfl,j,rfl,f1,f2⟩:=hy;have f:=f1 vs (h1.same M);have g:=f2 ws (h2.same M);rw[ev]at f;cases f;rw[c]at g;cases g;have U:=Ext.laid (o:=.tup [v,w]) M j;exact⟨_,U,.tup (gR.of au) (.cons (iv.mono U.bn) (.cons (h.mono U.bn) .nil))⟩
 grind[gU]
def QT {es:QD}{h:Nat}{pt:Pos}{fa g:FE}(hm:X.mg "zip" = none)(ha:JE X a fa)(hb:JE X b g)(i:Gl X "zip")(hs:starEach [a,b] X.env=[(false,eval a X.env),(false,eval b X.env)])(O:cM b X.env):
  JI X (.Tuple es h pt) (.Call (.Name "zip" p) [a,b] [] pos) (Fi fa g):=by
 intro af s σ H R I q;refine QR i hm (fM ha (fM hb lH O) (by rw[dv,hs,O])) hs O _ s σ H R I ?_;obtain⟨B,ρ,ds,j,r,M,q⟩:=q;refine eX M λk ex M=>?_;refine eX M λl m M=>?_;refine eX M λxs U M=>?_;refine eR M λys c M=>?_;subst M;refine⟨B,ρ,[k.1,l.1],j,r,by simp[ex,m],λvs n N1 d i1=>?_⟩;cases i1 with
 |cons o f=>
  cases f with
  |cons f t=>
   cases t
   obtain⟨k1,l1,us,rfl,s1,m1⟩:=y6 o U;obtain⟨k2,l2,ws,rfl,s2,m2⟩:=y6 f c;exact⟨k1,k2,l1,l2,us,ws,rr,s1.same d.nh,s2.same d.nh,q _ n N1 d (QS I s1 m1 s2 m2)⟩
end
noncomputable def unown1 (ρ:Env)(i:Nat):Env:=match ρ[i]? with
 |some (some (d,true))=>ρ.set i (some (d,false))
 |_=>ρ
def dc.unown1 {K:Frag}{B0 H0 N H:Hp}{σ:St}{ρ:Env}(s:dc K B0 H0 N H σ ρ)(i:Nat):dc K B0 H0 N H σ (unown1 ρ i):=by
 unfold DL.unown1;split
 .rename_i d hd;obtain⟨a,ob,h1,h2,h3,h4⟩:=s.ow i d hd;have get:∀ {j:Nat}{e:D}{b:Bool},(ρ.set i (some (d,false)))[j]? = some (some (e,b))->(i=j/\e=d/\b=false)\/(i≠j/\ρ[j]? = some _):=λq=>by
   rcases bC q with⟨z,p⟩|⟨z,p⟩
   .cases p;exact .inl ⟨z,rr,rr⟩
   .exact .inr ⟨z,p⟩
  have o:∀c,own σ (ρ.set i (some (d,false))) c->own σ ρ c/\c≠a:=λc ⟨j,e,O,q2⟩=>by
   rcases get O with⟨_,_,z⟩|⟨ne,q⟩
   .cases z
   .exact⟨⟨j,e,q,q2⟩,λz=>by subst z;exact ne (s.inj i j _ _ _ hd q h1 q2)⟩
  have c:aJ (dA N (own σ ρ)) _:=dC λb u e q=>⟨e,λz=>q (o b z).1⟩;have U:=λz=>(o a z).2 rr;refine⟨s.bh,s.tb,s.ext,by rw[length_set];exact s.len,λj e q=>?_,λj e q=>?_,λj k b e f q M g h=>?_⟩
  .rcases get q with⟨rfl,rfl,_⟩|⟨_,q⟩
   .exact⟨_,h1,(h4.mono c).is (by rw[cz U];exact h2)⟩
   .obtain⟨v,k1,k2⟩:=s.sh j e q;exact⟨v,k1,k2.mono c⟩
  .rcases get q with⟨_,_,z⟩|⟨_,q⟩
   .cases z
   .obtain⟨l,o',k1,k2,k3,k4⟩:=s.ow j e q;exact⟨l,o',k1,k2,k3,k4.mono c⟩
  .rcases get q with⟨_,_,z⟩|⟨_,q⟩
   .cases z
   .rcases get M with⟨_,_,z⟩|⟨_,M⟩
    .cases z
    .exact s.inj j k b e f q M g h
 .exact s
@[simp] noncomputable def UZ (is:LN)(g:FS):FS:=λρ=>g (is.foldl unown1 ρ)
theorem dc.unowns {K:Frag}{B0 H0 N H:Hp}{σ:St}:∀(is:LN){ρ:Env},dc K B0 H0 N H σ ρ->dc K B0 H0 N H σ (is.foldl DL.unown1 ρ)
 |[],_,s=>s
 |i::is,_,s=>dc.unowns is (s.unown1 i)
def QU {K:Frag}{is:LN}{g:FS}{E:Ends}{σ:St}{H:Hp}(q:nJ K (UZ is g) E σ H):nJ K g E σ H:=by
 obtain⟨B0,H0,ρ,r,⟨N,s⟩,e,p⟩:=q;exact⟨B0,H0,_,r,⟨N,s.unowns is⟩,e,p⟩
def Va {X:Cx}{st:Stmt}{g:FS}(is:LN)(h:JS X st g):JS X st (UZ is g):=PS.to h λ_ _ _ q=>QU q
@[simp] def HV:FS:=λρ=>some (.ct ρ)
@[simp] def qL:FS:=λ_=>none
section
variable {X:Cx}{pos:Pos}
def Mp:JS X (.Continue pos) HV:=PS.to xY λE σ H q=>by
 obtain⟨B0,H0,ρ,r,s,e,p⟩:=q;cases e
 exact p σ H s
def HW {st:Stmt}:JS X st qL:=λaf s σ H E I q=>by
 obtain⟨B0,H0,ρ,r,_,e,_⟩:=q;cases e
end
inductive CRows (K:Frag)(P:Params):List DictEntry->List (Str×D)->Prop where
 |nil:CRows K P [] []
 |tup {x:Str}{t:Tok}{h:Int}{a:Addr}{its:Array Value}{n:Nat}{nL:Array (Option Value)}{ds:List D}{r:List DictEntry}{aA:List (Str×D)}(hh:h=PyData.keyHash P x)
   (l:K.lookup a=some ⟨.type "tuple",none,.seq its n,nL⟩) (f:(decide (its.size<=1000) && iZ its.toList ds)=true) (tl:CRows K P r aA):CRows K P (⟨h,.str x t,.ref a⟩::r) ((x,.tup ds)::aA)
 |flat {x:Str}{t:Tok}{h:Int}{u:Value}{d:D}{r:List DictEntry}{aA:List (Str×D)}(hh:h=PyData.keyHash P x) (f:wN u d=true) (tl:CRows K P r aA):CRows K P (⟨h,.str x t,u⟩::r) ((x,d)::aA)
theorem CRows.lit {K:Frag}{P:Params}:∀ {es:List DictEntry}{aA:List (Str×D)},CRows K P es aA->PySem.W.KeysLit P es
 |_,_,.nil=>trivial
 |_,_,.tup hh _ _ tl=>⟨⟨_,_,rr,hh⟩,tl.lit⟩
 |_,_,.flat hh _ tl=>⟨⟨_,_,rr,hh⟩,tl.lit⟩
theorem CRows.find {K:Frag}{P:Params}(y:Str):∀ {es:List DictEntry}{aA:List (Str×D)},CRows K P es aA->match aA.lookup y with
  |none=>es.find? (λe=>Value.isStrOf y e.key)=none
  |some d=>∃e v,es.find? (λe=>Value.isStrOf y e.key)=some e/\aC v e.val/\∀B,Is K B v d
 |_,_,.nil=>rr
 |_,_,.tup (x:=x) (t:=t) (a:=a) (ds:=ds) hh l f tl=>by
  by_cases e:y=x
  .subst e;rw[List.lookup_cons_self];rw[vC]at f;obtain⟨vs,r,i⟩:=ja (K:=K) f.2;exact⟨_,.ref a,List.find?_cons_of_pos (by simp[Value.isStrOf]),rr,λB=>.tup (.inr ⟨_,_,_,l,rr,rr,le_of_lt (lt_of_le_of_lt (xQ f.1) H9),r⟩) (i B)⟩
  .have M:=tl.find y;rw[lookup_cons,beq_eq_false_iff_ne.mpr e];have O:Value.isStrOf y (Value.str x t)=false:=by
    rw[Bool.eq_false_iff];intro z;obtain⟨t',q⟩:=Value.isStrOf_shape z;simp_all
   simp only[find?_cons,O];exact M
 |_,_,.flat (x:=x) (t:=t) (u:=u) (d:=d) hh f tl=>by
  by_cases e:y=x
  .subst e;rw[List.lookup_cons_self];obtain⟨v,b,_⟩:=kH (K:=K) (B:=λ_=>none) f;refine⟨_,v,List.find?_cons_of_pos (by simp[Value.isStrOf]),b,λB=>?_⟩;obtain⟨c,U,h⟩:=kH (K:=K) (B:=B) f;have:c=v:=by have g:=b.abs;rw[U.abs]at g;simp_all
   simp_all
  .have M:=tl.find y;rw[lookup_cons,beq_eq_false_iff_ne.mpr e];have O:Value.isStrOf y (Value.str x t)=false:=by
    rw[Bool.eq_false_iff];intro z;obtain⟨t',q⟩:=Value.isStrOf_shape z;simp_all
   simp only[find?_cons,O];exact M
def mD (K:Frag)(P:Params)(a:Addr)(aA:List (Str×D)):Prop:=∃es n,K.lookup a=some ⟨.type "dict",none,.dict es n,#[]⟩/\CRows K P es.toList aA/\(a == sysModules)=false
def const_dict {K:Frag}{P:Params}{y:Str}{a:Addr}{es:Array DictEntry}{n:Nat}{aA:List (Str×D)}(e:nsIn K mainGlobals y=some (some (.ref a)))(l:K.lookup a=some ⟨.type "dict",none,.dict es n,#[]⟩)(r:CRows K P es.toList aA)(s:(a == sysModules)=false):
  ∃a,nsIn K mainGlobals y=some (some (.ref a))/\mD K P a aA:=⟨a,e,es,n,l,r,s⟩
section
variable {X:Cx}{a b e:Expr}{pos:Pos}{x:Str}{p:Pos}
def mD.map {af:AO}{σ:St}{H:Hp}{s:Shared}{d:Addr}{aA:List (Str×D)}(I:Inv X af σ H s)(h:mD X.K X.w.params d aA):∃f:SV,s.heap.MapOf (strKind X.prog X.w) d f/\(d == sysModules)=false /\
  ∀y,match aA.lookup y with|none=>f y=none|some dd=>∃u v,f y=some u/\aC v u/\∀B,Is X.K B v dd:=by
 obtain⟨es,n,l,r,M⟩:=h;refine⟨_,PySem.W.mapOf_K I.kIn l r.lit,M,λy=>?_⟩;have:=r.find y;have O:findBy Value.isStrOf es y=(es.toList.find? λe=>Value.isStrOf y e.key).map (·.val):=by
  simp_all[findBy]
 cases hl:aA.lookup y with
 |none=>simp_all
 |some dd=>
  rw[hl]at this;obtain⟨en,v,U,e2,c⟩:=this;exact⟨en.val,v,by rw[O,U];rfl,e2,c⟩
@[simp] noncomputable def y7 (aA:List (Str×D)):D->OB
 |.str y=>(aA.lookup y).map λd=>(d,false)
 |_=>none
@[simp] noncomputable def Bd (aA:List (Str×D)):D->OB
 |.str y=>some (.bl (!(aA.lookup y).isSome),false)
 |_=>none
def Mr (h:∃d,X.mg x=some (.ref d)/\mD X.K X.w.params d aA)(hb:JE X b f)(k:Gl X x)(hd:bj x)(hs:mr b):JE X (.Subscript (.Name x p) b pos) (f1 (y7 aA) f):=by
 obtain⟨d,hm,cd⟩:=h;have l:Qb X (λx y H Q=>∃z dd,x=.ref d/\y=.str z/\aA.lookup z=some dd/\∀v,(∀B,Is X.K B v dd)->Q v H):=by
  intro O U af s σ H x y v u Q I m n q hs;obtain⟨z,dd,rfl,rfl,o,q⟩:=q;cases m
  obtain⟨t,rfl⟩:=n;obtain⟨f,i,D,hf⟩:=cd.map I;have:=hf z;rw[o]at this;obtain⟨u,v,c,e2,A⟩:=this;exact tail_any i.typeIs slot_dict_getitem.lookup (wpAny_getItem_of (strKind_is X.prog X.w z t) i c ⟨v,H,I.tok _,e2,q v A⟩) hs
 refine PE.to (GV l (pR (v:=.ref d) k hm rr hd) hb hs) λσ H Q q=>?_;obtain⟨B,ρ,d',bb,C,r,M,q⟩:=q;refine eX M λg ex M=>?_;refine⟨B,ρ,g.1,g.2,C,r,ex,λv E N1 j i1 _=>?_⟩;obtain⟨xd,F⟩:=g;cases i1<;>try (simp[y7]at M;done)
 rename_i z _;refine eR M λdd c e2=>?_;cases e2
 exact⟨z,_,rr,rr,c,λv hv=>(q.into j).one j.nh (hv _)⟩
@[simp] noncomputable def Ms:LD->OB
 |[.lst ds]=>some (.lst ds,true)
 |[.tup ds]=>some (.lst ds,true)
 |_=>none
@[simp] noncomputable def HX:LD->OB
 |[.lst ds]=>some (.tup ds,false)
 |[.tup ds]=>some (.tup ds,false)
 |_=>none
def QW:b8 X (.type "list") (A8 X.K Ms):=by
 refine b8.to wy λxs H Q q=>?_;refine e5 q λB ds d bb U i O q=>?_;cases i with
 |nil=>simp at O
 |cons i1 i2=>
  cases i2 with
  |cons _ _=>cases i1<;>simp at O
  |nil=>
   cases i1<;>try (simp at O;done)
   .rename_i c vs es h hl;cases O
    refine⟨_,_,rr,.inr (aT U h),λl hp=>?_⟩;have M:=Ext.laid (o:=.lst vs) U hp;exact q _ _ _ M (.lst (eO.of au) (hl.mono M.bn)) λ_=>⟨_,_,_,rr,rr,hp,au,hl.mono M.bn⟩
   .rename_i c vs es h hl;cases O
    refine⟨_,_,rr,.inl (U.seq h),λl hp=>?_⟩;have M:=Ext.laid (o:=.lst vs) U hp;exact q _ _ _ M (.lst (eO.of au) (hl.mono M.bn)) λ_=>⟨_,_,_,rr,rr,hp,au,hl.mono M.bn⟩
def Mt:b8 X (.type "tuple") (A8 X.K HX):=by
 refine b8.to tI λxs H Q q=>?_;refine e5 q λB ds d bb M i O q=>?_;cases i with
 |nil=>simp at O
 |cons i1 i2=>
  cases i2 with
  |cons _ _=>simp_all
  |nil=>
   cases i1<;>try (simp at O;done)
   .rename_i c vs es h hl;cases O
    exact⟨_,_,rr,.inr ⟨aT M h,q.one M (.tup h hl)⟩⟩
   .rename_i c vs es h hl;cases O
    refine⟨_,_,rr,.inl ⟨M.seq h,λl hp=>?_⟩⟩;have U:=Ext.laid (o:=.tup vs) M hp;exact q _ _ _ U (.tup (gR.of au) (hl.mono U.bn)) X9
end
section
variable {X:Cx}{a b e:Expr}{pos:Pos}{x:Str}{p:Pos}
@[simp] noncomputable def Mu (i:Nat)(M O:FE):FS:=λρ=>match ρ[i]? with
 |some (some (.lst ds,true))=>(O ρ).bind λv=>(M ρ).bind λk=>match k.1 with
  |.int j=>(G4 ds.length j).bind λn=>if aP v.1=true then some (.nx (ρ.set i (some (.lst (ds.set n v.1),true))))else none
  |_=>none
 |_=>none
def QX (hv:JE X e fv)(hk:JE X k fk)(d:X.N[i]? = some y)(O:KQ X.env.scope y)(hd:bj y)
  (f:ln y)
  (ha:∀v,assign (.Subscript (.Name y py) k pt) X.env v=(do
   let U <-holding [v] (eval (.Name y py) X.env)
   let iv <-holding [v,U] (eval k X.env)
   standAt pt
   holding [v,U,iv] (setItem U iv v)
   release [v,U,iv] []))
  (hs:swapsWithSole [.Subscript (.Name y py) k pt] e pos.line X.env=pure false) (hw:swappedStores [.Subscript (.Name y py) k pt] e X.env=pure none)
  (h1:(assignEach [.Subscript (.Name y py) k pt] X.env).map (·.2)=[assign (.Subscript (.Name y py) k pt) X.env]):JS X (.Assign [.Subscript (.Name y py) k pt] e pos) (Mu i fk fv):=by
 refine PS.to (P9 hv (P8 (j9 d O hd f) hk GW ha) hs hw h1) λE σ H q=>?_;obtain⟨B0,H0,ρ,r,⟨N,s⟩,M,p⟩:=q;unfold Mu at M;split at M
 .rename_i ds ei;refine eX M λv ev M=>?_;refine eX M λg ek M=>?_;obtain⟨kd,t⟩:=g;cases kd with
  |int j=>
   refine eX M λn en M=>?_;split at M
   .rename_i hn;cases M
    refine⟨N,ρ,v.1,v.2,s.ext.nh,s.rep,ev,λu w N1 h i1 _=>?_⟩;have s1:=s.grow h;obtain⟨l,vs,m,z,h1,h2,h3,h4⟩:=s1.owL i _ ei;refine⟨_,h1,N1,ρ,_,_,s1.ext.nh,s1.rep,ek,λkv H2 N2 c i2 _=>?_⟩;cases i2
    have s2:=s1.grow c;obtain⟨A,o,m,z,k1,k2,k3,k4⟩:=s2.owL i _ ei;cases z
    rw[h1]at k1;cases k1;exact⟨l,o,j,n,rr,rr,s2.ext.nh _ _ k2,by rw[k4.length];exact en,p σ _ ⟨_,s2.write ei h1 (IsL.set (s2.flat (i1.mono c.bn) hn) n k4)⟩⟩
   .cases M
  |_=>cases M
 simp_all
@[simp] noncomputable def HY (i:Nat)(f:FE):FS:=λρ=>match ρ[i]? with
 |some (some (.lst ds,true))=>(f ρ).bind λx=>match x.1 with
  |.lst es=>if x.2=true/\aV es=true/\ds.length+es.length<=sizeLine then some (.nx (ρ.set i (some (.lst (ds++es),true))))else none
  |_=>none
 |_=>none
def QY (he:JE X e f)(g:X.N[i]? = some y)(hv:KQ X.env.scope y)(hd:bj y)
  (h:ln y)
  (O:attributeBase (.Name y py) "extend" X.env (eval (.Name y py) X.env)=eval (.Name y py) X.env)
  (j:oQ bS e X.env)
  (U:(cn.endLine == bS.line)=true) (hs:cM e X.env) (k:swapsWith (.Call (.Attribute (.Name y py) "extend" cn) [e] [] bS) none pos.line X.env=pure false):
  JS X (.Expr (.Call (.Attribute (.Name y py) "extend" cn) [e] [] bS) pos) (HY i f):=by
 refine PS.to (Cc (xZ plainAttrs_list PySem.F.slot_list_extend PySem.F.type_list_extend ES (j9 g hv hd h) (de he fF hs) O j U hs rr) k) λE σ H q=>?_;obtain⟨B0,H0,ρ,r,⟨N,s⟩,M,p⟩:=q;unfold HY at M;split at M
 .rename_i ds ei;refine eX M λv ev M=>?_;obtain⟨m,w⟩:=v;cases m with
  |lst es=>
   dsimp at M;split at M
   .rename_i hc;cases M
    obtain⟨l,vs,n,z,h1,h2,h3,h4⟩:=s.owL i _ ei;refine⟨_,h1,.inl ⟨rr,vs,eO.of (s.ext.nh _ _ h2)⟩,N,ρ,_,_,s.ext.nh,s.rep,ev,λA B N1 c i1 f1=>?_⟩;obtain⟨l2,ws,o,rfl,z,g1,t,d⟩:=f1 hc.1;cases z
    have s1:=s.grow c;obtain⟨C,u,n,z,k1,k2,_,k4⟩:=s1.owL i _ ei;cases z
    rw[h1]at k1;cases k1;exact⟨l,l2,u,ws,rr,rr,s1.ext.nh _ _ k2,c.nh _ _ t,by rw[k4.length,d.length];exact hc.2.2,p σ _ ⟨_,s1.write ei h1 (k4.append (s1.flats d hc.2.1))⟩⟩
   .cases M
  |_=>cases M
 simp_all
end
open AutoSeq1 (wpAny_loadPart')
noncomputable def sqT (k:Bool):String:=if k=true then "list" else "tuple"
def y8 (k:Bool)(l:Addr)(items:AV)(n:Nat)(M:Option Addr)(sl:Array (Option Value)):
  Meets (Builtin.«enumerate.__new__» ⟨[.type "enumerate",.ref l],[]⟩) (λ_ R s=>s.heap.get? l=some { cls:=.type (sqT k),dict:=M,data:=.seq items n,slots:=sl } /\
   R (.ok (.ret (.ref (s.heap.push (Mn k l)).objs.size))) { s with heap:=(s.heap.push (Mn k l)).push { cls:=.type "enumerate",data:=.fields #[.none,.bool false,.ref s.z,rawInt 0,.none,.none] } }):=
 .of_wp λprog w A R s hs=>by
  obtain⟨hp,g,d,tk,os⟩:=s;obtain⟨hl,hs⟩:=hs;have U:=sub_enumerate;have O:jJ k (Shared.heap ⟨hp,g,d,tk,os⟩) l items:=by cases k<;>exact⟨_,hl,rr,n,rr⟩
  wp_walk using wpAny_loadPart' hl;refine wpAny_stack_any λst=>wY ?_;split
  .rename_i c _ _ _ _ _;cases (c == Value.type _)
   .wp_walk using wpAny_loadPart' hl,mC O;exact⟨_,rr,hs⟩
   .wp_walk using wpAny_loadPart' hl,mC O;exact⟨_,rr,hs⟩
  .wp_walk using wpAny_loadPart' hl,mC O;exact⟨_,rr,hs⟩
section
variable {prog:Program}{w:World}{A:Around}{E:QV}{s:Shared}
def HZ (U:jJ k s.heap l items)
  (q:∀h',IsEnum h' (s.z+1) s.z 0 .none->j7 k h' s.z l 0->(∀b o,s.heap.get? b=some o->h'.get? b=some o)->Q (.ref (s.z+1)) { s with heap:=h' }):
  wpAny (model prog w) A (call (.type "enumerate") [.ref l]) Q E s:=by
 have hh:∃(M:Option Addr)(sl:Array _)(n:Nat),s.heap.get? l=some { cls:=.type (sqT k),dict:=M,data:=.seq items n,slots:=sl }:=by
  cases k<;>(obtain⟨⟨c,M,dt,sl⟩,hl,hc,n,hd⟩:=U;subst hc;subst hd;exact⟨M,sl,n,hl⟩)
 obtain⟨M,sl,n,hl⟩:=hh;refine callType_new PySem.F.called_enumerate H9 (PySem.F.typeCall_enumerate_1 _) (PySem.F.newCall_enumerate_1 _) (λobj=>PySem.F.args_object_init_2 obj _) PySem.F.entry_enumerate_new (y8 k l items n M sl) ⟨hl,?_⟩;have n1:(s.heap.push (Mn k l)).objs.size=s.z+1:=Heap.size_push ..;have O:((s.heap.push (Mn k l)).push { cls:=.type "enumerate",data:=.fields #[.none,.bool false,.ref s.z,rawInt 0,.none,.none] }).get? _=some _:=vY _ rr;have g1:((s.heap.push (Mn k l)).push { cls:=.type "enumerate",data:=.fields #[.none,.bool false,.ref s.z,rawInt 0,.none,.none] }).get? _=some _:=vZ _ (vY _ (by cases k<;>rfl))
 rw[n1]at O;rw[n1];refine⟨⟨_,O,rr⟩,q _ O ?_ λb o e=>vZ _ (vZ _ e)⟩;cases k<;>exact⟨_,g1,rr,rr⟩
def QZ (b:A.handled=none)(it l:Addr)(M:l≠it)(items:AV):Draws prog w A it [it,l] items.size (λi v=>items[i]? = some v) (λi h=>j7 k h it l i/\jJ k h l items) where
 live:=λi h st=>let ⟨o,e,_⟩:=st.1.ob;⟨o,e⟩
 frame:=λi h h' st U=>⟨st.1.upon λo e=>U it X9 o e,st.2.upon λo e=>U l X9 o e⟩
 item:=λi s Q E hi st q=>eV st.1 st.2 (v:=items[i]) (by simp ) λh' O a=>q _ h' _ (by simp ) ⟨O,st.2.upon λo e=>a.extBut _ _ M e⟩ a
 done:=λs Q E st q=>iI b st.1 st.2 X9 q
def Ra (O:A.handled=none)(it l:Addr)(items:AV)(n:Nat)(hn:items[n]? = none):Draws prog w A it [it,l] n (λ_ _=>True) (λi h=>(j7 k h it l i/\jJ k h l items)/\i=n) where
 live:=λi h st=>let ⟨o,e,_⟩:=st.1.1.ob;⟨o,e⟩
 frame:=λi h h' st M=>⟨⟨st.1.1.upon λo e=>M it X9 o e,st.1.2.upon λo e=>M l X9 o e⟩,st.2⟩
 item:=λi s Q E hi st q=>absurd st.2 (vS hi)
 done:=λs Q E st q=>iI O st.1.1 st.1.2 hn q
end
noncomputable def Zf (K:Frag)(k:Bool)(a:Addr):It:=
  ⟨λi H=>∃xs x,lh k K H a xs/\xs[i]? = some x,
   λi H v H'=>∃T x,v=.ref T/\H T=none/\H'=upd H T (.tup [.int i,x])/\∀xs,lh k K H a xs->xs[i]? = some x,
   λi H=>∃xs,lh k K H a xs/\xs.length<=i⟩
def Fj {P:Program}{w:World}{K:Frag}{es:QD}{C:Nat}{pt:Pos}{k:Bool}{a e it:Addr}(U:e≠it)(f:a≠e)(g:a≠it):
  Turn P w K (.Tuple es C pt) (Zf K k a) [e,it] e (λi h=>(∃M,IsEnum h e it i M)/\j7 k h it a i) where
 mem:=X9
 obj:=λi h st b hb=>by
  obtain⟨⟨M,he⟩,O⟩:=st;simp at hb;rcases hb with rfl|rfl
  .simp_all
  .exact O.ob
 keep:=λi h h' st c=>by
  obtain⟨⟨M,he⟩,O⟩:=st;exact⟨⟨M,c e X9 _ he⟩,O.upon λo q=>c it X9 o q⟩
 item:=by
  intro X j hw l hc i af s σ H E I hf st m;subst j hw l;obtain⟨⟨M,he⟩,O⟩:=st;obtain⟨xs,x,d,hx⟩:=m;obtain⟨its,n,p,D⟩:=d.vals I;obtain⟨u,hu,ru⟩:=n.get hx;have fresh:=I.hok.fresh (vT _);have r:i<its.toArray.size:=by rw[vH];exact(vV hu).1
  have B:e≠s.z:=vS (vX he);have t:it≠s.z:=by obtain⟨o,q,_⟩:=O.ob;exact vS (vX q)
  refine wpAny_pyNext_enum_itemD (QZ (A:=X.A.in1) (I.ok.hd hc) it a g its.toArray) he ⟨O,p⟩ r U (by simp[U,f.symm]) λv h' tk hv ho F G hsz hk=>?_;have ev:v=u:=by
   simp_all
  subst ev;refine⟨_,rr,wpAny_letOwnedTupleGo_enum ho λh2 J s2=>?_⟩;have y:Heap.SameBut e h' h2:=s2;have c:∀b o,b∉[e,it]->s.heap.get? b=some o->h2.get? b=some o:=λb o hb q=>y.extBut _ _ (λz=>hb (by simp[z])) (hk b o (λz=>hb (by simp[z])) (λz=>hb (by simp[z])) q);have new:bf X.prog X.w (upd H s.z (.tup [.int i,x])) h2 s.z (.tup [.int i,x]):=⟨by show 2<=sizeLine;decide,[.int i tk,v],.cons ⟨tk,rr⟩ (.cons ru .nil),⟨_,y.extBut _ _ B.symm G,rr,_,rr⟩⟩;refine⟨.ref s.z,upd H s.z (.tup [.int i,x]),C0 (s:=s) (t':=tk+1) I hf c (vT _) new,rr,⟨_,x,rr,fresh,rr,λzs hq=>by rw[lh.inj I hq d];exact hx⟩,?_,λb hb=>?_⟩
  .exact⟨⟨_,by have:=J;exact this⟩,F.1.upon λo q=>y.extBut _ _ U.symm q⟩
  .have L:b≠s.z:=by
    simp at hb;rcases hb with rfl|rfl
    .exact B
    .exact t
   rw[a8 L];exact(hf b hb).1
 done:=by
  intro X j hw l hc i af s σ H E I hf st m;subst j hw l;obtain⟨⟨M,he⟩,O⟩:=st;obtain⟨xs,d,hl⟩:=m;obtain⟨its,n,p,D⟩:=d.vals I;have n1:=n.length;refine wpAny_pyNext_enum_endD (Ra (A:=X.A.in1) (I.ok.hd hc) it a its.toArray i s9) he ⟨⟨O,p⟩,rr⟩ λh' hk=>⟨rr,?_⟩;exact kI (t':=s.toks) I hf λb o hb q=>hk b o (λz=>hb (by simp[z])) q
 self:=λ_ _ _ _ _ st h=>let ⟨⟨_,he⟩,_⟩:=st;wpAny_pyIter_enum he h
section
variable {X:Cx}{a b e:Expr}{pos:Pos}{p:Pos}
def y9:bootBuiltins "enumerate" = some (.type "enumerate"):=S9
noncomputable def um (ds:LD):LD:=ds.mapIdx λi d=>.tup [.int i,d]
@[simp] def Ia (fa:FE):FA:=λρ=>(fa ρ).bind λx=>(f7 x.1).map um
def Mv {K:Frag}{N:Hp}{k:Bool}{l:Addr}{vs:LV}{ds:LD}(h1:lh k K N l vs)(i1:IsL K N vs ds):m4 K (Zf K k l) N (um ds):=by
 intro i H' M;have n1:=i1.length;refine⟨λd ed=>?_,λhl=>⟨vs,h1.same M,?_⟩⟩
 .unfold um at ed;rw[List.getElem?_mapIdx]at ed;obtain⟨x,c,rfl⟩:=oY ed;obtain⟨v,ev,iv⟩:=i1.get c;refine⟨⟨vs,v,h1.same M,ev⟩,λr H2 hy=>?_⟩;obtain⟨T,g,rfl,f,rfl,f1⟩:=hy;have O:=f1 vs (h1.same M);rw[ev]at O;cases O;have U:=Ext.laid (o:=.tup [.int i,v]) M f;exact⟨_,U,.tup (gR.of au) (.cons (.int _) (.cons (iv.mono U.bn) .nil))⟩
 simp_all[um]
def Mw {es:QD}{i:Nat}{pt:Pos}{fa:FE}(hm:X.mg "enumerate" = none)(ha:JE X a fa)(j:Gl X "enumerate")(hs:cM a X.env):
  JI X (.Tuple es i pt) (.Call (.Name "enumerate" p) [a] [] pos) (Ia fa):=by
 intro af s σ H R I q;refine Call_ (fE I j hm y9 (PyProof.Rows.callWith_type1 (bJ (fM ha lH hs _ _ s σ H (λvs M=>∃(k:Bool)(l:Addr)(us:LV),vs=[.ref l]/\lh k X.K M l us/\R (Zf X.K k l) M) I ?_) λus s1 ⟨vs,M,c,m,n⟩=>?_) hs rr))
 .obtain⟨B,ρ,ds,o,r,O,q⟩:=q;refine eX O λt ex O=>?_;refine eR O λxs d O=>?_;subst O;refine⟨B,ρ,[t.1],o,r,by simp[ex],λvs M N1 f i1=>?_⟩;cases i1 with
  |cons u v=>
   cases v
   obtain⟨k1,l1,us,rfl,s1,m1⟩:=y6 u d;exact⟨k1,l1,us,rr,s1.same f.nh,q _ M N1 f (Mv s1 m1)⟩
 .obtain⟨k,l,ws,rfl,h1,q⟩:=n;obtain⟨y,rfl,w⟩:=m.one;cases w
  obtain⟨its,z,g,A⟩:=h1.vals c;have V0:=g.lt;refine HZ g λh' h c2 x=>?_;refine wpAny_pyIter_enum h ⟨s1.z+1,[s1.z+1,s1.z],_,_,M,rr,c.kept x,
   Fj (Nat.succ_ne_self _) (vS (lt_succ_of_lt V0)) (vS V0),⟨⟨_,h⟩,c2⟩,λb hb=>?_,q⟩
  have U:s1.z<=b:=by
   grind
  exact c.fpOk U (c.hok.fresh U)
end
end DL
namespace DL
open PySem PySem.Spec PyProof.Rows
def Fk (t:SetTable)(es:Array (Int×Value))(n:Nat):(relayAll t es n).2.1.led=t.led:=by
 unfold relayAll;split
 .rename_i t' M h;refine eX h λow _ h=>?_;cases h
  dsimp ;split<;>rfl
 .rfl
def yA (t:SetTable)(es:Array (Int×Value))(n:Nat)(hp:t.plain=false):(relayAll t es n).2.1.plain=false:=by
 unfold relayAll;split
 .rename_i t' M h;refine eX h λow _ h=>?_;cases h
  dsimp ;split
  .exact hp
  .rfl
 .rfl
def Mx (t:SetTable)(es:Array (Int×Value))(h:Int)(x:Value):(layNew t es h x).2.1.led=t.led:=by
 unfold layNew;split
 .dsimp [SetTable.orStandIn];repeat' (first|rfl|split)
 .rfl
structure TabT (w:World)(es:Array (Int×Value))(t:SetTable):Prop where
 fits:t.fits es.size=true
 led:t.led = !w.params.followText "set-order"
 plain:es.size≠0->t.plain=false
def jb (prog:Program)(w:World)(h:Heap)(a:Addr)(M:LS):Prop:=
 ∃o es O t,h.get? a=some o/\o.ExactSet/\o.data=.set es O t/\ElemsOf (PySem.strKind prog w) es.toList/\(es.toList.map (λe=>strOf e.2)).Perm M/\M.Nodup/\M.length<scanBound/\TabT w es t
noncomputable def j4 (M:LS)(x:Str):LS:=if x∈M then M else M++[x]
theorem Ib (M:LS)(x:Str):(j4 M x).length<=M.length+1:=by unfold j4;split<;>simp
theorem yB (h:Value.isStrOf k v=true):strOf v=k:=by obtain⟨t,rfl⟩:=Value.isStrOf_shape h;rfl
section
variable {prog:Program}{w:World}{A:Around}{E:QV}{s:Shared}
def uo {es:Array (Int×Value)}{O:LS}(M:ElemsOf (PySem.strKind prog w) es.toList)(hp:(es.toList.map (λe=>strOf e.2)).Perm O)(k:Str):k∈O ↔ ∃e∈es.toList,(PySem.strKind prog w).is k e.2=true:=by
 rw[<-hp.mem_iff,List.mem_map];constructor
 .rintro⟨e,he,rfl⟩;obtain⟨⟨k',hk,_⟩,_⟩:=M e he;have U:Value.isStrOf k' _=true:=hk;grind[yB]
 .rintro⟨e,he,hk⟩;exact⟨e,he,yB hk⟩
def uq {h:Heap}{a:Addr}{o:Obj}{es:Array (Int×Value)}{O:Nat}{t:SetTable}(ho:h.get? a=some o)(hd:o.data=.set es O t)(M:Array (Int×Value))(t':SetTable):
  (h.update a (Obj.putSet M t')).get? a=some { o with data:=.set M (O+1) t' }:=by
 have:=Heap.get?_update_self (Obj.putSet _ t') ho (by rw[putSet_of M t' hd];rfl);rw[putSet_of _ t' hd]at this;exact this
def yC {g:Bool->Sem Unit}(D:∀(b:Bool)(c:Shared)(r:Unit->Shared->Prop),r () c->wpAny (model prog w) A (g b) r E c)
  {a:Addr}{o:Obj}{es:Array (Int×Value)}{F:Nat}{t:SetTable}(ho:s.heap.get? a=some o) (u:o.ExactSet) (hd:o.data=.set es F t)
  {M:Array (Int×Value)}{O:SetTable}{f:LS}(v:ElemsOf (PySem.strKind prog w) M.toList) (l:(M.toList.map (λe=>strOf e.2)).Perm f) (nd:f.Nodup)
  (hb1:f.length<scanBound) (m:O.fits M.size=true) (x:O.led = !w.params.followText "set-order") (y:O.plain=false) {U:Bool}{R:Option Bool->Shared->Prop}
  (h:∀h',Heap.SameBut a s.heap h'->jb prog w h' a f->R (some true) { s with heap:=h' }):
  wpAny (model prog w) A (do
    storeSet a M O
    if(!U && O.tooFull)=true then do
      g (relayAll O M (SetTable.grown M.size)).2.2
      storeSet a (relayAll O M (SetTable.grown M.size)).1 (relayAll O M (SetTable.grown M.size)).2.1
      pure (some true)
     else pure (some true)) R E s:=by
 have i:M.size=f.length:=by rw[<-l.length_eq,vI,vG]
 refine wX (wpAny_storeSet_of ho hd ?_ (fits_of_scanBound (by rw[i];exact hb1)));have n:=uq ho hd M O;have z:=vW s.heap a (Obj.putSet M O);split
 .have hp:=relayAll_perm O M (SetTable.grown M.size);have j:=relayAll_fits O M (SetTable.grown M.size);have B:=Fk O M (SetTable.grown M.size);have k:=yA O M (SetTable.grown M.size) y;generalize G:relayAll O M _=Rl at hp j B k |-;obtain⟨d,C,H⟩:=Rl;have p:=v.perm hp;have hsz:d.size=M.size:=by rw[<-vG,hp.length_eq,vG]
  refine wX (D _ _ _ ?_);refine wX (wpAny_storeSet_of n rr ?_ (fits_of_scanBound (by rw[hsz,i];exact hb1)));have q:=uq n rr d C;exact wY (h _ (z.trans (vW _ a _)) ⟨_,d,_,C,q,u,rr,p,(hp.map _).trans l,nd,hb1,j,B.trans x,λ_=>k⟩)
 .exact wY (h _ z ⟨_,M,_,O,n,u,rr,v,l,nd,hb1,m,x,λ_=>y⟩)
def Be {a:Addr}{d:LS}{k:Str}{tk:Tok}{Q:Bool->Shared->Prop}(hS:jb prog w s.heap a d)(G:d.length+1<scanBound)
  (h:∀b h',Heap.SameBut a s.heap h'->jb prog w h' a (j4 d k)->Q b { s with heap:=h' }):
  wpAny (model prog w) A (setAddHashed a (.str k tk) ((PySem.strKind prog w).hash k)) Q E s:=by
 have hS0:=hS;obtain⟨o,es,K,t,ho,u,hd,g,M,nd,hb,hf,v,N⟩:=hS;have B:=strKind_is prog w k tk;have sz:es.size=d.length:=by rw[<-M.length_eq,vI,vG]
 refine wpAny_holding (wX (wpAny_setState_of ho hd hf ?_));dsimp only;rw[byScan_of (x:=.str k tk) rr (by rw[sz];exact hb) g];simp only[↓reduceIte];unfold setAddByScan;refine wX ?_;refine wX (wpAny_rule ?_);refine wX (wpAny_setScan_of B ho hd hf g ?_);cases hr:List.findIdx? _ es.toList with
 |some j=>
  dsimp only;obtain⟨hj,p,_⟩:=List.findIdx?_eq_some_iff_getElem.mp hr;have hm:k∈d:=(uo g M k).mpr ⟨es.toList[j],getElem_mem hj,p⟩;refine wY (wY ?_);simp_all[j4,Heap.SameBut.refl]
 |none=>
  dsimp only;have hm:k∉d:=λz=>by
   obtain⟨e,he,hp⟩:=(uo g M k).mp z;grind
  have H:j4 d k=d++[k]:=by unfold j4;rw[if_neg hm]
  have q:∀(b:Bool){c:Shared}{i:Unit->Shared->Prop},i () c->wpAny (model prog w) A (match b with|true=>rule "set.scan.the-table-gave-way" | false=>pure ()) i E c:=
   λb c i hq=>by cases b<;>first|exact wY hq|exact wpAny_rule hq
  have O:=layNew_perm t es ((PySem.strKind prog w).hash k) (.str k tk);have U:=layNew_fits t es ((PySem.strKind prog w).hash k) (.str k tk);have n:=Mx t es ((PySem.strKind prog w).hash k) (.str k tk);generalize P:layNew t es ((PySem.strKind prog w).hash k) (.str k tk)=L at O U n |-;obtain⟨r,R,S,I⟩:=L;dsimp only at O U n |-;rw[Array.toList_push]at O;have C:=(g.push B rr).perm O;have D:(r.toList.map (λe=>strOf e.2)).Perm (d++[k]):=(O.map _).trans (by rw[uW];exact M.append_right _);have l:(d++[k]).Nodup:=by
   rw[nodup_append];refine⟨nd,X9,λx hx y hy=>?_⟩;rw[mem_singleton]at hy;subst hy;exact λz=>hm (z ▸ hx)
  have hb1:(d++[k]).length<scanBound:=by rw[uZ];exact G
  refine wX (q _ ?_);have F:=λh' f m=>h true h' f (by rw[H];exact m);split
  .refine wX ?_;refine wY ?_;refine yC ?_ ho u hd C D l hb1 ?_ ?_ ?_ ?_
   .intro b c i hq;cases b<;>first|exact wY hq|exact wpAny_rule hq
   .exact SetTable.fits_plain_off U
   .exact n.trans v
   .rfl
   .intro h' f m;dsimp only;exact wY (F h' f m)
  .rename_i J;refine wX (wY ?_);simp only[↓reduceIte];refine yC ?_ ho u hd C D l hb1 U (n.trans v) (by simpa using J) ?_
   .intro b c i hq;cases b<;>first|exact wY hq|exact wpAny_rule hq
   .intro h' f m;dsimp only;exact wY (F h' f m)
end
def f9 (ss:LS):LS:=ss.foldl j4 []
def qN (h:M.Nodup)(x:Str):(j4 M x).Nodup:=by
 grind[j4]
def yD:y∈j4 M x↔y∈M\/y=x:=by
 unfold j4;split
 .rename_i hm;exact⟨.inl,λz=>z.elim id λe=>e ▸ hm⟩
 .simp
def wO (ss:LS):∀M:LS,(ss.foldl j4 M).length<=M.length+ss.length:=by
 induction ss with
 |nil=>simp
 |cons x r O=>grind[Ib]
def mE (ss:LS):(f9 ss).length<=ss.length:=by have:=wO ss [];simpa [f9]using this
def Fl (ss:LS)(x:Str):f9 (ss++[x])=j4 (f9 ss) x:=by simp_all[f9]
theorem StrsAre.at:∀ {vs:LU}{ss:LS},StrsAre vs ss->∀(i:Nat)(v:Value),vs[i]? = some v->∃x t,v=.str x t/\ss[i]? = some x
 |_,_,.nil,i,v,h=>by simp at h
 |_,_,.cons x t hr,0,v,h=>by simp at h;exact⟨x,t,h.symm,rr⟩
 |_,_,.cons x t hr,i+1,v,h=>by
  exact StrsAre.at hr i v h
def jb.at (x:jb prog w h a O)(k:∀o,h.get? a=some o->h'.get? a=some o):jb prog w h' a O:=by
 obtain⟨o,es,M,t,ho,r⟩:=x;exact⟨o,es,M,t,k o ho,r⟩
section
variable {prog:Program}{w:World}{A:Around}{R:Result->Shared->Prop}{I:Addr}{fp wr:List Addr}{G:Array GenState->Array GenState->Prop}{n:Nat}{P:Nat->Value->Prop}{St:Nat->Shared->Prop}
def wP (W:WalksS prog w A.in1 I fp wr G n P St)(S:Addr)(U:S∉fp)(ss:LS)(hn:ss.length=n)
  (l:∀i v,P i v->∃x t,v=.str x t/\ss[i]? = some x) (hb:n+1<scanBound):
  ∀(k i:Nat)(s:Shared),n - i=k->i<=n->St i s->jb prog w s.heap S (f9 (ss.take i)) ->
   (∀s',Moved (S::wr) G s s'->jb prog w s'.heap S (f9 ss)->R (.ok (.ret .none)) s') ->
   codeAny (model prog w) A (.builtin "set.update.loop" ⟨[.ref S,.ref I],[]⟩) R s:=by
 have a:S∉wr:=λh=>U (W.sub _ h);have M:∀b∈wr,b∈S::wr:=λb hb=>mZ _ hb;intro k;induction k with
 |zero=>
  intro i s hk hi O hS hR;have m:i=n:=N9
  subst m;refine codeAny_builtin PyProof.Rows.F.entry_set_update_loop ?_;refine wX (W.done s _ _ O λs' hm=>?_);refine wY (hR s' (hm.mono M) ?_);rw[List.take_of_length_le N9]at hS;exact hS.at λo e=>hm.heap S _ a e
 |succ k p=>
  intro i s hk hi O hS hR;have j:i<n:=N9
  refine codeAny_builtin PyProof.Rows.F.entry_set_update_loop ?_;refine wX (W.item i s _ _ j O λv s' q c hm=>?_);obtain⟨x,t,rfl,hx⟩:=l i v q;have r:jb prog w s'.heap S (f9 (ss.take i)):=hS.at λo e=>hm.heap S _ a e;refine wX (wpAny_holding ?_);unfold setAdd;refine wpAny_holding ?_;refine wX ((PySem.strKind prog w).pyHash (k:=x) (strKind_is prog w x t) ?_);have hl:(f9 (ss.take i)).length+1<scanBound:=by have:=mE (ss.take i);rw[length_take]at this;lia
  refine Be (s:={ s' with toks:=s'.toks+1 }) r hl λb h' d z=>?_;have u:jb prog w h' S (f9 (ss.take (i+1))):=by
   simp_all[take_add_one,Fl]
  refine wY ⟨plainId_quiet PyProof.Rows.F.plain_set_update_loop _,p (i+1) _ N9 j (W.frame _ s' _ _ c (le_succ _) λb hb o e=>?_) u λy f g=>?_⟩
  .rw[d.2 b (λh:b=S=>U (by rw[<-h];exact hb))];exact e
  .refine hR y (Moved.trans W.gtrans ((hm.mono M).then_heap (le_succ _) λb o hb e=>?_) f) g;rw[d.2 b (λh:b=S=>hb (by rw[h];exact mX))];exact e
end
section
variable {prog:Program}{w:World}{A:Around}{E:QV}{s:Shared}
noncomputable abbrev dG (w:World):Obj:={ cls:=.type "set",dict:=none,data:=.set #[] 0 (.fresh 0 0 (!w.params.followText "set-order")) }
def yE (a:Value)
  (h:Q₁ (.ref s.z) { s with heap:=s.heap.push (dG w) }):
  codeAny (model prog w) A (.call (.builtin "set.__new__") ⟨[.type "set",a],[]⟩) (wants Q₁ E) s:=by
 refine codeAny_of_tree ?_;refine wX (wpAny_of_eq (PySem.F.newCall_set_1 a) (wY ⟨plainId_quiet PySem.F.plain_set_new _,codeAny_builtin PySem.F.entry_set_new ?_⟩));unfold Builtin.«set.__new__» Builtin.Frozenset.newClass;have M:=sub_set_self;wp_walk;refine wpAny_askSetting (wY ?_);refine wX (wpAny_alloc (wY ?_));exact wY h
set_option maxHeartbeats 3200000 in
def qO
  (hh:A.handled=none) (hl:s.heap.IsList l items) (hi:StrsAre items.toList ss) (hb:items.size+1<scanBound)
  (h:∀(h':Heap)(tk:Nat),jb prog w h' s.z (f9 ss) ->
   (∀b o,b<s.z->s.heap.get? b=some o->h'.get? b=some o)->Q (.ref s.z) { s with heap:=h',toks:=tk }):
  wpAny (model prog w) A (call (.type "set") [.ref l]) Q E s:=by
 obtain⟨c,tl,G⟩:=called_set.mro;have H:=called_set.made;have I:=called_set.sub;refine wpAny_call (codeAny_of_tree ?_);show wpAny _ _ (callAny (.type "set") _) _ _ _;refine wY ⟨Code.quiet_builtin _ S9,codeAny_builtin PySem.F.entry_type_call ?_⟩;rw[Around.under_plain (weight_type_call_type "set" [.ref l] []) rr];have h1:=called_set.notType;have h2:=called_set.canCreate;have J:=PySem.F.typeCall_set_1 (.ref l);have K:ss.length=items.size:=by have:=hi.strs;grind
 repeat (any_goals (first|assumption|wp_step))
 refine codeAny_mono (yE (.ref l) (E:=E) (Q₁:=λobj U=>obj=.ref s.z/\U={ s with heap:=s.heap.push (dG w) }) ⟨rr,rr⟩) λr U hr=>?_;cases r with
 |error e=>exact hr
 |ok fl=>
  cases fl with
  |ret obj=>
   obtain⟨rfl,rfl⟩:=hr;have hS:(s.heap.push (dG w)).get? s.z=some (dG w):=vY _ rr;have L:Shared.TypeIs { s with heap:=s.heap.push (dG w) } (.ref s.z) "set":=⟨_,hS,rr⟩;have N:=called_set.init.lookup;have P:=called_set.init.bind (.ref s.z);repeat (any_goals (first|assumption|wp_step))
   refine codeAny_mono (codeAny_call_builtin (R:=wants (λr a=>r=.none/\∃h' tk,a={ s with heap:=h',toks:=tk } /\
     jb prog w h' s.z (f9 ss) /\
     (∀b o,b<s.z->s.heap.get? b=some o->h'.get? b=some o)) E) called_set.init.plain PySem.F.entry_set_init (check_set_init_1 L ?_)) λf a M=>?_
   .obtain⟨S,u,y,B,C⟩:=hl;obtain⟨T,V,W,O⟩:=S;simp only at y C;subst y;subst C;have g:(s.heap.push (dG w)).get? l=some { cls:=.type "list",dict:=V,data:=.seq items B,slots:=O }:=vZ _ u;have X:=PySem.F.sub_list_set;have Y:=PySem.F.sub_list_frozenset;have AA:(Value.type "list" == Value.type "dict")=false:=H9
    have D:(s.heap.push (dG w)).IsList l items:=⟨_,g,rr,B,rr⟩;unfold Builtin.«set.__init__» noKeywords Builtin.Frozenset.updateFrom;generalize j:pyIter=PI;wp_walk;subst j;refine wpAny_pyIter_list D ?_;refine wX (wpAny_runValue ?_);have Z:l<s.z:=vX u;have k:A.in1.in1.in1.handled=none:=by simp[hh]
    have m:l≠(s.heap.push (dG w)).objs.size:=by
     simp_all[vS,lt_succ_of_lt]
    have Tp:s.z∉[(s.heap.push (dG w)).objs.size,l]:=by
     simp_all[ne_of_gt]
    have Sv:∀(i:Nat)(v:Value),items[i]? = some v->∃x t,v=.str x t/\ss[i]? = some x:=λi v hv=>
     StrsAre.at hi i v (by simp_all)
    refine wP ((Walks.list k _ l m items).toS) s.z
     Tp ss K Sv hb (items.size - 0) 0 _ N9 (uN _)
     ⟨⟨_,vY _ rr,rr,rr⟩,(D.push _)⟩ ?hS0 ?hR
    case hS0=>
     have n:((s.heap.push (dG w)).push { cls:=.type "list_iterator",data:=.fields #[.ref l,.int 0 0] }).get? s.z
       = some (dG w):=vZ _ hS
     exact⟨_,#[],0,_,n,⟨rr,rr,rr⟩,rr,λe he=>by simp at he,List.Perm.refl _,nodup_nil,(by show(0:Nat)<scanBound;decide),rr,rr,λz=>absurd rr z⟩
    case hR=>
     intro s' hm p
     obtain⟨h',g',d',Sy,q⟩:=s'
     have eg:g'=s.gens:=hm.gens
     have ed:d'=s.drawn:=hm.drawn
     have eo:q=s.os:=hm.os
     subst eg;subst ed;subst eo
     show wpAny _ _ _ _ _ _
     refine wY ?_
     show wpAny _ _ (ret Value.none) _ _ _
     refine wY ⟨rr,h',Sy,rr,p,λb o hb e=>?_⟩
     have hb1:b≠s.z:=vS hb
     have hb2:b≠(s.heap.push (dG w)).objs.size:=by
      simp_all[vS,lt_succ_of_lt]
     exact hm.heap b o (by simp_all) (vZ _ (vZ _ e))
   .cases f with
    |error e=>exact M
    |ok d=>
     cases d with
     |ret r=>
      obtain⟨rfl,h',tk,rfl,p,Pm⟩:=M;repeat (any_goals (first|assumption|wp_step))
      exact h _ _ p Pm
     |_=>exact M.elim
  |_=>exact hr.elim
end
open Sem (wp)
section
variable {M:Model}{A:Around}{E:QV}{s:Shared}
def My (hn:n≠0)(h:∀k d,k<n->Q k { s with drawn:=d }):wpAny M A (choose src n) Q E s:=by
 intro O p U;refine⟨hn,?_⟩;have:=h _ (s.drawn.bump src) (Nat.mod_lt (M.w.draws src (s.drawn.get src)) (Nat.pos_of_ne_zero hn));simp_all
end
def mF {α:Type}:∀(l:List α)(i:Nat),i<l.length->(l.eraseIdx i).length=l.length - 1:=by grind
theorem lL {α:Type}:∀(l:List α)(i:Nat)(x:α),l[i]? = some x->(x::l.eraseIdx i).Perm l
 |[],i,x,h=>by simp at h
 |a::l,0,x,h=>by simp_all
 |a::l,i+1,x,h=>by
  exact(List.Perm.swap a x _).trans ((lL l i x h).cons a)
theorem C1 {α:Type}:∀(n:Nat)(xs:List α)(s:Shared)(Q:List α->Shared->Prop),xs.length=n->(∀ys d,ys.Perm xs->Q ys { s with drawn:=d })->wpAny M A (drawOrder n xs) Q E s
 |0,xs,s,Q,hl,h=>by
  have:=List.eq_nil_of_length_eq_zero hl;subst this;exact wY (h [] _ (List.Perm.refl _))
 |n+1,[],s,Q,hl,h=>by simp at hl
 |n+1,x::r,s,Q,hl,h=>by
  refine wX (My X9 λk d hk=>?_);obtain⟨y,hy⟩:∃y,(x::r)[k]? = some y:=⟨_,vU hk⟩;rw[hy];refine wX (C1 n _ _ _ (by rw[mF _ _ hk,hl];rfl) λys d' hp=>wY (h _ _ ((hp.cons y).trans (lL _ _ _ hy))))
theorem C2 {α:Type}(next:Nat->Nat):∀(fuel k:Nat)(left:List α)(out:Array α),left.length=fuel->(pickOrder.go next fuel k left out).toList.Perm (out.toList++left)
 |0,k,left,out,hl=>by
  simp_all[pickOrder.go]
 |fuel+1,k,left,out,hl=>by
  unfold pickOrder.go;have hk:next k % left.length<left.length:=Nat.mod_lt _ N9;obtain⟨y,hy⟩:∃y,left[next k % left.length]? = some y:=⟨_,vU hk⟩;rw[hy];refine(C2 _ _ _ _ _ (by rw[mF _ _ hk];lia)).trans ?_;rw[Array.toList_push,append_assoc];exact(lL _ _ _ hy).append_left _
def Fm {α:Type}(next:Nat->Nat)(xs:Array α):(pickOrder next xs).toList.Perm xs.toList:=by
 grind[C2,pickOrder]
def bd:Slot "set_iterator" "__next__" "set_iterator.__next__" :=
 .of (owner:="set_iterator") (n:="__next__") I9 S9 S9 S9
  (by first|exact .inl S9|exact .inr _) N8
def dW:entryFor table "set_iterator.__next__" = some Builtin.«set_iterator.__next__»:=entryFor_of_tree N8
def fw (a:Value):argsOk "set_iterator.__next__" ⟨[a],[]⟩:=N8
def ly:Slot "set_iterator" "__iter__" "set_iterator.__iter__" :=
 .of (owner:="set_iterator") (n:="__iter__") I9 S9 S9 S9
  (by first|exact .inl S9|exact .inr _) N8
def qP:entryFor table "set_iterator.__iter__" = some Builtin.«dict_keyiterator.__iter__» :=
 entryFor_alias (id':="dict_keyiterator.__iter__") N8 rr S9 N8
def tL (a:Value):argsOk "set_iterator.__iter__" ⟨[a],[]⟩:=N8
def pG:entryFor table "set.__iter__" = some Builtin.«frozenset.__iter__» :=
 entryFor_alias (id':="frozenset.__iter__") N8 rr S9 N8
noncomputable abbrev lM (M:Value)(i:Nat)(S:Addr)(n O:Nat):Obj:={ cls:=.type "set_iterator",data:=.fields #[M,.int i 0,.ref S,.int n 0,.int O 0] }
section
variable {prog:Program}{w:World}{A:Around}{E:QV}{s:Shared}{it S:Addr}{i ep:Nat}{o:Obj}{es:Array (Int×Value)}{t:SetTable}
def cV (ho:s.heap.get? it=some (lM M i S n ep)):s.TypeIs (.ref it) "set_iterator":=⟨_,ho,rr⟩
def wQ {k k':Nat}{x:Value}{Q:Option Value->Shared->Prop}(ho:s.heap.get? it=some (lM (.int k 0) i S es.size ep))
  (hS:s.heap.get? S=some o) (hd:o.data=.set es ep t) (hf:t.fits es.size=true)
  (O:∀(U:Around)(a:QV)(M:Option (Value×Nat)->Shared->Prop),M (some (x,k')) s->wpAny (model prog w) U (setNext S k i ep) M a s)
  (b:∀h',h'.get? it=some (lM (.int k' 0) (i+1) S es.size ep)->Heap.SameBut it s.heap h'->Q (some x) { s with heap:=h' }):
  wpAny (model prog w) A (pyNext (.ref it)) Q E s:=by
 refine wX (wpAny_attempt (wpAny_callSpecial?_slot (cV ho) bd
  (wpAny_call_entry bd (cV ho) dW ?_ (fw _))))
 show wpAny _ _ (fieldsOf _>>=_) _ _ s;refine wX (wpAny_fieldsOf ho rr ?_);refine wX (wpAny_setEntries_of hS hd hf ?_);rw[if_neg X9];refine wX (O _ _ _ ?_);refine wX (wpAny_setField_rec ho X9 λh1 c b1=>?_);refine wX (wpAny_setField_rec c X9 λh2 e2 b2=>?_);exact wY ⟨x,rr,wY (b h2 (by simpa [rawInt,lM]using e2) (b1.trans b2))⟩
def wR {k:Nat}{Q:Option Value->Shared->Prop}(hh:A.handled=none)(ho:s.heap.get? it=some (lM (.int k 0) i S es.size ep))
  (hS:s.heap.get? S=some o) (hd:o.data=.set es ep t) (hf:t.fits es.size=true)
  (O:∀(U:Around)(a:QV)(M:Option (Value×Nat)->Shared->Prop),M none s->wpAny (model prog w) U (setNext S k i ep) M a s)
  (b:∀h',Heap.ExtBut it s.heap h'->Q none { s with heap:=h' }):
  wpAny (model prog w) A (pyNext (.ref it)) Q E s:=by
 refine wX (wpAny_attempt (wpAny_callSpecial?_slot (cV ho) bd
  (wpAny_call_entry bd (cV ho) dW ?_ (fw _))))
 show wpAny _ _ (fieldsOf _>>=_) _ _ s;refine wX (wpAny_fieldsOf ho rr ?_);refine wX (wpAny_setEntries_of hS hd hf ?_);rw[if_neg X9];refine wX (O _ _ _ ?_);refine wX (wpAny_setField_rec ho X9 λh1 c b1=>?_);refine wX ?_;refine wX (m:=firstArgMember _ _) (wpAny_of_eq I9 ?_);refine wpAny_newObj_type ?_ X8;refine wX (wpAny_handled ?_);rw[show A.in1.handled=none from hh];refine wX (wY (wpAny_throw ?_));refine wX (wpAny_isInstance ⟨_,vY _ rr,rr⟩ isSubtype_stop ?_);exact wY (b _ ((b1.extBut.push _).push _))
def tM {T:Addr}{pl:LN}{p:Nat}{x:Int×Value}{nt:Nat}{Q:Option Value->Shared->Prop}(ho:s.heap.get? it=some (lM (.ref T) i S es.size ep))
  (O:s.heap.get? T=some (seqObj "tuple" (pl.map λ(p:Nat)=>Value.int p 0).toArray nt))
  (hS:s.heap.get? S=some o) (hd:o.data=.set es ep t) (hf:t.fits es.size=true) (hp:pl[i]? = some p) (hx:es[p]? = some x)
  (U:∀h',h'.get? it=some (lM (.ref T) (i+1) S es.size ep)->Heap.SameBut it s.heap h'->Q (some x.2) { s with heap:=h' }):
  wpAny (model prog w) A (pyNext (.ref it)) Q E s:=by
 refine wX (wpAny_attempt (wpAny_callSpecial?_slot (cV ho) bd
  (wpAny_call_entry bd (cV ho) dW ?_ (fw _))))
 show wpAny _ _ (fieldsOf (.ref it)>>=_) _ _ s;refine wX (wpAny_fieldsOf ho rr ?_);refine wX (wpAny_setEntries_of hS hd hf ?_);rw[if_neg X9];refine wX (wpAny_seqItems O rr ?_);have M:(pl.map λ(p:Nat)=>Value.int p 0).toArray[(i:Int).toNat]? = some (.int p 0):=by simp[hp]
 dsimp only;rw[M];have e2:wpAny (model prog w) A.in1 (setNextDrawn S (p:Int).toNat (ep:Int).toNat) (λy s'=>y=x.2/\s'=s) (λ_ _=>False) s:=by
  refine wX (wpAny_setState_of hS hd hf ?_);simp_all[wY]
 refine wX (wpAny_mono e2 (λy s' hy=>?_) λ_ _ z=>z.elim);obtain⟨rfl,rfl⟩:=hy;refine wX (wpAny_setField_rec ho X9 λh1 M b1=>?_);exact wY ⟨_,rr,wY (U h1 (by simpa [rawInt,lM]using M) b1)⟩
def tN {T:Addr}{pl:LN}{nt:Nat}{Q:Option Value->Shared->Prop}(hh:A.handled=none)(ho:s.heap.get? it=some (lM (.ref T) i S es.size ep))
  (O:s.heap.get? T=some (seqObj "tuple" (pl.map λ(p:Nat)=>Value.int p 0).toArray nt))
  (hS:s.heap.get? S=some o) (hd:o.data=.set es ep t) (hf:t.fits es.size=true) (hp:pl[i]? = none)
  (U:∀h',Heap.ExtBut it s.heap h'->Q none { s with heap:=h' }):
  wpAny (model prog w) A (pyNext (.ref it)) Q E s:=by
 refine wX (wpAny_attempt (wpAny_callSpecial?_slot (cV ho) bd
  (wpAny_call_entry bd (cV ho) dW ?_ (fw _))))
 show wpAny _ _ (fieldsOf _>>=_) _ _ s;refine wX (wpAny_fieldsOf ho rr ?_);refine wX (wpAny_setEntries_of hS hd hf ?_);rw[if_neg X9];refine wX (wpAny_seqItems O rr ?_);have M:(pl.map λ(p:Nat)=>Value.int p 0).toArray[(i:Int).toNat]? = none:=by simpa using hp
 dsimp only;rw[M];refine wX (wpAny_setField_rec ho X9 λh0 a b=>?_);refine wX (wpAny_setField_rec a X9 λh1 M b1=>?_);refine wX ?_;refine wX (m:=firstArgMember _ _) (wpAny_of_eq I9 ?_);refine wpAny_newObj_type ?_ X8;refine wX (wpAny_handled ?_);rw[show A.in1.handled=none from hh];refine wX (wY (wpAny_throw ?_));refine wX (wpAny_isInstance ⟨_,vY _ rr,rr⟩ isSubtype_stop ?_);exact wY (U _ (((b.trans b1).extBut.push _).push _))
def yF (ho:s.heap.get? it=some (lM M i S n ep))(h:Q (.ref it) s):wpAny (model prog w) A (pyIter (.ref it)) Q E s:=by
 refine wpAny_pyIter_slot (cV ho) ly (wpAny_call_entry ly (cV ho) qP ?_ (tL _));exact wY ⟨_,rr,"set_iterator",_,cV ho,bd.lookup,h⟩
end
section
variable {prog:Program}{w:World}{A:Around}{E:QV}{s:Shared}{it S:Addr}{i k ep:Nat}{o:Obj}{es:Array (Int×Value)}{t:SetTable}
def ur (hS:s.heap.get? S=some o)(hd:o.data=.set es ep t)(hf:t.fits es.size=true)(hb:w.params.followText "set-order" = true)
  (h:Q (((pickOrder (w.params.setOrder S ep) es)[i]?).map λe=>(e.2,k)) s):wpAny (model prog w) A (setNext S k i ep) Q E s:=by
 refine wX (wpAny_setState_of hS hd hf ?_);show wpAny _ _ (if w.params.followText _=true then _ else _) _ _ _;rw[if_pos hb,if_neg X9];refine wX (wX (wpAny_setState_of hS hd hf ?_));show wpAny _ _ (if w.params.followText _=true then _ else _) _ _ _;rw[if_pos hb];refine wX (wpAny_askSetting (wY ?_));exact wY h
def qQ (hS:s.heap.get? S=some o)(hd:o.data=.set es ep t)(hf:t.fits es.size=true)(hb:w.params.followText "set-order" = false)(hl:t.led=true)(hz:es.size<=1)
  (h:Q (match es[SetTable.below t.place k]?,t.place[SetTable.below t.place k]? with
   |some (_,x),some j=>some (x,j+1)
   |_,_=>none) s):wpAny (model prog w) A (setNext S k i ep) Q E s:=by
 refine wX (wpAny_setState_of hS hd hf ?_);show wpAny _ _ (if w.params.followText _=true then _ else _) _ _ _;rw[if_neg (by rw[hb];simp)];show wpAny _ _ (if(!t.plain && decide _)=true then _ else _) _ _ _;rw[if_neg (by simp_all)];show wpAny _ _ ((if(!t.led && !es.isEmpty)=true then unsupported _ else pure ())>>=_) _ _ _;rw[hl];exact wY h
def ut (hh:A.handled=none)(hd:o.data=.set es ep t)(hf:t.fits es.size=true)(c:S≠it)(vs:LU)(hv:vs.length=es.size)(sl:Nat->Nat)
  (d:∀i x,vs[i]? = some x->∀(O:Around)(U:QV)(s:Shared)(M:Option (Value×Nat)->Shared->Prop),s.heap.get? S=some o->M (some (x,sl (i+1))) s->wpAny (model prog w) O (setNext S (sl i) i ep) M U s)
  (f:∀(O:Around)(U:QV)(s:Shared)(M:Option (Value×Nat)->Shared->Prop),s.heap.get? S=some o->M none s->wpAny (model prog w) O (setNext S (sl es.size) es.size ep) M U s):
  Walks prog w A it [it,S] [it] es.size (λi v=>vs[i]? = some v) (λi h=>h.get? it=some (lM (.int (sl i) 0) i S es.size ep)/\h.get? S=some o) where
 sub:=λb hb=>by simp at hb;simp[hb]
 frame:=λ_ _ _ st hk=>⟨hk it X9 _ st.1,hk S X9 _ st.2⟩
 item:=λi s Q E hi st a=>by
  obtain⟨x,hx⟩:∃x,vs[i]? = some x:=⟨_,vU N9⟩;refine wQ st.1 st.2 hd hf (λO U M q=>d i x hx O U s M st.2 q) λh' h1 h2=>?_;exact a x h' _ hx ⟨h1,h2.extBut S _ c st.2⟩ λb u hb e=>h2.extBut b u (λz=>hb (by simp[z])) e
 done:=λs Q E st a=>wR hh st.1 st.2 hd hf (λO U M q=>f O U s M st.2 q) λh' h1=>a h' _ λb u hb e=>h1 b u (λz=>hb (by simp[z])) e
 self:=λ_ _ _ _ st a=>yF st.1 a
def Bf {T:Addr}{pl:LN}{nt:Nat}(hh:A.handled=none)(hd:o.data=.set es ep t)(hf:t.fits es.size=true)(U:S≠it)(a:T≠it)(hp:pl.Perm (List.range es.size)):
  Walks prog w A it [it,S,T] [it] es.size (λi v=>(pl.map λp=>(es.getD p (0,.none)).2)[i]? = some v)
   (λi h=>h.get? it=some (lM (.ref T) i S es.size ep)/\h.get? S=some o/\h.get? T=some (seqObj "tuple" (pl.map λ(p:Nat)=>Value.int p 0).toArray nt)) where
 sub:=λb hb=>by simp at hb;simp[hb]
 frame:=λ_ _ _ st hk=>⟨hk it X9 _ st.1,hk S X9 _ st.2.1,hk T X9 _ st.2.2⟩
 item:=λi s Q E hi st M=>by
  have O:pl.length=es.size:=by rw[hp.length_eq,length_range]
  obtain⟨p,hx⟩:∃p,pl[i]? = some p:=⟨_,vU N9⟩;have c:=mem_range.mp (hp.mem_iff.mp (vL hx));have he:es[p]? = some (es.getD p (0,.none)):=by simp_all
  refine tM st.1 st.2.2 st.2.1 hd hf hx he λh' h1 h2=>?_;exact M _ h' s.toks (by simp[hx]) ⟨h1,h2.extBut S _ U st.2.1,h2.extBut T _ a st.2.2⟩ λb u hb e=>h2.extBut b u (λz=>hb (by simp[z])) e
 done:=λs Q E st M=>by
  have O:pl.length=es.size:=by rw[hp.length_eq,length_range]
  exact tN hh st.1 st.2.2 st.2.1 hd hf (getElem?_eq_none N9) λh' h1=>M h' s.toks λb u hb e=>h1 b u (λz=>hb (by simp[z])) e
 self:=λ_ _ _ _ st M=>yF st.1 M
end
def Bg {α:Type}(es:Array α)(d:α):(List.range es.size).map (λp=>es.getD p d)=es.toList:=by
 apply ext_getElem?;intro i;by_cases h:i<es.size
 .simp_all
 simp_all
section
variable {prog:Program}{w:World}{A:Around}{E:QV}{s:Shared}
def uu (h:xs=#[j]):SetTable.below xs k=if j<k then 1 else 0:=by
 simp_all[SetTable.below,SetTable.below.go]
def Ic {S:Addr}{c:LS}{Q:QV}(hS:jb prog w s.heap S c)
  (m:∀(h':Heap)(d:Drawn)(it:Addr)(vs:LU)(fp:List Addr)(St:Nat->Heap->Prop),(∀U,U.handled=none->Walks prog w U it fp [it] c.length (λi v=>vs[i]? = some v) St)->St 0 h' ->
   (∀b u,s.heap.get? b=some u->h'.get? b=some u)->s.z<=it->(∀b∈fp,b=S\/s.z<=b)->vs.length=c.length->(vs.map strOf).Perm c->(∀v∈vs,∃x t,v=.str x t) ->
   Q (.ref it) { s with heap:=h',drawn:=d }):wpAny (model prog w) A (pyIter (.ref S)) Q E s:=by
 obtain⟨o,es,a,t,ho,G,hd,H,hp,nd,hb,hf,I,J⟩:=hS;have sz:es.size=c.length:=by rw[<-hp.length_eq,vI,vG]
 have B:S<s.z:=vX ho;have f:s.TypeIs (.ref S) "set":=⟨_,ho,G.1⟩;have K:∀e∈es.toList,∃x t,e.2=.str x t:=λe he=>by
  obtain⟨⟨k,hk,_⟩,_⟩:=H e he;obtain⟨t,q⟩:=Value.isStrOf_shape (show Value.isStrOf k e.2=true from hk);exact⟨k,t,q⟩
 refine wpAny_pyIter_slot f slot_set_iter (wpAny_call_entry slot_set_iter f pG ?_ (PySem.F.args_set_iter_1 _));show wpAny _ _ (Builtin.Frozenset.sizeOf S>>=_) _ _ s;unfold Builtin.Frozenset.sizeOf;refine wX (wX (wpAny_setEntries_of ho hd hf (wY ?_)));unfold setDrawn setsByText;refine wX (wX (wpAny_setState_of ho hd hf ?_));dsimp only;refine wX (wX (wpAny_askSetting (wY (wY ?_))));show wpAny _ _ (if(!w.params.followText "set-order" && (!t.plain && decide (es.size > 1)))=true then _ else _) _ _ _;have C:(es.toList.map (·.2)).map strOf=es.toList.map (λe=>strOf e.2):=by rw[uP];rfl
 by_cases M:w.params.followText "set-order" = true
 .rw[if_neg (by rw[M];simp)];refine wX (wY ?_);refine wX (wpAny_setEpoch_of ho hd hf ?_);have pp:=Fm (w.params.setOrder S a) es;have D:((pickOrder (w.params.setOrder S a) es).toList.map (·.2)).length=es.size:=by rw[vI,pp.length_eq,vG]
  refine wX (wpAny_newObj_type (wY ⟨_,rr,"set_iterator",_,⟨_,vY _ rr,rr⟩,bd.lookup,?_⟩));refine m _ s.drawn s.z ((pickOrder (w.params.setOrder S a) es).toList.map (·.2)) [s.z,S] (λi h=>h.get? s.z=some (lM (.int ((λ_=>0:Nat->Nat) i:Nat) 0) i S es.size a)/\h.get? S=some o) (λU g=>?_) ?_ (λb u e=>vZ _ e) (vT _) (λb hb=>?_) (D.trans sz) ?_ ?_
  .rw[<-sz];exact ut g hd hf (vS B) _ D (λ_=>0) (λi x hx U n s r h1 h2=>ur h1 hd hf M (by
    rw[vA,Array.getElem?_toList]at hx;obtain⟨e,he,rfl⟩:=oY hx;rw[he];exact h2)) (λU n s r h1 h2=>ur h1 hd hf M (by
    simp_all))
  .exact⟨vY _ rr,vZ _ ho⟩
  .grind
  .grind
  grind
 .rw[Bool.not_eq_true]at M;have hl:t.led=true:=by rw[I,M];rfl
  by_cases h1:es.size<=1
  .rw[if_neg (by simp_all)];refine wX (wY ?_);refine wX (wpAny_setEpoch_of ho hd hf ?_);refine wX (wpAny_newObj_type (wY ⟨_,rr,"set_iterator",_,⟨_,vY _ rr,rr⟩,bd.lookup,?_⟩));have L:t.place.size=es.size:=by
    simp_all[SetTable.fits]
   refine m _ s.drawn s.z (es.toList.map (·.2)) [s.z,S] (λi h=>h.get? s.z=some (lM (.int ((λi=>if i=0 then 0 else t.place.getD 0 0+1:Nat->Nat) i:Nat) 0) i S es.size a)/\h.get? S=some o) (λU g=>?_) ?_ (λb u e=>vZ _ e) (vT _) (λb hb=>?_) (by simp_all) (by rw[C];exact hp) ?_
   .rw[<-sz];refine ut g hd hf (vS B) _ X9 (λi=>if i=0 then 0 else t.place.getD 0 0+1) (λi x hx U n s r y q2=>qQ y hd hf M hl h1 ?_) (λU n s r y q2=>qQ y hd hf M hl h1 ?_)
    .have hi:i<es.size:=by have:=(vV hx).1;simpa using this
     have N:i=0:=N9
     subst N;obtain⟨j,hj⟩:∃j,t.place=#[j]:=Array.size_eq_one_iff.mp N9;rw[if_pos rr,uu hj,if_neg N9];rw[vA,Array.getElem?_toList]at hx;obtain⟨e,he,rfl⟩:=oY hx;rw[he];simp only[hj]at q2 |-;simpa using q2
    .by_cases h0:es.size=0
     .have l:t.place=#[]:=Array.eq_empty_of_size_eq_zero N9;have z:es=#[]:=Array.eq_empty_of_size_eq_zero h0;rw[l,z];simpa using q2
     .obtain⟨j,hj⟩:∃j,t.place=#[j]:=Array.size_eq_one_iff.mp N9;rw[if_neg h0,uu hj];have:t.place.getD 0 0=j:=by rw[hj];rfl
      rw[this,if_pos N9,Array.getElem?_eq_none N9];exact q2
   .exact⟨vY _ rr,vZ _ ho⟩
   .grind
   grind
  .have l:t.plain=false:=J N9;rw[if_pos (by simp_all)];refine wX (C1 es.size (List.range es.size) _ _ X9 λpl d pp=>?_);refine wX (wpAny_newTuple ?_ (by rw[vI,pp.length_eq,length_range,sz];exact fits_of_scanBound hb));refine wX (wpAny_setEpoch_of (vZ _ ho) hd hf ?_);refine wX (wpAny_newObj_type (wY ⟨_,rr,"set_iterator",_,⟨_,vY _ rr,rr⟩,bd.lookup,?_⟩));have hsz:(s.heap.push (seqObj "tuple" (pl.map λ(p:Nat)=>Value.int p 0).toArray 0)).objs.size=s.z+1:=size_push' _ _;have O:((pl.map λp=>(es.getD p (0,.none)).2)).Perm (es.toList.map (·.2)):=by
    have:=(pp.map λp=>es.getD p (0,Value.none)).map (·.2);rw[Bg]at this;rw[uP]at this;exact this
   refine m _ d _ (pl.map λp=>(es.getD p (0,.none)).2) [(s.heap.push (seqObj "tuple" (pl.map λ(p:Nat)=>Value.int p 0).toArray 0)).objs.size,S,s.z] (λi h=>h.get? (s.heap.push (seqObj "tuple" (pl.map λ(p:Nat)=>Value.int p 0).toArray 0)).objs.size=some (lM (.ref s.z) i S es.size a)/\h.get? S=some o/\h.get? s.z=some (seqObj "tuple" (pl.map λ(p:Nat)=>Value.int p 0).toArray 0)) (λU g=>?_) ?_ (λb u e=>vZ _ (vZ _ e)) ?_ (λb hb=>?_) ?_ ?_ ?_
   .rw[<-sz];exact Bf (nt:=0) g hd hf (by simp_all[vS,lt_succ_of_lt]) X9 pp
   .exact⟨vY _ rr,vZ _ (vZ _ ho),vZ _ (vY _ rr)⟩
   .simp
   .grind
   .rw[O.length_eq,vI,vG,sz]
   .exact((O.map strOf).trans (by rw[C])).trans hp
   .intro v hv;obtain⟨e,he,rfl⟩:=vO (O.mem_iff.mp hv);exact K e he
end
def Fo (h:ItemsOf (λi v=>vs[i]? = some v) M vs.length):M.toList=vs:=by
 apply ext_getElem?;intro i;by_cases hi:i<M.size
 .have e:=Array.getElem?_eq_getElem hi;rw[Array.getElem?_toList,e,h.2 i _ e]
 .rw[getElem?_eq_none (by rw[vG];lia),getElem?_eq_none (by rw[<-h.1];lia)]
section
variable {prog:Program}{w:World}{A:Around}{E:QV}{s:Shared}
def yG (hh:A.handled=none)(hS:jb prog w s.heap S ts)
  (q:∀s' vs,(∀b u,s.heap.get? b=some u->s'.heap.get? b=some u)->s'.gens=s.gens->s'.os=s.os->vs.length=ts.length->(vs.map strOf).Perm ts->(∀v∈vs,∃x t,v=.str x t)->Q vs s'):
  wpAny (model prog w) A (collect (.ref S)) Q E s:=by
 have M:∀(s1:Shared),jb prog w s1.heap S ts->s1.TypeIs (.ref S) "set":=λs1 h=>by
  obtain⟨o,_,_,_,ho,r,_⟩:=h;exact⟨o,ho,r.1⟩
 have y:S<s.z:=by obtain⟨o,_,_,_,ho,_⟩:=hS;exact vX ho
 have U:ts.length<scanBound:=by obtain⟨_,_,_,_,_,_,_,_,_,_,h,_⟩:=hS;exact h
 unfold collect;refine wX (wpAny_runValue (codeAny_builtin PySem.F.entry_proto_collect ?_));refine wX (wpAny_newObj_type ?_);refine wY ⟨plainId_quiet PySem.F.plain_list_iadd _,codeAny_builtin PySem.F.entry_list_iadd ?_⟩;show wpAny _ A.in1 (Builtin.List.listExtendWith (.ref s.z) (.ref S) (.ref s.z)) _ _ _;unfold Builtin.List.listExtendWith;have a:jb prog w (s.heap.push { cls:=.type "list",data:=.seq ([]:LU).toArray }) S ts:=hS.at λo e=>vZ _ e;refine wX (wpAny_typeOf (M _ a) ?_);have B:s.z≠S:=ne_of_gt y;have h1:Builtin.List.listSameRef (.ref s.z) (.ref S)=false:=by simp[Builtin.List.listSameRef,B]
 have h2:(Value.type "set" == Value.type "list")=false:=H9
 have h3:(Value.type "set" == Value.type "tuple")=false:=H9
 simp only[h1,h2,h3,Bool.or_false,uV,if_false];refine wX (Ic a λh' d it vs fp St W C hk tE D l c G=>?_);have i:jb prog w h' S ts:=a.at λo e=>hk _ _ e;refine wX (wpAny_holding ?_);unfold Builtin.List.listLengthHint;refine wX (wpAny_specialOf (M _ i) PySem.F.slot_set_len.lookup ?_);wp_delta;refine wX (wpAny_isInstance (M _ i) sub_set_self ?_);refine wX (wpAny_typeOf (M _ i) ?_);refine wY ?_;rw[if_pos H9];refine wX (wpAny_rule ?_);refine wX ?_;have H:(s.heap.push { cls:=.type "list",data:=.seq ([]:LU).toArray }).objs.size=s.z+1:=size_push' _ _;have f:=hk _ _ (vY _ rr);refine wX (wpAny_updateSeq f rr ?_);have g:=Heap.get?_update_self (Obj.mapSeq (·.push Value.none)) f rr;refine wpAny_updateSeq g rr ?_;have j:=Heap.get?_update_self (Obj.mapSeq (·.pop)) g rr;have m:s.z∉fp:=λhm=>by
  grind
 have n:∀b u,b≠s.z->h'.get? b=some u ->
   ((h'.update s.z (Obj.mapSeq (·.push Value.none))).update s.z (Obj.mapSeq (·.pop))).get? b=some u:=
  λb u hb e=>(Heap.get?_update_other _ _ (Ne.symm hb)).trans ((Heap.get?_update_other _ _ (Ne.symm hb)).trans e)
 have p:=W A.in1 hh;refine wY ⟨plainId_quiet plain_extend_loop _,codeAny_extend_loopS p.toS (fits_of_scanBound U) _ m _ ts.length 0 _ _ _ rr (uN _)
  (p.frame 0 _ _ C λb hb u e=>n b u (λz=>m (z ▸ hb)) e) j (ItemsOf.nil _) λs' I J hm k O=>?_⟩
 refine wX (wpAny_load k ?_);rw[<-l]at O;refine wY ?_;show Q I.toList s';rw[Fo O];refine q s' vs (λb u e=>hm.heap b u (λhb=>?_) (n b u (vS (vX e)) (hk _ _ (vZ _ e)))) hm.gens hm.os l c G;have hl:=vX e;simp_all<;>lia
def Bh (hh:A.handled=none)(hS:jb prog w s.heap S ts)(i:ts.length<64)
  (j:∀(s1:Shared)(h':Heap)(a:Addr)(out:AV)(n:Nat)(M:LS),(∀b u,s.heap.get? b=some u->s1.heap.get? b=some u)->s1.os=s.os->s1.gens=s.gens->(∀b u,s1.heap.get? b=some u->h'.get? b=some u)->s1.z<=a->h'.get? a=some (seqObj "list" out n) ->
   StrsAre out.toList M->M.Perm ts->sortedS M=true->Q (.ref a) { s1 with heap:=h' }):
  wpAny (model prog w) A (call (.builtin "sorted") [.ref S]) Q E s:=by
 refine Calls.call_function_entry kind_sorted plain_sorted entry_sorted (args_sorted1 _) ?_;refine wX (wY ?_);refine wX (yG (by exact hh) hS λs1 vs hk k c f O l=>?_);have U:=strsAre_map vs l;refine wX (wpAny_newList ?_ (by rw[f,sizeLine_eq];lia));have d:(s1.heap.push _).get? _=some (seqObj "list" vs.toArray 0):=vY _ rr;refine wX (wpAny_holding (wpAny_call_entry slot_list_sort ⟨_,d,rr⟩ entry_list_sort (list_sort_treeK strKind_oneLt d U.keysOf (λg h aj e=>keyKind_strs (by rw[<-e];exact U)) (by rw[f];exact i) λp m o=>⟨_,rr,?_⟩) (args_list_sort _)));obtain⟨M,b1,b2,b3⟩:=sorted_out_str U m o;obtain⟨e,he⟩:=sortedHeap_at d;refine wY ⟨_,rr,j s1 _ _ _ e M hk c k (λb u q=>?_) (vT _) he b1 (b2.trans O) b3⟩;have hl:=vX q;rw[sortedHeap_old (vS hl) (by simp_all[lt_succ_of_lt])];exact vZ _ q
end
end DL
namespace DL
open PySem PySem.Spec PyProof.Rows L2
def yH (a b:Str):Prop:=¬b.cps.toList<a.cps.toList
def C3:ltCps b.cps.toList a.cps.toList=false↔yH a b:=by rw[ltCps_eq,decide_eq_false_iff_not];rfl
def uw (h:yH a b)(k:yH b c):yH a c:=by
 grind[yH]
def Ie (h:yH a b)(k:yH b a):a=b:=by
 have e:=List.le_antisymm (not_lt.mp h) (not_lt.mp k);obtain⟨a⟩:=a;simp_all
noncomputable def Bi (x:Str):LS->LS
 |[]=>[x]
 |y::r=>if ltCps y.cps.toList x.cps.toList then y::Bi x r else x::y::r
def mG (l:LS):LS:=l.foldr Bi []
theorem nV (x:Str):∀l,(Bi x l).Perm (x::l)
 |[]=>List.Perm.refl _
 |y::r=>by
  unfold Bi;split
  .exact((nV x r).cons y).trans (List.Perm.swap x y r)
  rfl
theorem cW:∀l,(mG l).Perm l
 |[]=>List.Perm.refl _
 |x::l=>(nV x _).trans ((cW l).cons x)
theorem ux (x:Str):∀l,l.Pairwise yH->(Bi x l).Pairwise yH
 |[],_=>by simp[Bi]
 |y::r,h=>by
  obtain⟨h1,h2⟩:=pairwise_cons.mp h;unfold Bi;split
  .rename_i hl;refine pairwise_cons.mpr ⟨λz hz=>?_,ux x r h2⟩;rcases vP ((nV x r).mem_iff.mp hz)with rfl|hz
   .rw[ltCps_eq,decide_eq_true_eq]at hl;exact λk=>lt_irrefl _ (lt_trans hl k)
   simp_all
  .rename_i hl;rw[Bool.not_eq_true]at hl;have M:=C3.mp hl;refine pairwise_cons.mpr ⟨λz hz=>?_,h⟩;rcases vP hz with rfl|hz
   .exact M
   .exact uw M (h1 z hz)
theorem qR:∀l,(mG l).Pairwise yH
 |[]=>List.Pairwise.nil
 |x::l=>ux x _ (qR l)
theorem oZ:∀(l:LS)(p:Str),risingS p l=true->(p::l).Pairwise yH
 |[],p,_=>List.pairwise_singleton _ _
 |x::r,p,h=>by
  have h':(!ltCps _ _ && risingS x r)=true:=h;rw[vC]at h';have M:=C3.mp (by simpa using h'.1);have O:=oZ r x h'.2;refine pairwise_cons.mpr ⟨λz hz=>?_,O⟩;rcases vP hz with rfl|hz
  .exact M
  .exact uw M ((pairwise_cons.mp O).1 z hz)
theorem yI:∀(l:LS),sortedS l=true->l.Pairwise yH
 |[],_=>List.Pairwise.nil
 |x::r,h=>oZ r x h
def yJ (a:Str):yH a a:=lt_irrefl _
theorem qS:∀(l1 l2:LS),l1.Perm l2->l1.Pairwise yH->l2.Pairwise yH->l1=l2
 |[],l2,p,_,_=>(nil_perm.mp p).symm
 |x::U,[],p,_,_=>absurd p.length_eq X9
 |x::U,y::a,p,h1,h2=>by
  have M:yH x y:=by
   rcases vP (p.mem_iff.mpr (mX ..))with z|z
   .rw[z];exact yJ _
   simp_all
  have O:yH y x:=by
   rcases vP (p.mem_iff.mp (mX ..))with z|z
   .rw[z];exact yJ _
   simp_all
  have e:=Ie M O;subst e;rw[qS U a (List.Perm.cons_inv p) (pairwise_cons.mp h1).2 (pairwise_cons.mp h2).2]
def Fp (p:M.Perm l)(h:sortedS M=true):M=mG l:=qS _ _ (p.trans (cW l).symm) (yI _ h) (qR l)
section
variable {X:Cx}
noncomputable def yK (X:Cx)(S:Addr)(M:LS):HO:=.ext λh=>jb X.prog X.w h S M
def nW (I:Inv X af σ H s)(k:∀b u,s.heap.get? b=some u->s1.heap.get? b=some u)(ho:s1.os=s.os)(O:s1.gens=s.gens):Inv X af σ H s1:=by
 have U:=I.step (d':=s1.drawn) (t':=s1.toks) (ch:=[]) (λ_ z=>nomatch z) (λb o _ _ _ e _=>k b o e) (λb o _ _ _ e _=>⟨o.slots,k b o e⟩) (λ_ _ _ _ n=>n)
  (λb o _ e=>⟨o,k b o e⟩) (λ_ _ e=>e) (λ_ _ _ e=>e) (λ_ _ e=>e) (λm hm=>?_) (I.hok.kept k) I.bare
 .obtain⟨h1,g1,d1,a,c⟩:=s1;simp_all
 .obtain⟨o,es,M,ho,r⟩:=hm;exact⟨o,es,M,k _ o ho,r⟩
def pe (hc:X.calm=true):b8 X (.type "set") (λxs H Q=>∃p ys ss,xs=[.ref p]/\eO X.K H p ys/\(∀its,aL ys its->StrsAre its ss)/\ss.length<4000/\∀S,H S=none->Q (.ref S) (upd H S (yK X S (f9 ss)))):=by
 intro af s σ H xs us Q I r h;obtain⟨p,ys,ss,rfl,hq,hs,U,q⟩:=h;obtain⟨u,rfl,a⟩:=fZ r;cases a
 refine I.lisE hq λits c pl hz=>?_;have M:=hs _ c;have O:its.length=ss.length:=by rw[<-M.strs,vI]
 refine qO (I.ok.hd hc) pl.isList (by simpa using M) (by simp [vH];unfold scanBound;lia) λh' tk hS hk=>?_;refine⟨.ref _,_,I.laid (λb u e=>hk b u (vX e) e) (vT _) ?_,rr,q _ (I.hok.fresh (vT _))⟩;refine⟨hS,?_,λh1 h2 z k=>z.at k⟩;obtain⟨o,_,_,_,ho,_⟩:=hS;exact⟨o,ho⟩
def pH (hc:X.calm=true):b8 X (.builtin "sorted") (λxs H Q=>∃S O,xs=[.ref S]/\H S=some (yK X S O)/\O.length<64/\∀l,H l=none->Q (.ref l) (upd H l (.lst ((mG O).map .str)))):=by
 intro af s σ H xs us Q I r h;obtain⟨S,O,rfl,hS,U,q⟩:=h;obtain⟨u,rfl,c⟩:=fZ r;cases c
 have d:=(I.hok S _ hS).1;refine Bh (I.ok.hd hc) d U λs1 h' a out n f k1 ho g k2 hp he i M j=>?_;have e:=Fp M j;subst e;have b:=nW I k1 ho g;have hv:∀ {its:List _}{zs:List _},StrsAre its zs->aL (zs.map V.str) its:=λz=>by
  induction z with
  |nil=>exact .nil
  |cons x t _ k=>exact .cons ⟨t,rr⟩ k
 refine⟨.ref a,_,b.laid k2 hp (show bf _ _ _ h' _ (.lst _)from ⟨?_,out.toList,n,hv i,he⟩),rr,q _ (b.hok.fresh hp)⟩;rw[vI,(cW O).length_eq,sizeLine_eq];lia
end
@[simp] def jM:D->OB
 |.lst ds=>(eP ds).bind λss=>if ss.length<64 then some (.lst ((mG (f9 ss)).map .str),true)else none
 |_=>none
@[simp] def Mz:D->OB
 |.lst ds=>(eP ds).bind λss=>if ss.length<4000 then some (.int ((f9 ss).length:Nat),false)else none
 |_=>none
def qT:bootBuiltins "sorted" = some (.builtin "sorted"):=S9
def O9:bootBuiltins "set" = some (.type "set"):=S9
theorem qU {K:Frag}{N:Hp}:∀(zs:LS),IsL K N (zs.map V.str) (zs.map D.str)
 |[]=>.nil
 |z::zs=>.cons (.str z) (qU zs)
section
variable {X:Cx}{e:Expr}{pos pos2 p p2:Pos}
def Bj (hc:X.calm=true)(m1:X.mg "sorted" = none)(m2:X.mg "set" = none)(he:JE X e f)(g1:Gl X "sorted")(d:Gl X "set")
  (h1:dv e [] X.env):JE X (.Call (.Name "sorted" p) [.Call (.Name "set" p2) [e] [] pos2] [] pos) (f1 jM f):=by
 refine PE.to (qy (pH hc) g1 m1 qT (de (nN (pe hc) d m2 O9 (de he fF h1) (he:=h1)) fF)) λσ H Q q=>?_;obtain⟨B,ρ,d',bb,g,r,M,q⟩:=q;refine eX M λa ex M=>?_;refine⟨B,ρ,a.1,a.2,g,r,ex,λv n N1 U i1 s=>?_⟩;obtain⟨xd,t⟩:=a;cases i1<;>try (simp[jM]at M;done)
 rename_i u vs ds h hl;refine eX M λss i M=>?_;split at M
 .rename_i j;cases M
  refine⟨_,_,ss,rr,U.nh.seq h,λits k=>iH k hl i,N9,λS hS=>⟨S,_,rr,au,lt_of_le_of_lt (mE ss) j,λl O=>?_⟩⟩;have b:=Ext.laid (o:=yK X S (f9 ss)) U.nh hS;have m:=Ext.laid (o:=.lst ((mG (f9 ss)).map V.str)) b.nh O;have c:H l=none:=((U.trans b).hh).free O;exact q _ _ _ ((U.trans b).trans m) (.lst (eO.of au) (qU _)) λ_=>⟨_,_,_,rr,rr,c,au,qU _⟩
 simp_all
end
end DL
namespace DL
open PySem PySem.Spec PySem.W PyProof.Rows
inductive Run (n:Nat)(lt:Nat->Nat->Bool){α:Type}:KasT α->α->Prop where
 |ret (a:α):Run n lt (.ret a) a
 |ask {i j:Nat}{k:Bool->KasT α}{a:α}(hi:i<n) (hj:j<n) (h:Run n lt (k (lt i j)) a):Run n lt (.ask i j k) a
def Run.bind {n:Nat}{lt:Nat->Nat->Bool}{α M:Type}{t:KasT α}{f:α->KasT M}{a:α}{b:M}(h:Run n lt t a)(k:Run n lt (f a) b):Run n lt (t.bind f) b:=by
 induction h with
 |ret a=>exact k
 |ask hi hj _ O=>exact .ask hi hj (O k)
def Run.wp {n:Nat}{lt:Nat->Nat->Bool}{α:Type}{M:Nat->Nat->(Bool->Shared->Prop)->Shared->Prop}{Q:α->Shared->Prop}{t:KasT α}{a:α}(J:Shared->Prop)
  (hc:∀i j C s,i<n->j<n->J s->(∀s',J s'->C (lt i j) s')->M i j C s) (h:Run n lt t a):∀ {s:Shared},J s->(∀s',J s'->Q a s')->t.kasWp M Q s:=by
 induction h with
 |ret a=>intro s O U;exact U s O
 |ask hi hj _ c=>intro s O U;exact hc _ _ _ _ hi hj O λs' b=>c b U
section
variable {n:Nat}{rk:Nat->Int}
noncomputable abbrev qV (rk:Nat->Int)(i j:Nat):Bool:=decide (rk i<rk j)
noncomputable def bR (rk:Nat->Int)(p:Array Nat)(k:Nat):Int:=rk (p.getD k 0)
structure pQ (n:Nat)(p:Array Nat):Prop where
 size:p.size=n
 perm:p.toList.Perm (List.range n)
def pQ.lt {p:Array Nat}(h:pQ n p){k:Nat}(hk:k<n):p.getD k 0<n:=by
 have M:k<p.size:=by rw[h.size];exact hk
 have:p.getD k 0=p[k]:=by simp_all
 rw[this];exact mem_range.mp (h.perm.mem_iff.mp X9)
def pQ.rev {p:Array Nat}(h:pQ n p)(i j:Nat):pQ n (kas_rev p i j):=
 ⟨(mirror_size _ _ _ _).trans h.size,(Array.perm_iff_toList_perm.mp (mirror_perm p i j _)).trans h.perm⟩
def pQ.bub {p:Array Nat}(h:pQ n p)(k d:Nat):pQ n (bubble p k d):=
 ⟨(bubble_size _ _ _).trans h.size,(Array.perm_iff_toList_perm.mp (bubble_perm p k d)).trans h.perm⟩
def wS {p:Array Nat}{i j:Nat}(hj:j<=p.size)(k:Nat):bR rk (kas_rev p i j) k=if i<=k/\k<j then bR rk p (i+j - 1 - k)else bR rk p k:=by
 unfold bR kas_rev;rw[Array.getD_eq_getD_getElem?,getElem?_mirror_all hj];split<;>simp_all
def Ig {p:Array Nat}{M d:Nat}(hs:M<p.size)(hd:d<=M)(k:Nat):bR rk (bubble p M d) k=if k=M - d then bR rk p M else if M - d<k/\k<=M then bR rk p (k - 1)else bR rk p k:=by
 unfold bR;simp [Array.getD_eq_getD_getElem?];rw[getElem?_bubble hs d hd];repeat' split
 all_goals rfl
def Up (rk:Nat->Int)(p:Array Nat)(m:Nat):Prop:=∀i j,i<=j->j<m->bR rk p i<=bR rk p j
def wT (rk:Nat->Int)(p:Array Nat)(m:Nat):Prop:=∀i j,i<=j->j<m->bR rk p j<=bR rk p i
def Rb (p:Array Nat):Up rk p 1:=λi j h1 h2=>by
 simp_all
theorem wU {p:Array Nat}(h:pQ n p){r:Nat}(hr:r<=n):∀(f m:Nat),r - m=f->1<=m->m<=r->Up rk p m->∃M,Run n (qV rk) (kas_asc p f m) M/\m<=M/\M<=r/\Up rk p M/\(M<r->bR rk p M<bR rk p (M - 1))
 |0,m,hf,h1,hm,hu=>⟨m,.ret m,vT _,hm,hu,λz=>by lia⟩
 |f+1,m,hf,h1,hm,hu=>by
  have a:=h.lt (k:=m) N9;have b:=h.lt (k:=m - 1) N9;by_cases hc:bR rk p m<bR rk p (m - 1)
  .refine⟨m,.ask a b ?_,vT _,hm,hu,λ_=>hc⟩;have:qV rk _ _=true:=mi hc;rw[this];exact .ret m
  .have O:Up rk p (m+1):=λi j U hj=>by
    by_cases e:j=m
    .subst e;by_cases e2:i=j
     .subst e2;exact Int.le_refl _
     .have:=hu i (j - 1) N9 N9;lia
    .exact hu i j U N9
   obtain⟨M,c,q2,d,g,l⟩:=wU h hr f _ N9 N9 N9 O;refine⟨M,.ask a b ?_,N9,d,g,l⟩;have:qV rk _ _=false:=oP hc;rw[this];exact c
def M0 (rk:Nat->Int)(p:Array Nat)(m q:Nat):Prop:=q+1<=m/\∀k,m - (q+1)<=k->k<m->bR rk p k=bR rk p (m - 1)
def yL {p:Array Nat}{m q:Nat}(hs:m<=p.size)(hf:M0 rk p m q)(k:Nat):bR rk (kas_rev p (m - (q+1)) m) k=bR rk p k:=by
 rw[wS hs];split
 .rename_i hk;rw[hf.2 k hk.1 hk.2,hf.2 _ N9 N9]
 .rfl
def C4 {p M:Array Nat}{m:Nat}(e:∀k,bR rk M k=bR rk p k)(h:wT rk p m):wT rk M m:=λi j h1 h2=>by rw[e,e];exact h i j h1 h2
def qW (p:Array Nat){m:Nat}(h:1<=m):M0 rk p m 0:=⟨h,λk h1 h2=>by
 grind⟩
theorem mH {r:Nat}(hr:r<=n):∀(f:Nat)(p:Array Nat)(m q:Nat),pQ n p->r - m=f->1<=m->m<=r->wT rk p m->M0 rk p m q->∃M O a,Run n (qV rk) (kas_desc f p m q) (M,O,a)/\pQ n M/\m<=O/\O<=r/\wT rk M O/\M0 rk M O a
 |0,p,m,q,h,hf,h1,hm,hd,hq=>⟨p,m,q,.ret _,h,vT _,hm,hd,hq⟩
 |f+1,p,m,q,h,hf,h1,hm,hd,hq=>by
  have b:=h.lt (k:=m) N9;have c:=h.lt (k:=m - 1) N9;have step:∀M:Array Nat,(∀k,bR rk M k=bR rk p k)->bR rk p m<=bR rk p (m - 1)->wT rk M (m+1):=λM e y i j t hj=>by
   rw[e,e];by_cases z:j=m
   .subst z;by_cases x:i=j
    .subst x;exact Int.le_refl _
    .have:=hd i (j - 1) N9 N9;lia
   .exact hd i j t N9
  by_cases hc:bR rk p m<bR rk p (m - 1)
  .have U:qV rk (p.getD m 0) (p.getD (m - 1) 0)=true:=mi hc;by_cases d:q > 0
   .have e:=yL (p:=p) (by rw[h.size];lia) hq;obtain⟨M,O,a,g1,g,v,l,o,s⟩:=mH hr f (kas_rev p (m - (q+1)) m) (m+1) 0 (h.rev _ _) N9 N9 N9 (step _ e N9) (qW _ N9);refine⟨M,O,a,.ask b c ?_,g,N9,l,o,s⟩;rw[U,if_pos rr,if_pos d];exact g1
   .obtain⟨M,O,a,g1,g,v,l,o,s⟩:=mH hr f p (m+1) 0 h N9 N9 N9 (step _ (λ_=>rr) N9) (qW _ N9);refine⟨M,O,a,.ask b c ?_,g,N9,l,o,s⟩;rw[U,if_pos rr,if_neg d];exact g1
  .have U:qV rk (p.getD m 0) (p.getD (m - 1) 0)=false:=oP hc;by_cases w:bR rk p (m - 1)<bR rk p m
   .have u:qV rk (p.getD (m - 1) 0) (p.getD m 0)=true:=mi w;refine⟨p,m,q,.ask b c ?_,h,vT _,hm,hd,hq⟩;rw[U,if_neg uX];refine .ask c b ?_;rw[u,if_pos rr];exact .ret _
   .have u:qV rk (p.getD (m - 1) 0) (p.getD m 0)=false:=oP w;have he:bR rk p m=bR rk p (m - 1):=N9
    obtain⟨M,O,a,g1,g,v,l,o,s⟩:=mH hr f p (m+1) (q+1) h N9 N9 N9 (step _ (λ_=>rr) N9) ⟨by have:=hq.1;lia,λk k1 k2=>by
     rw[Nat.add_sub_cancel];by_cases z:k=m
     .rw[z]
     .rw[hq.2 k N9 N9,he]⟩
    refine⟨M,O,a,.ask b c ?_,g,N9,l,o,s⟩;rw[U,if_neg uX];refine .ask c b ?_;rw[u,if_neg uX];exact g1
def yM {r:Nat}(hr:r<=n){p:Array Nat}(h:pQ n p){m:Nat}(h1:1<=m)(hm:m<=r)(hd:wT rk p m):∃M O,Run n (qV rk) (kas_tail3 m r p) (M,O)/\pQ n O/\1<=M/\M<=r/\Up rk O M:=by
 have hu:Up rk (kas_rev p 0 m) m:=λi j U hj=>by
  rw[wS (by rw[h.size];lia),wS (by rw[h.size];lia),if_pos N9,if_pos N9];exact hd _ _ N9 N9
 obtain⟨M,a,q2,b,c,_⟩:=wU (h.rev 0 m) hr _ m rr h1 hm hu;exact⟨M,_,a.bind (.ret _),h.rev 0 m,N9,b,c⟩
def yN {r:Nat}(hr:r<=n){p:Array Nat}(h:pQ n p){m:Nat}(hm:m+1<=r)(hd:wT rk p (m+1)):∃M O,Run n (qV rk) (kas_descPart m r p) (M,O)/\pQ n O/\1<=M/\M<=r/\Up rk O M:=by
 obtain⟨e,m1,c,g1,U,f,a,b,d⟩:=mH hr _ p _ 0 h rr N9 hm hd (qW _ N9);by_cases hq:c > 0
 .obtain⟨M,O,k1,k2,k3,k4,k5⟩:=yM hr (U.rev _ m1) N9 a (C4 (yL (by rw[U.size];lia) d) b);exact⟨M,O,g1.bind (by simp_all),k2,k3,k4,k5⟩
 .obtain⟨M,O,k1,k2,k3,k4,k5⟩:=yM hr U N9 a b;exact⟨M,O,g1.bind (by simp_all),k2,k3,k4,k5⟩
def Fs {p:Array Nat}(h:pQ n p)(hn:1<=n):∃M U,Run n (qV rk) (kas_count n p) (M,U)/\pQ n U/\1<=M/\M<=n/\Up rk U M:=by
 obtain⟨m,a,q2,d,b,l⟩:=wU h (vT n) (n - 1) 1 rr (vT 1) hn (Rb (rk:=rk) p);by_cases e:m=n
 .exact⟨m,p,a.bind (by rw[if_pos (by simp[e])];exact .ret _),h,q2,d,b⟩
 .have q:=l N9;have f:¬(m == n)=true:=by simp[e]
  by_cases g:m > 1
  .by_cases hc:bR rk p 0<bR rk p (m - 1)
   .refine⟨m,p,a.bind ?_,h,q2,d,b⟩;rw[if_neg f,if_pos g];refine .ask (h.lt N9) (h.lt N9) ?_;have:qV rk (p.getD 0 0) _=true:=mi hc;rw[this,if_pos rr];exact .ret _
   .have O:∀k,k<m->bR rk p k=bR rk p 0:=λk hk=>by
     have r:=b 0 k N9 hk;have s:=b k (m - 1) N9 N9;simp_all<;>lia
    have er:∀k,bR rk (kas_rev p 0 m) k=bR rk p k:=λk=>by
     rw[wS (by rw[h.size];lia)];split
     .rename_i z;rw[O _ N9,O k z.2]
     .rfl
    have hd:wT rk p (m+1):=λi j c hj=>by
     grind
    obtain⟨M,U,k1,k2,k3,k4,k5⟩:=yN (vT n) (h.rev 0 m) (m:=m) N9 (C4 er hd);refine⟨M,U,a.bind ?_,k2,k3,k4,k5⟩;rw[if_neg f,if_pos g];refine .ask (h.lt N9) (h.lt N9) ?_;have:qV rk (p.getD 0 0) _=false:=oP hc;rw[this];exact k1
  .have o:m=1:=N9
   subst o;have hd:wT rk p 2:=λi j c hj=>by
    grind
   obtain⟨M,U,k1,k2,k3,k4,k5⟩:=yN (vT n) h (m:=1) N9 hd;refine⟨M,U,a.bind ?_,k2,k3,k4,k5⟩;simp_all
theorem nX {p:Array Nat}(h:pQ n p){k:Nat}(hk:k<n)(hu:Up rk p k):∀(f l r:Nat),r - l<=f->l<=r->r<=k->(∀i,i<l->bR rk p i<=bR rk p k)->(∀i,r<=i->i<k->bR rk p k<bR rk p i) ->
  ∃M,Run n (qV rk) (kas_place p k f l r) M/\M<=k/\(∀i,i<M->bR rk p i<=bR rk p k)/\(∀i,M<=i->i<k->bR rk p k<bR rk p i)
 |0,l,r,hf,hl,hr,h1,h2=>⟨l,.ret l,N9,h1,λi a b=>h2 i N9 b⟩
 |f+1,l,r,hf,hl,hr,h1,h2=>by
  by_cases O:l ≥ r
  .refine⟨l,?_,N9,h1,λi a b=>h2 i N9 b⟩;unfold kas_place;rw[if_pos O];exact .ret l
  .by_cases hc:bR rk p k<bR rk p ((l+r) / 2)
   .obtain⟨M,U,q2,c,d⟩:=nX h hk hu f l ((l+r) / 2) N9 N9 N9 h1 λi a b=>by
     have:=hu _ i a b;lia
    refine⟨M,?_,q2,c,d⟩;unfold kas_place;rw[if_neg O];refine .ask (h.lt N9) (h.lt N9) ?_;have:qV rk _ _=true:=mi hc;rw[this];exact U
   .obtain⟨M,U,q2,c,d⟩:=nX h hk hu f ((l+r) / 2+1) r N9 N9 hr (λi a=>by
     have:=hu i ((l+r) / 2) N9 N9;lia) h2
    refine⟨M,?_,q2,c,d⟩;unfold kas_place;rw[if_neg O];refine .ask (h.lt N9) (h.lt N9) ?_;have:qV rk _ _=false:=oP hc;rw[this];exact U
theorem C5:∀(f:Nat)(p:Array Nat)(k:Nat),pQ n p->n - k=f->k<=n->Up rk p k->∃M,Run n (qV rk) (kas_bin f p k) M/\pQ n M/\Up rk M n
 |0,p,k,h,hf,hk,hu=>⟨p,.ret p,h,(show k=n by lia) ▸ hu⟩
 |f+1,p,k,h,hf,hk,hu=>by
  have O:k<n:=N9
  obtain⟨l,g,q2,m,q⟩:=nX h O hu k 0 k N9 N9 (vT _) (λi z=>by lia) (λi a b=>by lia);have hsz:k<p.size:=by rw[h.size];exact O
  have U:Up rk (bubble p k (k - l)) (k+1):=λi j c hj=>by
   rw[Ig hsz N9,Ig hsz N9];have e:k - (k - l)=l:=N9
   rw[e];by_cases i1:i=l
   .grind
   .rw[if_neg i1];by_cases i2:l<i/\i<=k
    .rw[if_pos i2,if_neg N9,if_pos N9];exact hu _ _ N9 N9
    .rw[if_neg i2];by_cases d:j=l
     .rw[if_pos d];exact m i N9
     .rw[if_neg d];by_cases o:l<j/\j<=k
      .grind
      .rw[if_neg o];exact hu _ _ c N9
  obtain⟨M,k1,k2,k3⟩:=C5 f _ (k+1) (h.bub _ _) N9 N9 U;exact⟨M,g.bind k1,k2,k3⟩
def Ih (hn:1<=n):∃p,Run n (qV rk) (kas_sort n) p/\pQ n p/\Up rk p n:=by
 have h0:pQ n (List.toArray (List.range n)):=⟨X9,X9⟩;obtain⟨m,p,O,q2,b,c,U⟩:=Fs h0 hn;by_cases e:m<n
 .have M:max m 1=m:=N9
  obtain⟨a,k1,k2,k3⟩:=C5 _ p (max m 1) q2 rr N9 (by rw[M];exact U);exact⟨a,O.bind (by simp_all),k2,k3⟩
 .have:m=n:=N9
  subst this;exact⟨p,O.bind (by rw[if_neg e];exact .ret _),q2,U⟩
end
def Ft {a b c:LI}(h:a<b)(k:b<c):a<c:=lt_trans h k
def Fu {a b c:LI}(h:¬b<a)(k:¬c<b):¬c<a:=by grind
def Ii {a b:LI}(h:¬b<a)(k:¬a<b):a=b:=by grind
section
variable {α:Type}(f:α->LI)
def KY (a b:α):Prop:=¬f b<f a
noncomputable def nY (x:α):List α->List α
 |[]=>[x]
 |y::r=>if f y<f x then y::nY x r else x::y::r
noncomputable def dr (l:List α):List α:=l.foldr (nY f) []
theorem nZ (x:α):∀l,(nY f x l).Perm (x::l)
 |[]=>List.Perm.refl _
 |y::r=>by
  unfold nY;split
  .exact((nZ x r).cons y).trans (List.Perm.swap x y r)
  rfl
theorem a5:∀l,(dr f l).Perm l
 |[]=>List.Perm.refl _
 |x::l=>(nZ f x _).trans ((a5 l).cons x)
theorem uy (x:α):∀l,l.Pairwise (KY f)->(nY f x l).Pairwise (KY f)
 |[],_=>by simp[nY]
 |y::r,h=>by
  obtain⟨h1,h2⟩:=pairwise_cons.mp h;unfold nY;split
  .rename_i hl;refine pairwise_cons.mpr ⟨λz hz=>?_,uy x r h2⟩;rcases vP ((nZ f x r).mem_iff.mp hz)with rfl|hz
   .exact λk=>lt_irrefl _ (Ft hl k)
   simp_all
  .rename_i hl;refine pairwise_cons.mpr ⟨λz hz=>?_,h⟩;rcases vP hz with rfl|hz
   .exact hl
   .exact Fu hl (h1 z hz)
theorem dH:∀l,(dr f l).Pairwise (KY f)
 |[]=>List.Pairwise.nil
 |x::l=>uy f x _ (dH l)
theorem uz:∀(l1 l2:List α),(∀x∈l1,∀y∈l1,f x=f y->x=y)->l1.Perm l2->l1.Pairwise (KY f)->l2.Pairwise (KY f)->l1=l2
 |[],l2,_,p,_,_=>(nil_perm.mp p).symm
 |x::U,[],_,p,_,_=>absurd p.length_eq X9
 |x::U,y::c,hi,p,h1,h2=>by
  have hy:=p.mem_iff.mpr (mX ..);have M:KY f x y:=by
   rcases vP hy with z|z
   .rw[z];exact lt_irrefl _
   simp_all
  have O:KY f y x:=by
   rcases vP (p.mem_iff.mp (mX ..))with z|z
   .rw[z];exact lt_irrefl _
   simp_all
  have e:=hi x (mX ..) y hy (Ii M O);subst e;rw[uz U c (λa ha b hb=>hi a (mZ _ ha) b (mZ _ hb)) (List.Perm.cons_inv p) (pairwise_cons.mp h1).2 (pairwise_cons.mp h2).2]
theorem iJ (hi:∀x∈l,∀y∈l,f x=f y->x=y)(p:M.Perm l)(h:M.Pairwise (KY f)):M=dr f l:=
 uz f _ _ (λx hx y hy=>hi x (p.mem_iff.mp hx) y (p.mem_iff.mp hy)) (p.trans (a5 f l).symm) h (dH f l)
end
theorem lN {α:Type}{p q:α->Bool}(h:∀x,p x=true->q x=true):∀l:List α,(l.filter p).length<=(l.filter q).length
 |[]=>vT _
 |x::l=>by
  have M:=lN h l;grind
noncomputable def qX (cs:List LI)(c:LI):Int:=((cs.filter λx=>decide (x<c)).length:Nat)
def M2 {cs:List LI}{a b:LI}(h:¬b<a):qX cs a<=qX cs b:=by
 refine Int.ofNat_le.mpr (lN (λx hx=>?_) cs);grind
def C6 {cs:List LI}{a b:LI}(ha:a∈cs)(h:a<b):qX cs a<qX cs b:=by
 apply Int.ofNat_lt.mpr;induction cs with
 |nil=>simp at ha
 |cons c cs O=>
  have M:∀l:List _,(l.filter λx=>decide (x<a)).length<=(l.filter λx=>decide (x<b)).length:=λl=>
   lN (λx hx=>by grind) l
  grind
def yO (ha:a∈cs):decide (qX cs a<qX cs b)=decide (a<b):=by
 by_cases h:a<b
 .simp_all[C6]
 simp_all[oP,M2]
set_option genInjectivity true in
inductive At where
 |i (n:Int)
 |s (z:Str)
noncomputable def Rc:At->LI
 |.i n=>[n]
 |.s z=>z.cps.toList.map (λ(c:Nat)=>(c:Int)+1)++[0]
def bZ (xs:List At):LI:=xs.flatMap Rc
noncomputable def aX:List At->List At->Option Bool
 |[],ys=>some (!ys.isEmpty)
 |_::_,[]=>some false
 |.i a::xs,.i b::ys=>if a=b then aX xs ys else some (decide (a<b))
 |.s a::xs,.s b::ys=>if a=b then aX xs ys else some (decide (a.cps.toList<b.cps.toList))
 |_::_,_::_=>none
theorem wV:∀(a b:LN)(r M:LI),(a.map (λ(c:Nat)=>(c:Int)+1)++0::r)<(b.map (λ(c:Nat)=>(c:Int)+1)++0::M)↔a<b\/(a=b/\r<M)
 |[],[],r,M=>by simp
 |[],y::b,r,M=>by simp[cons_lt_cons_iff]
 |x::a,[],r,M=>by simp[cons_lt_cons_iff];lia
 |x::a,y::b,r,M=>by
  rw[uY,uY,cons_append,cons_append,cons_lt_cons_iff,wV a b r M,cons_lt_cons_iff,Int.add_lt_add_iff_right,Int.ofNat_lt,Int.add_left_inj,Int.ofNat_inj,List.cons.injEq,and_or_left,or_assoc,and_assoc]
def oe (x:At)(xs:List At):bZ (x::xs)=Rc x++bZ xs:=I9
def Re (x:At):Rc x≠[]:=by cases x<;>simp[Rc]
theorem C7 {a b:Str}:a.cps.toList=b.cps.toList↔a=b:=by
 constructor
 .obtain⟨a⟩:=a;simp_all
 lia
theorem pW:∀(xs ys:List At)(b:Bool),aX xs ys=some b->b=decide (bZ xs<bZ ys)
 |[],[],b,h=>by simp_all[aX]
 |[],y::ys,b,h=>by
  simp[aX]at h;subst h;rw[oe];cases e:Rc y with
  |nil=>exact absurd e (Re y)
  |cons c cs=>simp[bZ]
 |x::xs,[],b,h=>by simp_all[aX,bZ]
 |.i a::xs,.i c::ys,b,h=>by
  rw[aX]at h;show b=decide (a::bZ xs<c::bZ ys);split at h
  .rename_i e;subst e;rw[pW xs ys b h];simp
  .simp_all[cons_lt_cons_iff]
 |.s a::xs,.s c::ys,b,h=>by
  rw[aX]at h;rw[oe,oe];have M:∀(z:Str)(r:List _),Rc (.s z)++r=z.cps.toList.map (λ(c:Nat)=>(c:Int)+1)++0::r:=λz r=>by simp[Rc]
  rw[M,M];split at h
  .rename_i e;rw[pW xs ys b h];grind[wV]
  grind[wV,C7]
 |.i _::_,.s _::_,b,h=>by simp[aX]at h
 |.s _::_,.i _::_,b,h=>by simp[aX]at h
theorem Bk:∀(xs ys:List At),aX xs ys=some false->aX ys xs=some false->xs=ys
 |[],[],_,_=>rr
 |[],y::ys,h,_=>by simp[aX]at h
 |x::xs,[],_,h=>by simp[aX]at h
 |.i a::xs,.i c::ys,h,k=>by
  rw[aX]at h k;by_cases e:a=c
  .subst e;rw[if_pos rr]at h k;rw[Bk xs ys h k]
  lia
 |.s a::xs,.s c::ys,h,k=>by
  rw[aX]at h k;by_cases e:a=c
  .subst e;rw[if_pos rr]at h k;rw[Bk xs ys h k]
  .rw[if_neg e]at h;rw[if_neg (Ne.symm e)]at k;simp only[Option.some.injEq,decide_eq_false_iff_not]at h k;exact absurd (C7.mp (List.le_antisymm (not_lt.mp k) (not_lt.mp h))) e
 |.i _::_,.s _::_,h,_=>by simp[aX]at h
 |.s _::_,.i _::_,h,_=>by simp[aX]at h
noncomputable def cI (ks:List (List At)):Bool:=ks.all λx=>ks.all λy=>(aX x y).isSome
theorem fW (h:cI ks=true)(hx:x∈ks)(hy:y∈ks):aX x y=some (decide (bZ x<bZ y)):=by
 have:=uR (uR h x hx) y hy;obtain⟨b,e⟩:=uU this;rw[e,pW _ _ _ e]
theorem oh (h:cI ks=true)(hx:x∈ks)(hy:y∈ks)(e:bZ x=bZ y):x=y:=by
 refine Bk _ _ ?_ ?_
 .grind[fW]
 grind[fW]
def A9:At->Value->Prop
 |.i n,v=>∃t,v=.int n t
 |.s z,v=>∃t,v=.str z t
def gg (h:Heap)(xs:List At)(v:Value):Prop:=∃a o its n,v=.ref a/\h.get? a=some o/\o.cls=.type "tuple"/\o.data=.seq its n/\Paired A9 xs its.toList
noncomputable def dX (ks:List (List At)):Bool:=ks.all (λx=>match x with|.i _::_=>true|_=>false) || ks.all (λx=>match x with|.s _::_=>true|_=>false)
section
variable {prog:Program}{w:World}{A:Around}{E:QV}{s:Shared}
def Ij (xs ys:List At)(its M:LU)(i:Nat)(U:Paired A9 xs its)(d:Paired A9 ys M)(h:aX xs ys=some b)(hf:dQ=decide (xs.length<ys.length))(q:Q b s):KatLex prog w A true dQ Q (its.zip M) i s:=by
 induction U generalizing ys M i with
 |nil=>
  refine kat_nil ?_;cases ys with
  |nil=>simp_all[aX]
  |cons y ys=>simp_all[aX]
 |@cons x v xs its U g f=>
  cases d with
  |nil=>
   simp_all[kat_nil,aX]
  |@cons y u ys M d O=>
   cases x with
   |i a=>
    cases y with
    |s _=>simp[aX]at h
    |i c=>
     obtain⟨t,rfl⟩:=U;obtain⟨u,rfl⟩:=d;refine kat_cons (wpAny_eqBool_int ?_);rw[aX]at h;by_cases e:a=c
     .rw[if_pos e]at h;rw[show(a == c)=true by simp[e]];exact kat_yes (f ys M (i+1) O h (by rw[hf];simp))
     .rw[if_neg e]at h;cases h
      rw[show(a == c)=false by simp[e]];refine kat_no ?_;cases hb:(true && i == 0) with
      |true=>exact oneLt_int q
      |false=>exact kat_one _ _ (PyProof.Rows.lt_int q)
   |s a=>
    cases y with
    |i _=>simp[aX]at h
    |s c=>
     obtain⟨t,rfl⟩:=U;obtain⟨u,rfl⟩:=d;refine kat_cons (wpAny_eqBool_str ?_);rw[aX]at h;by_cases e:a=c
     .rw[if_pos e]at h;rw[mi e];exact kat_yes (f ys M (i+1) O h (by rw[hf];simp))
     .rw[if_neg e]at h;cases h
      rw[oP e];refine kat_no ?_;cases hb:(true && i == 0) with
      |true=>exact oneLt_str q
      |false=>exact kat_one _ _ (PySem.P.lt_str q)
theorem eW {α U:Type}{F:α->U->Prop}:∀ {M:List α}{O:List U},Paired F M O->M.length=O.length
 |_,_,.nil=>rr
 |_,_,.cons _ t=>by simp[eW t]
def Rf {Q:Bool->Shared->Prop}{xs ys:List At}{x y:Value}{b:Bool}(hx:gg s.heap xs x)(hy:gg s.heap ys y)(h:aX xs ys=some b)(q:Q b s):wpAny (model prog w) A (keyLt' (tuples' true) x y) Q E s:=by
 obtain⟨a,o,its,n,rfl,ho,_,hd,r⟩:=hx;obtain⟨c,o',its',d,rfl,M,_,O,U⟩:=hy;refine kat_lt ho hd M O (Ij xs ys _ _ 0 r U h ?_ q);rw[<-vG,<-vG,eW r,eW U]
theorem pf:∀ {ks:List (List At)}{vs:LU},Paired (gg h) ks vs->(∀k∈ks,k≠[])->∃fs,KatTups h vs fs/\fs.length=ks.length/\∀v∈fs,∃k r,(k::r)∈ks/\A9 k v
 |_,_,.nil,_=>⟨[],trivial,rr,X9⟩
 |k::ks,_,.cons x t,M=>by
  obtain⟨fs,h1,h2,h3⟩:=pf t λz hz=>M z (mZ _ hz);obtain⟨a,o,its,n,rfl,ho,hc,hd,r⟩:=x;cases O:its.toList with
  |nil=>
   rw[O]at r;cases r
   simp_all
  |cons v vs=>
   rw[O]at r;obtain⟨p,U⟩:∃p,its[0]? = some v:=⟨(),by rw[<-Array.getElem?_toList,O];rfl⟩;cases r with
   |cons q b=>
    refine⟨v::fs,KatTups.cons ho hc hd U h1,by simp[h2],λu hu=>?_⟩;grind
def Ik (hp:Paired (gg s.heap) ks vs)(hf:dX ks=true)(hn:0<ks.length)(q:Q (tuples' true) s):wpAny (model prog w) A (keyKind' vs.toArray) Q E s:=by
 have M:∀k∈ks,k≠[]:=λk hk z=>by
  subst z;unfold dX at hf;rw[Bool.or_eq_true]at hf;rcases hf with hf|hf
  .have:=uR hf [] hk;simp at this
  .have:=uR hf [] hk;simp at this
 obtain⟨fs,h1,h2,h3⟩:=pf hp M;unfold dX at hf;rw[Bool.or_eq_true]at hf;rcases hf with hf|hf
 .refine kat_kind (T:=.type "int") h1 N9 (λv hv=>?_) H9 q;obtain⟨k,r,m,z⟩:=h3 v hv;have:=uR hf _ m;cases k with
  |i n=>obtain⟨t,rfl⟩:=z;exact .now
  |s O=>simp at this
 .refine kat_kind (T:=.type "str") h1 N9 (λv hv=>?_) H9 q;obtain⟨k,r,m,z⟩:=h3 v hv;have:=uR hf _ m;cases k with
  |s O=>obtain⟨t,rfl⟩:=z;exact .now
  |i n=>simp at this
end
section
variable {prog:Program}{w:World}{A:Around}{E:QV}{s:Shared}
theorem dI {α U:Type}{F:α->U->Prop}(d:α)(e:U):∀ {M:List α}{O:List U},Paired F M O->∀ {i:Nat},i<M.length->F (M.getD i d) (O.getD i e)
 |_,_,.cons r t,0,_=>r
 |_,_,.cons r t,i+1,h=>by
  exact dI d e t (by simpa using h)
 |_,_,.nil,i,h=>by simp at h
def KZ (ks:List (List At))(i:Nat):Int:=qX (ks.map bZ) (bZ (ks.getD i []))
def M3 {ks:List (List At)}{vs:LU}(hc:cI ks=true)(hp:Paired (gg s.heap) ks vs):∀(i j:Nat)(C:Bool->Shared->Prop)(s1:Shared),i<ks.length->j<ks.length->s1=s->(∀s',s'=s->C (qV (KZ ks) i j) s')->kas_ask prog w A (tuples' true) vs i j C s1:=by
 intro i j C s1 hi hj e O;subst e;have M:ks.getD i []∈ks:=by simp_all
 have U:ks.getD j []∈ks:=by simp_all
 refine Rf (dI [] _ hp hi) (dI [] _ hp hj) (fW hc M U) ?_;have:=O s1 rr;unfold qV KZ at this;rw[yO (uS ⟨_,M,rr⟩)]at this;exact this
end
end DL
namespace DL
open PySem PySem.Spec PySem.W PyProof.Rows L2
noncomputable def OA:D->Option At
 |.int n=>some (.i n)
 |.str z=>some (.s z)
 |_=>none
def lO:LD->Option (List At)
 |[]=>some []
 |d::ds=>(OA d).bind λa=>(lO ds).map (a :: ·)
def Bl:D->Option (List At)
 |.tup es=>lO es
 |_=>none
def dO:LD->Option (List (List At))
 |[]=>some []
 |d::ds=>(Bl d).bind λa=>(dO ds).map (a :: ·)
noncomputable def ph:LD->Option LI
 |[]=>some []
 |.int n::ds=>(ph ds).map (n :: ·)
 |_::_=>none
def pi (ns:LI):LI:=dr (λn=>[n]) ns
def pX:LD->OB
 |[.lst ds]=>(ph ds).bind λns=>if ns.length<64 then some (.lst ((pi ns).map .int),true)else none
 |_=>none
theorem oi:∀ {ds:LD}{ks:List (List At)},dO ds=some ks->ks.length=ds.length
 |[],_,h=>by simp_all[dO]
 |d::ds,_,h=>by
  refine eX h λa h1 h=>?_;refine eR h λr h2 h=>?_;subst h;simp[oi h2]
theorem u0:∀ {ds:LD}{ks:List (List At)},dO ds=some ks->∀ {i:Nat},i<ds.length->Bl (ds.getD i .non)=some (ks.getD i [])
 |[],_,h,i,hi=>by simp at hi
 |d::ds,_,h,0,hi=>by
  refine eX h λa h1 h=>?_;refine eR h λr h2 h=>?_;subst h;exact h1
 |d::ds,_,h,i+1,hi=>by
  refine eX h λa h1 h=>?_;refine eR h λr h2 h=>?_;subst h;exact u0 h2 (by simpa using hi)
section
variable {X:Cx}
theorem yP {K:Frag}{B:Hp}:∀ {vs:LV}{es:LD}{k:List At}{its:LU},aL vs its->IsL K B vs es->lO es=some k->Paired A9 k its
 |_,_,_,_,.nil,.nil,h=>by cases h;exact .nil
 |_,_,_,_,.cons r M,.cons i O,h=>by
  refine eX h λa h1 h=>?_;refine eR h λt h2 h=>?_;subst h;refine .cons ?_ (yP M O h2);cases i<;>simp [OA]at h1<;>cases h1
  .exact r
  .exact r
theorem pY {af:AO}{σ:St}{H:Hp}{s:Shared}(I:Inv X af σ H s):∀ {ys:LV}{ds:LD}{ks:List (List At)}{its:LU},aL ys its->IsL X.K H ys ds->dO ds=some ks->Paired (gg s.heap) ks its
 |_,_,_,_,.nil,.nil,h=>by cases h;exact .nil
 |_,_,_,_,.cons r M,.cons i O,h=>by
  refine eX h λa h1 h=>?_;refine eR h λt h2 h=>?_;subst h;refine .cons ?_ (pY I M O h2);cases i<;>simp [Bl]at h1<;>try (cases h1)
  rename_i hq hl;cases r
  obtain⟨its',U,⟨o,ho,hc,n,hd⟩,_⟩:=I.tuple hq;exact⟨_,o,_,n,rr,ho,hc,hd,by simpa using yP U hl h1⟩
theorem C8 {K:Frag}{B:Hp}:∀ {vs:LV}{ds:LD},IsL K B vs ds->∀ {i:Nat},i<ds.length->Is K B (vs.getD i .non) (ds.getD i .non)
 |_,_,.cons h _,0,_=>h
 |_,_,.cons _ t,i+1,hi=>by
  exact C8 t (by simpa using hi)
 |_,_,.nil,i,hi=>by simp at hi
theorem yQ:∀ {vs:LV}{us:LU},aL vs us->∀ {i:Nat},i<vs.length->aC (vs.getD i .non) (us.getD i Value.none)
 |_,_,.cons h _,0,_=>h
 |_,_,.cons _ t,i+1,hi=>by
  exact yQ t (by simpa using hi)
 |_,_,.nil,i,hi=>by simp at hi
theorem yR {K:Frag}{B:Hp}{vs:LV}{ds:LD}(h:IsL K B vs ds):∀(l:LN),(∀i∈l,i<ds.length)->IsL K B (l.map λi=>vs.getD i .non) (l.map λi=>ds.getD i .non)
 |[],_=>.nil
 |i::l,hl=>.cons (C8 h (hl i (mX ..))) (yR h l λj hj=>hl j (mZ _ hj))
theorem u6 (h:aL vs us):∀(l:LN),(∀i∈l,i<vs.length)->aL (l.map λi=>vs.getD i .non) (l.map λi=>us.getD i Value.none)
 |[],_=>.nil
 |i::l,hl=>.cons (yQ h (hl i (mX ..))) (u6 h l λj hj=>hl j (mZ _ hj))
end
section
variable {X:Cx}
theorem C9 {K:Frag}{B:Hp}:∀ {vs:LV}{ds:LD}{ns:LI}{its:LU},aL vs its->IsL K B vs ds->ph ds=some ns->IntsAre its ns
 |_,_,_,_,.nil,.nil,h=>by cases h;exact .nil
 |_,_,_,_,.cons r M,.cons i O,h=>by
  cases i<;>simp only[ph]at h<;>try (cases h)
  refine eR h λt h2 h=>?_;subst h;obtain⟨u,rfl⟩:=r;exact .cons _ u (C9 M O h2)
theorem fU:∀ {its:LU}{zs:LI},IntsAre its zs->aL (zs.map V.int) its
 |_,_,.nil=>.nil
 |_,_,.cons x t r=>.cons ⟨t,rr⟩ (fU r)
theorem mI {K:Frag}{N:Hp}:∀(zs:LI),IsL K N (zs.map V.int) (zs.map D.int)
 |[]=>.nil
 |z::zs=>.cons (.int z) (mI zs)
def yS (p:M.Perm l)(h:M.Pairwise (·<=·)):M=pi l:=by
 refine iJ _ (λx _ y _ e=>by injection e) p (h.imp λ{a b} O=>?_);grind[KY,cons_lt_cons_iff]
def Bm (I:Inv X af σ H s)(O:aJ B H)(q:Fin X.K B H (.lst ds) true Q)(hv:aL ys out.toList)(hl:IsL X.K B ys ds)(hz:ys.length<=sizeLine):
  EP X af σ Q (.ref (s.z+1)) { s with heap:=sortedAll s.heap its out }:=by
 obtain⟨e,he⟩:=sortedAll_at _ _ _;have hp:=I.hok.fresh (le_succ _);have M:=Ext.laid (o:=.lst ys) O hp;exact⟨.ref _,_,I.laid (λb o=>sortedAll_old) (le_succ _) (show bf _ _ _ _ _ (.lst ys)from ⟨hz,out.toList,e,hv,he⟩),rr,
  q _ _ _ M (.lst (eO.of au) (hl.mono M.bn)) λ_=>⟨_,_,_,rr,rr,hp,au,hl.mono M.bn⟩⟩
def Il:b8 X (.builtin "sorted") (A8 X.K pX):=by
 intro af s σ H xs us Q I r h;obtain⟨B,dl,d,bb,U,i,M,q⟩:=h;cases i with
 |nil=>simp[pX]at M
 |cons i1 i2=>
  cases i2 with
  |cons _ _=>cases i1<;>simp[pX]at M
  |nil=>
   cases i1<;>try (simp[pX]at M;done)
   rename_i l vs ds h hl;obtain⟨u,rfl,b⟩:=fZ r;cases b
   refine I.lisE (U.seq h) λits a pl hz=>?_;have m:vs.length=its.length:=a.length;have n:ds.length=vs.length:=hl.length.symm;refine eX M λns es M=>?_;split at M
   .rename_i o;cases M
    have O:=C9 a hl es;have c:its.length=ns.length:=IntsAre.length O;refine sorted_ints pl.isList (by simpa using O) N9 λout f g j k=>?_;have e:=yS j k;subst e;exact Bm I U q (fU g) (mI _) (by rw[vI];unfold pi;rw[(a5 _ ns).length_eq,sizeLine_eq];lia)
   .cases M
end
end DL
namespace DL
open PySem PySem.Spec PyProof.Rows L2
section
variable {X:Cx}{e:Expr}{pos pos2 p p2:Pos}
def tO:b8 X (.builtin "len") (λxs H Q=>∃S M,xs=[.ref S]/\H S=some (yK X S M)/\Q (.int (M.length:Nat)) H):=by
 intro af s σ H xs us Q I r h;obtain⟨S,M,rfl,hS,q⟩:=h;obtain⟨u,rfl,U⟩:=fZ r;cases U
 have a:=(I.hok S _ hS).1;obtain⟨o,es,c,t,ho,O,hd,d,hp,nd,hb,hf,_⟩:=a;have sz:es.size=M.length:=by rw[<-hp.length_eq,vI,vG]
 have b:M.length<4096:=hb;exact PySem.call_len_set ho O hd hf (by rw[sz];lia) ⟨.int _,H,I.tok _,⟨_,by rw[sz]⟩,q⟩
def Fv (hc:X.calm=true)(m1:X.mg "len" = none)(m2:X.mg "set" = none)(he:JE X e f)(g1:Gl X "len")(b:Gl X "set")
  (h1:dv e [] X.env):JE X (.Call (.Name "len" p) [.Call (.Name "set" p2) [e] [] pos2] [] pos) (f1 Mz f):=by
 refine PE.to (qy tO g1 m1 O6 (de (nN (pe hc) b m2 O9 (de he fF h1) (he:=h1)) fF)) λσ H Q q=>?_;obtain⟨B,ρ,d',bb,c,r,M,q⟩:=q;refine eX M λU ex M=>?_;refine⟨B,ρ,U.1,U.2,c,r,ex,λv j N1 O i1 k=>?_⟩;obtain⟨xd,l⟩:=U;cases i1<;>try (simp at M)
 rename_i m vs ds h hl;refine eX M λss d M=>?_;split at M
 .rename_i g;cases M
  refine⟨_,_,ss,rr,O.nh.seq h,λits i=>iH i hl d,g,λS hS=>⟨S,_,rr,au,?_⟩⟩;have a:=Ext.laid (o:=yK X S (f9 ss)) O.nh hS;exact(q.into (O.trans a)).one (O.trans a).nh (.int _)
 .cases M
end
section
variable {X:Cx}{pos:Pos}
theorem Im {K:Frag}{B:Hp}:∀ {vs:LV}{ds:LD}{ns:LI},IsL K B vs ds->ph ds=some ns->vs=ns.map V.int
 |_,_,_,.nil,h=>by simp_all[ph]
 |_,_,_,.cons i M,h=>by
  cases i<;>simp only[ph]at h<;>try (cases h)
  refine eR h λt h2 h=>?_;subst h;rw[Im M h2];rfl
end
section
variable {X:Cx}{a:Expr}{pos:Pos}{x:Str}{p:Pos}{d:Addr}{aA:List (Str×D)}
def Fw (cd:mD X.K X.w.params d aA):cH X (compareOp .NotIn) (λx y H Q=>∃z,x=.str z/\y=.ref d/\Q (.bl (!(aA.lookup z).isSome)) H):=by
 rintro af s σ H _ _ v u Q I O U ⟨z,rfl,rfl,q⟩;cases U
 obtain⟨t,rfl⟩:=O;obtain⟨f,b,c,hf⟩:=cd.map I;refine wpAny_notIn_of (strKind_is _ _ z t) c b ⟨.bl _,H,I.tok _,?_,q⟩;have:=hf z;cases M:aA.lookup z with
 |none=>rw[M]at this;rw[this];rfl
 |some dd=>rw[M]at this;obtain⟨_,_,e,_⟩:=this;rw[e];rfl
def Fx (h:∃d,X.mg x=some (.ref d)/\mD X.K X.w.params d aA)(ha:JE X a f)(c:Gl X x)(hd:bj x)(hm:behindInMarks .NotIn (.Name x p)=false):JT X (.Compare a [.NotIn] [.Name x p] pos) (bP (f1 (Bd aA) f)):=by
 obtain⟨d,O,cd⟩:=h;refine PT.to (Cf (Fw cd) ha (pR (v:=.ref d) c O rr hd) hm) λσ H Q q=>?_;obtain⟨B,ρ,d',bb,e,r,M,q⟩:=qH q;refine eX M λU ex M=>?_;refine⟨B,ρ,U.1,U.2,e,r,ex,λv g N1 b i1 i=>?_⟩;obtain⟨xd,j⟩:=U;cases i1<;>try (simp at M;done)
 rename_i z;cases M
 exact⟨z,rr,rr,(q.into b).one b.nh (.bl _)⟩
end
section
variable {prog:Program}{w:World}{A:Around}{E:QV}{s:Shared}
def Bn {a:Addr}{o:Obj}{its:AV}{n:Nat}{x:Value}{e:Value->Bool}{j:Nat}{P:PySem.Fin->Shared->Prop}(ho:s.heap.get? a=some o)(hd:o.data=.seq its n)
  (he:∀y∈its,MeetsSeq.EqGives y x (e y)) (hj:j<its.size) (tE:e its[j]=true) (M:∀m (hm:m<its.size),m<j->e its[m]=false)
  (h:P (.done (.ret (.int j s.toks))) { s with toks:=s.toks+1 }):wpAny (model prog w) A (Builtin.«tuple.index» ⟨[.ref a,x],[]⟩) P E s:=by
 show wpAny _ _ (Builtin.Tuple.tupleItemsOf _>>=_) _ _ s;refine wX (wpAny_tupleItemsOf ho hd ?_);refine wX (wY (wX (wY (wX ?_))));rw[Std.Legacy.Range.forIn_eq_forIn_range'];refine wpAny_forIn_list _
  (λaj r s'=>r.1=none/\s'=s/\∃i,i<=j/\aj=List.range' i (its.size - i))
  _ ?_ ?_ _ _ ⟨rr,rr,0,uN _,?_⟩
 .rintro k aj r s' ⟨hr,rfl,i,hi,hz⟩;have c:i<its.size:=N9
  obtain⟨m,hm⟩:∃m,its.size - i=m+1:=⟨its.size - i - 1,N9⟩;rw[hm]at hz;injection hz with O d;have O:=O.symm;subst O;have b:its[i]? = some its[i]:=X9
  simp only[b];refine wX (he _ (Array.getElem_mem _) _ w _ _ _ _ ?_);by_cases U:i=j
  .subst U;rw[tE];refine wX ?_;exact wX (wpAny_mkInt (wY (wY (wY h))))
  .rw[M i _ N9];exact wY ⟨rr,rr,i+1,N9,by grind⟩
 .grind
 .simp
end
theorem CRows.findT {K:Frag}{P:Params}(y:Str){ds:LD}:∀ {es:List DictEntry}{aA:List (Str×D)},CRows K P es aA->aA.lookup y=some (.tup ds) ->
  ∃e a its n nL,es.find? (λe=>Value.isStrOf y e.key)=some e/\e.val=.ref a/\K.lookup a=some ⟨.type "tuple",none,.seq its n,nL⟩/\iZ its.toList ds=true
 |_,_,.nil,h=>by simp at h
 |_,_,.tup (x:=x) (t:=t) (a:=a) (ds:=O) hh l f tl,h=>by
  by_cases e:y=x
  .subst e;rw[List.lookup_cons_self]at h;cases h
   rw[vC]at f;exact⟨_,a,_,_,_,List.find?_cons_of_pos (by simp[Value.isStrOf]),rr,l,f.2⟩
  .rw[lookup_cons,beq_eq_false_iff_ne.mpr e]at h;have M:Value.isStrOf y (Value.str x t)=false:=by
    rw[Bool.eq_false_iff];intro z;obtain⟨t',q⟩:=Value.isStrOf_shape z;simp_all
   simp only[find?_cons,M];exact tl.findT y h
 |_,_,.flat (x:=x) (t:=t) (u:=u) (d:=d) hh f tl,h=>by
  by_cases e:y=x
  .subst e;rw[lookup_cons,beq_self_eq_true]at h;cases h;cases u<;>cases f
  .rw[lookup_cons,beq_eq_false_iff_ne.mpr e]at h;have M:Value.isStrOf y (Value.str x t)=false:=by
    rw[Bool.eq_false_iff];intro z;obtain⟨t',q⟩:=Value.isStrOf_shape z;simp_all
   simp only[find?_cons,M];exact tl.findT y h
section
variable {X:Cx}{b e:Expr}{pos:Pos}{x:Str}{p:Pos}
def Zg (K:Frag):V->LV->Hp->VK->Prop:=λx xs H Q=>∃(a:Addr)(o:Obj)(its:AV)(n:Nat)(zs:LS)(y:Str),x=.ref a/\xs=[.str y]/\K.lookup a=some o/\o.cls=.type "tuple"/\o.data=.seq its n/\StrsAre its.toList zs/\zs.findIdx (· == y)<zs.length/\Q (.int (zs.findIdx (· == y):Nat)) H
noncomputable def OC (y:Str):Value->Bool
 |.str z _=>z == y
 |_=>false
theorem CA:∀ {its:LU}{zs:LS},StrsAre its zs->∀(i:Nat)(hi:i<its.length),∃(h:i<zs.length)(t:Tok),its[i]=.str zs[i] t
 |_,_,.cons z t h,0,_=>⟨X9,t,rr⟩
 |_,_,.cons z t h,i+1,hi=>by
  obtain⟨h',t',e⟩:=CA h i (by simpa using hi);simp_all
 |_,_,.nil,i,hi=>by simp at hi
theorem yT:∀ {its:LU}{zs:LS},StrsAre its zs->its.length=zs.length
 |_,_,.nil=>rr
 |_,_,.cons _ _ h=>by rw[vE,vE,yT h]
def Io:Ue X "tuple.index" (Zg X.K):=by
 intro af s σ H x xs v us Q I U c h;obtain⟨a,o,its,n,zs,y,rfl,rfl,d,hc,hd,hz,hk,q⟩:=h;cases U
 obtain⟨u,rfl,⟨t,rfl⟩⟩:=c.one;have ho:=I.kIn a o d;have hl:=yT hz;rw[vG]at hl;have at':∀(i:Nat)(hi:i<its.size),∃(h:i<zs.length)(t:Tok),its[i]=.str zs[i] t:=λi hi=>by
  obtain⟨h',t',e⟩:=CA hz i (by simpa using hi);exact⟨h',t',by simpa using e⟩
 refine wpAny_call_entry PySem.F.slot_tuple_index ⟨o,ho,hc⟩ PySem.F.entry_tuple_index (Bn (e:=OC y) ho hd (λz hm=>?_) N9 ?_ (λm hm O=>?_) ⟨_,rr,.int _,H,I.tok _,⟨_,rr⟩,q⟩) (PySem.F.args_tuple_index_2 _ _)
 .obtain⟨i,hi,rfl⟩:=Array.mem_iff_getElem.mp hm;obtain⟨_,t',M⟩:=at' i hi;rw[M];exact eqGives_str _ _ _ _
 .obtain⟨_,t',M⟩:=at' (zs.findIdx (· == y)) N9;rw[M];exact List.findIdx_getElem (w:=hk)
 .obtain⟨_,t',M⟩:=at' m hm;rw[M];have:=List.not_of_lt_findIdx O;simpa [OC]using this
@[simp] def lP (aA:List (Str×D)):D->D->OB
 |.str y,.str z=>match aA.lookup y with
  |some (.tup ds)=>(eP ds).bind λzs=>if zs.findIdx (· == z)<zs.length then some (.int (zs.findIdx (· == z):Nat),false)else none
  |_=>none
 |_,_=>none
def M4 {aA:List (Str×D)}{f g:FE}{cn bS:Pos}(h:∃d,X.mg x=some (.ref d)/\mD X.K X.w.params d aA)(hb:JE X b f)(he:JE X e g)(E:Gl X x)(c:bj x)(hs:mr b)
  (O:attributeBase (.Subscript (.Name x p) b pos) "index" X.env (eval (.Subscript (.Name x p) b pos) X.env)=eval (.Subscript (.Name x p) b pos) X.env)
  (G:oQ bS e X.env)
  (U:(cn.endLine == bS.line)=true) (o:cM e X.env):
  JE X (.Call (.Attribute (.Subscript (.Name x p) b pos) "index" cn) [e] [] bS) (f2 (lP aA) f g):=by
 obtain⟨d,hm,cd⟩:=h;have J:Qb X (λx y H Q=>∃z ds,x=.ref d/\y=.str z/\aA.lookup z=some (.tup ds)/\∀a its n nL,X.K.lookup a=some ⟨.type "tuple",none,.seq its n,nL⟩->iZ its.toList ds=true->Q (.ref a) H):=by
  intro i j af s σ H x y v u Q I L N q hs;obtain⟨z,ds,rfl,rfl,k,q⟩:=q;cases L
  obtain⟨t,rfl⟩:=N;obtain⟨es,n,l,r,sm⟩:=cd;have A:=PySem.W.mapOf_K (prog:=X.prog) I.kIn l r.lit;obtain⟨en,a,its,n',nL,e1,e2,P,R⟩:=r.findT z k;have S:findBy Value.isStrOf es z=some (.ref a):=by
   simp_all[findBy]
  exact tail_any A.typeIs slot_dict_getitem.lookup (wpAny_getItem_of (strKind_is X.prog X.w z t) A S ⟨.ref a,H,I.tok _,rr,q a _ _ _ P R⟩) hs
 refine PE.to (xZ PySem.F.plainAttrs_tuple PySem.F.slot_tuple_index PySem.F.type_tuple_index Io (GV J (pR (v:=.ref d) E hm rr c) hb hs) (de he fF o) O G U o rr) λσ H Q q=>?_;obtain⟨B,ρ,d',bb,T,r,M,q⟩:=q;refine eX M λV ex M=>?_;refine eX M λY Z M=>?_;obtain⟨xd,xb⟩:=V;obtain⟨yd,yb⟩:=Y;cases xd with
 |str z=>
  cases yd with
  |str y=>
   refine⟨B,ρ,_,xb,T,r,ex,λv H1 N1 m i1 _=>?_⟩;cases i1
   simp only[lP]at M;split at M
   .rename_i ds k;refine eX M λzs ez M=>?_;split at M
    .rename_i hk;cases M
     refine⟨z,ds,rr,rr,k,λa its n nL l fl=>⟨.inr (.inl ⟨rr,_,l,rr,rr⟩),N1,ρ,_,yb,m.nh,r.mono m.bn,Z,λv2 H2 N2 C i2 _=>?_⟩⟩;cases i2
     obtain⟨vs,rv,iv⟩:=ja (K:=X.K) fl;exact⟨a,_,its,n,zs,y,rr,rr,l,rr,rr,iH rv (iv N2) ez,hk,(q.into (m.trans C)).one C.nh (.int _)⟩
    simp_all
   simp_all
  |_=>simp[lP]at M
 |_=>simp[lP]at M
end
open PySem.W (tabIn tabObj CodeHd kla_fn kla_obj kla_eval kla_makeFunction kla_makeFunctionHit kla_callFunE kla_codeExpr envX)
def Vb (K:Frag)(c P:Addr):Prop:=∃o vs O a M tg b U d,K.lookup c=some o/\o.cls=.type "code"/\o.data=.fields vs/\vs[11]? = some (.ref P)/\vs.getD 11 .none=.ref P/\vs.getD 18 .none=.str O a /\
 vs.getD 7 .none=.int M tg/\vs.getD 9 .none=.bool b/\vs.getD 10 .none=.int U d/\c≠P
def yU (K:Frag)(x:Str):Prop:=∃c P,tabIn K x=some (c,P)/\Vb K c P
def Ip (H:Hp)(f:Addr)(q:Str)(params:Arguments)(M:Expr)(scope:Scope)(cl:List (Str×Addr)):Prop:=
 ∃pm c O u oc u' vs t,H f=some (.frz (kla_obj "<lambda>" q params M scope cl pm c O) u)/\H c=some (.frz oc u')/\oc.data=.fields vs/\vs[1]? = some (.str q t)
def Ip.mono (h:Ip H f q params O scope cl)(e:aJ H H'):Ip H' f q params O scope cl:=
 let ⟨pm,c,M,u,oc,u',vs,t,h1,h2,h3,h4⟩:=h;⟨pm,c,M,u,oc,u',vs,t,e _ _ h1,e _ _ h2,h3,h4⟩
def lam_mk {K:Frag}{x:Str}{f c P:Addr}{oc:Value}{od b:Option Addr}{nL d:Array (Option Value)}{fd:FuncData}{vs:AV}{O:Str}{e tg g:Tok}{M U:Int}{h:Bool}(k:nsIn K mainGlobals x=some (some (.ref f)))(e2:K.lookup f=some ⟨oc,od,.func fd,nL⟩)
  (l:fd.code=.ref c) (i:K.lookup c=some ⟨.type "code",b,.fields vs,d⟩) (j:vs[11]? = some (.ref P)) (m:vs.getD 11 .none=.ref P) (n:vs.getD 18 .none=.str O e) (o:vs.getD 7 .none=.int M tg) (p:vs.getD 9 .none=.bool h) (q:vs.getD 10 .none=.int U g) (a:(c == P)=false):yU K x:=
 ⟨c,P,tab_yes k e2 l i j,_,vs,O,e,M,tg,h,U,g,i,rr,rr,j,m,n,o,p,q,λz=>by rw[z]at a;simp at a⟩
def Bo (l:LU)(h:TriplesOk l)(e:codeAmong U (l++[rawInt a,rawInt b,c])=some cv):codeAmong U l=some cv\/cv=c:=by
 fun_induction TriplesOk l with
 |case1=>
  simp_all[rawInt,codeAmong]
 |case2 M t b' u x aj O=>
  simp only[cons_append,codeAmong]at e |-;split<;>simp_all
 |case3 l h1 h2=>exact h.elim
section
variable {X:Cx}{af:AO}{σ:St}{H:Hp}{s:Shared}
def Iq
  (hx:x∈jF) (L:yU X.K x) (hc:∀c P,tabIn X.K x=some (c,P)->X.env.code=.ref c) (hq:X.env.qual ++ "<lambda>" = tJ x) (y:defaultsOf params X.env=([],[])) (Y:closureFor scope X.env=pure cl)
  (I:Inv X af σ H s) (tb:Tb X.K H) (k:∀f H' s',Inv X af σ H' s'->aJ H H'->Ip H' f (tJ x) params body scope cl->Q (.ref f) s'):
  wq X (eval (.Lambda params body scope pos) X.env) Q E s:=by
 refine kla_eval y ?_;rw[hq];obtain⟨c,P,Z,o,vs,A,tf,XD,tg,Tt,B,tt,lk,ck⟩:=L;have O:=hc c P Z;have D:=tb x hx c P Z;obtain⟨ps,e,F,co⟩:=I.hok P _ D;have C:CodeHd s.heap c P:=⟨o,vs,A,tf,XD,tg,Tt,B,tt,I.kIn c o lk,ck⟩;have hg:s.heap.Ns mainGlobals X.mg:=I.mod.glob.keeps I.bk;have l:∀b,H b=none->b≠P:=λb n z=>by rw[z,D]at n;cases n
 have G:mainGlobals≠P:=by
  obtain⟨og,_,_,eg,_⟩:=I.mod.glob;exact l _ (I.bs _ _ eg).2
 have hb:s.heap.BuiltinsAt X.mg P:=by
  obtain⟨bm,ob,b1,b2,b3,b4,b5,b6⟩:=I.mod.bmain;refine⟨bm,ob,b1,b2,λz=>?_,l _ (I.bs _ _ b3).2,I.bk _ _ b3,b4,b5,b6⟩;obtain⟨og,es,ep,eg,dg,_⟩:=I.mod.glob;simp_all
 cases hf:codeAmong pos ps.toList with
 |some cv=>
  obtain⟨M,oc,u,ws,t,rfl,hH,hd,hv⟩:=co pos cv hf;refine kla_makeFunctionHit (mg:=X.mg) Y I.ok.glob hg O C e F hf hb λU h' tk hk hsz=>?_;have hn:H h'.objs.size=none:=I.hok.fresh hsz;have a:aJ H (upd H h'.objs.size (.frz (kla_obj "<lambda>" (tJ x) params body scope cl ((X.mg "__name__").getD .none) M U) (.own h'.objs.size))):=λb u q=>by rw[a8 (aO q hn)];exact q
  refine k _ _ _ (I.laid (t':=tk) (λb u q=>vZ _ (hk b u q)) hsz (show bf X.prog X.w _ _ _ (.frz _ (.own h'.objs.size))from ⟨vY _ rr,_,vY _ rr⟩)) a ?_;exact⟨_,M,U,_,oc,u,ws,t,au,a _ _ hH,hd,hv⟩
 |none=>
  refine kla_makeFunction (mg:=X.mg) Y I.ok.glob hg O C e F hf G hb λM U h' tk hx' g lF i J=>?_;obtain⟨c2,oc,ws,t,e2,Pk,hd,hv⟩:=i;cases e2
  have N:H M=none:=I.hok.fresh g;have hsz:s.z<=h'.objs.size:=vR g (le_of_lt lF);have R:H h'.objs.size=none:=I.hok.fresh hsz;have S:M≠h'.objs.size:=vS lF;let fo:Obj:=kla_obj "<lambda>" (tJ x) params body scope cl ((X.mg "__name__").getD .none) M U;let m:Hp:=upd (upd H M (.frz oc (.own M))) h'.objs.size (.frz fo (.own h'.objs.size));have a:aJ H m:=λb u q=>by
   show upd _ _ _ b=_;rw[a8 (aO q R),a8 (aO q N)];exact q
  have h:m M=some (.frz oc (.own M)):=by show upd _ _ _ M=_;rw[a8 S,au]
  have keep:∀b u,b≠P->s.heap.get? b=some u->(h'.push fo).get? b=some u:=λb u n q=>vZ _ (hx' b u n q);have lt:∀b u,s.heap.get? b=some u->b≠M/\b≠h'.objs.size:=λb u q=>⟨vS (vQ (vX q) g),vS (vQ (vX q) hsz)⟩;have XE:(h'.push fo).get? P=some (tabObj (ps++#[rawInt pos.line,rawInt pos.col,.ref M])):=vZ _ J;refine k _ m _ (I.un (t':=tk) (h':=h'.push fo) ⟨λb u q n _ _=>keep b u (l b n) q,λb u q n _ _=>⟨u.slots,keep b u (l b n) q⟩,λb u q n _=>?_,λb u q _=>?_,λb xs q=>a _ _ q,λb ob u q=>a _ _ q,λb u q=>a _ _ q⟩ λb u q=>?_) a ⟨_,M,U,_,oc,_,ws,t,au,h,hd,hv⟩
  .show upd _ _ _ b=_;rw[a8 (lt b u q).2,a8 (lt b u q).1];exact n
  .by_cases z:b=P
   .subst z;exact⟨_,XE⟩
   .exact⟨u,keep b u z q⟩
  .by_cases z1:b=h'.objs.size
   .subst z1;have j:some (HO.frz fo (.own h'.objs.size))=some u:=by rw[<-q];exact au.symm
    cases j
    exact⟨vY _ rr,_,vY _ rr⟩
   .by_cases z2:b=M
    .subst z2;rw[h]at q;cases q;exact⟨vZ _ Pk,_,vZ _ Pk⟩
    .have j:H b=some u:=by
      have:m b=H b:=by show upd _ _ _ b=_;rw[a8 z1,a8 z2]
      rw[<-this];exact q
     by_cases z3:b=P
     .subst z3;rw[D]at j;cases j;refine⟨_,XE,?_,λK9 T p=>?_⟩
      .simp_all[TriplesOk_snoc]
      .rw[Array.toList_append]at p;rcases Bo _ F p with p|rfl
       .obtain⟨c3,V,u3,W,t3,y1,y2,y3⟩:=co K9 T p;exact⟨c3,V,u3,W,t3,y1,a _ _ y2,y3⟩
       .exact⟨M,oc,_,ws,t,rr,h,hd,hv⟩
     .refine(I.hok b u j).stay (λd v Ys r=>keep d v ?_ r) (λd r=>a _ _ r) (λd xs r=>a _ _ r) λd ob v r=>a _ _ r;simp_all<;>lia
end
section
variable {P:Program}{w:World}{K:Frag}{mg:SV}{base:Heap}
def bQ.fnL {x:Str}{st:Stmt}{N ps:LS}{k:Nat}{g:FS}{h:Heap}(F:bQ K x st)(X:K.In h)(G:h.Ns mainGlobals mg)(S:FnScope N ps (aH st))
  (O:∀(kV doc pm:Value)(an:Option Addr)(dR ct:Value)(us:LU),us.length=ps.length->bindArgs (fnOf x x (fL st) (bT st) (aH st) .none kV doc pm an dR ct) ⟨us,[]⟩=pure (ps.zip us))
  (hb:∀(f:Addr)(dR:Value)(A:Around)(outer:List PySem.Env)(s:Shared)(H:Hp)(E:XK),(∀c P,tabIn K x=some (c,P)->dR=.ref c)->dF k (A.deeper (envOfC x (aH st) s.z f dR))->yj (qw A7 P w K mg base N x (aH st) f dR A outer s H E).nox (bT st) g):
  Fn P w K mg base (k+1) x (ax g ps.length (N.length - ps.length)):=by
 obtain⟨f,fd,U,a⟩:=F;have o:=U;obtain⟨oc,od,kV,doc,pm,an,dR,ct,nL,rfl,n,p⟩:=o.ex;have hc:∀c P,tabIn K x=some (c,P)->dR=.ref c:=λc P e=>by
  unfold tabIn at e;simp only[a,n]at e;split at e
  .split at e
   .split at e
    .cases e;rfl
    .cases e
   .cases e
  .cases e
 have len:∀vs H Q E,KW K (ax g ps.length (N.length - ps.length)) vs H Q E->vs.length=ps.length:=λvs H Q E h=>by
  obtain⟨B,ds,d,b,j,i,e,q⟩:=h;unfold ax at e;split at e
  .rename_i hl;rw[i.length];exact hl
  simp_all
 refine⟨f,_,ps,O2 n p S len λA outer s H vs Q E hr h=>⟨_,tV.nox (hb f dR A outer s H E hc hr),?_⟩,mg_of X G a,U.kp,U.binds O⟩;have M:=len vs H Q E h;obtain⟨B,ds,d,b,j,i,e,q⟩:=h;unfold ax at e;rw[if_pos (by rw[<-i.length];exact M)]at e;have l:=yo (N:=N) j.1 j.2 i;rw[M]at l;split at e
 .rename_i d' b' m;cases e
  exact⟨B,H,_,_,⟨B,l⟩,m,λv H' N' r t u=>q v H' N' r t u⟩
 .rename_i ρ' m;cases e
  exact⟨B,H,_,_,⟨B,l⟩,m,λy H' ⟨N',s'⟩=>q .non H' N' s'.ext .non X9⟩
 simp_all
end
inductive kF (X:Cx)(N':List Str)(scope:Scope)(cl:List (Str×Addr)):Nat->List Nat->Prop where
 |nil {j:Nat}(h:N'.length=j):kF X N' scope cl j []
 |cons {j i:Nat}{r:List Nat}{x:Str}(h1:N'[j]? = some x) (h2:X.N[i]? = some x) (h3:X.env.kindOf x=some .cell\/X.env.kindOf x=some .free)
   (h4:scope.names.lookup x=some .free) (h5:cl.lookup x=X.env.cells.lookup x) (t:kF X N' scope cl (j+1) r):kF X N' scope cl j (i::r)
theorem kF.len:∀ {j:Nat}{cap:LN},kF X N' scope cl j cap->N'.length=j+cap.length
 |_,_,.nil h=>by rw[h];rfl
 |j,i::r,.cons _ _ _ _ _ t=>by rw[t.len,vE];lia
theorem kF.get:∀ {j:Nat}{cap:LN}{k i:Nat},kF X N' scope cl j cap->cap[k]? = some i->∃x,N'[j+k]? = some x/\X.N[i]? = some x/\(X.env.kindOf x=some .cell\/X.env.kindOf x=some .free) /\
  scope.names.lookup x=some .free/\cl.lookup x=X.env.cells.lookup x
 |_,_,_,_,.nil _,e=>by simp at e
 |j,_,0,_,.cons h1 h2 h3 h4 h5 _,e=>by simp at e;subst e;exact⟨_,h1,h2,h3,h4,h5⟩
 |j,_,k+1,i,.cons _ _ _ _ _ t,e=>by
  obtain⟨x,q,r⟩:=t.get (by simpa using e);exact⟨x,N9,r⟩
noncomputable abbrev yV (X:Cx)(N':LS)(scope:Scope)(cl:List (Str×Addr))(q:Str)(A:Around)(f c:Addr)(s:Shared)(H:Hp):Cx:=
 { X with A:=A.deeper (envX q scope s.z f (.ref c) cl),N:=N',s₀:=s,H₀:=H,env:=envX q scope s.z f (.ref c) cl,outer:=X.stack,stack:=envX q scope s.z f (.ref c) cl::X.stack,ex:=[],fn:=λ_=>false,calm:=true,pn:=[],xe:=λ_ _=>False }
structure LamSc (X:Cx)(scope:Scope)(cl:List (Str×Addr))(y:Str):Prop where
 clos:closureFor scope X.env=pure cl
 nocell:∀z∈scope.names,z.2≠.cell
 kind:scope.kind=.function
 co:scope.isCoroutine=false
 gen:scope.isGenerator=false
 par:scope.names.lookup y=some .local
 sub:∀x c,cl.lookup x=some c->X.env.cells.lookup x=some c
 has:∀x,scope.names.lookup x=some .free->∃c,cl.lookup x=some c
def Vc (h1:∀z∈scope.names,z.2≠.cell)(h2:scope.kind=.function)(h3:scope.isCoroutine=false)(M:scope.isGenerator=false)(hp:scope.names.lookup y=some .local)
  (O:(scope.names.all λz=>!(z.2 == NameKind.free) || (X.env.cells.lookup z.1).isSome)=true):LamSc X scope (dD scope.names X.env.cells []) y:=by
 have h4:∀z∈scope.names,z.2=.free->(X.env.cells.lookup z.1).isSome=true:=λz hz e=>by
  grind
 exact⟨uh _ [] h4,h1,h2,h3,M,hp,λx c e=>m5 _ [] (λy d q=>by cases q) e,λx h=>by
  have:=m6 _ [] (ga h) (h4 _ (ga h) rr);exact uU this⟩
section
variable {X:Cx}{af:AO}{σ:St}{H:Hp}{s:Shared}{A:Around}{N':LS}{scope:Scope}{cl:List (Str×Addr)}{q y:Str}{cap:LN}
def M5 (S:LamSc X scope cl y)(t:N'[0]? = some y)(cp:kF X N' scope cl 1 cap)(I:Inv X af σ H s)(B:A.frames=some X.stack)(hh:A.handled=none)(r:aC v u)
  (C:h₁.Ns s.z (λx=>[(y,u)].reverse.lookup x)) (hk:∀b o,s.heap.get? b=some o->h₁.get? b=some o):
  Inv (yV X N' scope cl q A f c s H) [] (some v::yk 0 cap σ) H { s with heap:=h₁,toks:=tk }:=by
 have M:∀b:Addr,b∉(yV X N' scope cl q A f c s H).ex:=λb z=>absurd (show b∈([]:List Addr)from z) X9;refine⟨⟨I.ok.mod,S.kind,rr,rr,vT _,λx z d g e2=>I.ok.inj x z d (S.sub _ _ g) (S.sub _ _ e2),λx hx=>?_,(λx d e=>by cases e),λ_=>hh,Around.frames_deeper B,.inr ⟨rr,rr⟩,λb z=>absurd z (M b),I.bs,vR I.ok.bsz I.sz,λb _ _=>M b,λb z=>absurd z (M b),I.stack,I.stkFree⟩,
  rr,I.bare,Un.kept hk,⟨_,C,λi x l g e2 F=>?_⟩,λx d e=>?_,I.hok.fresh (vT _),λx d e=>I.freeC x d (S.sub _ _ e),λp hp=>absurd (show p∈([]:AO)from hp) X9,I.hok.kept hk,?_⟩
 .have hx':=hx;rcases hx' with hx'|hx'
  .exact absurd rr (S.nocell _ (ga hx'))
  .exact S.has x hx'
 .cases i with
  |zero=>
   have U:=g;rw[t]at U;cases U;have O:=by simpa using e2
   cases O
   exact⟨u,r,.inl ⟨S.par,X9⟩⟩
  |succ k=>
   have O:=by simpa using e2
   obtain⟨k',h,G,g1,a⟩:=wF O;have:k=k':=N9
   subst this;obtain⟨n,n1,n2,n3,n4,n5⟩:=cp.get g1;have:n=x:=by
    lia
   subst this;have j:σ[h]? = some (some l):=by
    cases z:σ[h]? with
    |none=>rw[z]at a;cases a
    |some w=>rw[z]at a;cases w with
     |none=>cases a
     |some w=>cases a;rfl
   obtain⟨m,_,hl⟩:=I.loc;obtain⟨u',ru,D⟩:=hl h n l n2 j (by
    rcases n3 with n3|n3
    .exact .inr (.inl n3)
    .exact .inr (.inr n3))
   refine⟨u',ru,.inr ⟨.inr n4,?_⟩⟩;rcases D with⟨l1,_⟩|⟨_,d,l2,E⟩
   .lia
   .obtain⟨ob,ho,hd⟩:=E;exact⟨d,by rw[n5];exact l2,ob,hk _ _ ho,hd⟩
 .obtain⟨w,ob,ho,hd⟩:=I.cell x d (S.sub _ _ e);exact⟨w,ob,hk _ _ ho,hd⟩
 .have:=cp.len;unfold yk;rw[this];simp;lia
def M6 (S:LamSc X scope cl y)(l:N'[0]? = some y)(cp:kF X N' scope cl 1 cap)(I:Inv X af σ H s)
  (m:A.frames=some X.stack) (hh:A.handled=none) (M:A.depth<recursionLimit) (n:Ip H f q params body scope cl)
  (O:∀pm c a u,bindArgs (kla_fn "<lambda>" q params body scope cl pm (.ref c) a) ⟨[u],[]⟩=pure [(y,u)])
  (hb:∀(f c:Addr)(s:Shared)(H:Hp),JE (yV X N' scope cl q A f c s H) body fb)
  (rep:eK X.K B σ ρ) (p:aJ B H) (r:aC v u) (i:Is X.K B v d) (e:fb (some (d,false)::cx 0 cap ρ)=some (d',b')) (x:Fin X.K B H d' b' Q):
  wpAny (model X.prog X.w) A (call (.ref f) [u]) (EP X af σ Q) (λ_ _=>False) s:=by
 obtain⟨pm,c,a,P,oc,u',ws,t,hf,hc,hd,hv⟩:=n;have ho:=(I.hok f _ hf).1;have C:=(I.hok c _ hc).1;refine wpAny_call (codeAny_mono (R:=λr s'=>CR A7 X.stack X.prog X.w H s Q (λ_ _ _=>False) r s') ?_ λr s' hq=>?_)
 .refine kla_callFunE M ho rr S.co S.gen rr ⟨c,oc,ws,t,rr,C,hd,hv⟩ ?_;rw[O];refine wY (wpAny_newFunctionEnv S.nocell (λz hz=>by rw[uT hz];exact S.par) (λk D g=>⟨I.nolimit.fresh _ g,?_⟩) S.kind);have U:=λb o e=>g.extBut b o (vS (vX e)) (vZ _ e);have J:=M5 (f:=f) (c:=c) (q:=q) (tk:=s.toks+1) S l cp I m hh r D U;refine kla_codeExpr (wpAny_mono (hb f c s H [] _ _ H Q J ⟨B,_,d',b',p,⟨rep.tb,λj E F z=>?_⟩,e,x⟩) (λw s' hw=>?_) λ_ _ z=>z.elim)
  .cases j with
   |zero=>
    simp_all
   |succ j=>
    obtain⟨w,h1,h2⟩:=(rep.caps ).at' j E F (by simpa using z);simp_all
  .obtain⟨G,H',h,L,N⟩:=hw;exact⟨G,H',h.os,h.bare,h.base,h.hok,L,N⟩
 .cases r with
  |error e=>exact False.elim hq
  |ok fl=>
   cases fl with
   |ret w=>exact I.after hq
   |next=>exact False.elim hq
   |brk=>exact False.elim hq
   |cont=>exact False.elim hq
end
end DL
namespace DL
open PySem PySem.Spec PySem.W PyProof.Rows L2
section
variable {X:Cx}{af:AO}{σ:St}{H:Hp}{s:Shared}{h':Heap}{t':Nat}
def oj (I:Inv X ((p,o)::af) σ H s):∀x c,X.env.cells.lookup x=some c->c≠p:=λx c e z=>by
 have M:=I.pin _ (mY _ mX);obtain⟨v,ob,ho,hd⟩:=I.cell x c e;simp_all
def jN (I:Inv X (p::af) σ H s):Inv X af σ H s:=I.pins_of λq hq=>I.pin q (mY _ (mZ _ hq))
def gh (I:Inv X ((p,o)::af) σ H s)(h0:X.s₀.z<=p)(hp:∀q∈X.pn++af,q.1≠p)(k:∀b u,b≠p->s.heap.get? b=some u->h'.get? b=some u)(O:h'.get? p=some o')(U:∀v,o'.data≠.cell v):
  Inv X ((p,o')::af) σ H { s with heap:=h',toks:=t' }:=by
 have M:=I.pin _ (mY _ mX);have J:=(jN I).turned (t':=t') k M.2.1 M.2.2.1 (.inr h0) (oj I) hp;refine J.pins_of λq hq=>?_;rcases vP hq with rfl|hq
 .simp_all
 .exact J.pin q (mY _ hq)
def pZ (I:Inv X af σ H s)(k:∀b u,s.heap.get? b=some u->h'.get? b=some u)(hs:s.z<=p)(M:h'.get? p=some o)(O:∀v,o.data≠.cell v):Inv X ((p,o)::af) σ H { s with heap:=h',toks:=t' }:=by
 have J:=I.kept (t':=t') k;refine J.pins_of λq hq=>?_;rcases vP hq with rfl|hq
 .exact⟨M,I.hok.fresh hs,ne_of_gt (vQ I.lt hs),I.nofs hs,O⟩
 .exact J.pin q (mY _ hq)
def M7 (I:Inv X ((p,o)::af) σ H s)(h0:X.s₀.z<=p)(hp:∀q∈X.pn++af,q.1≠p)(k:∀b u,b≠p->s.heap.get? b=some u->h'.get? b=some u)(a:∃u,h'.get? p=some u)
  (new:bf X.prog X.w (upd H p ob) h' p ob):Inv X af σ (upd H p ob) { s with heap:=h',toks:=t' }:=by
 have M:=I.pin (p,o) (mY _ mX);have hn:=M.2.1;have cs:=oj I;refine(jN I).step (g':=s.gens) (d':=s.drawn) (ch:=[p]) (λb hb=>?_) (λb u _ _ hc e _=>k b u (λz=>hc (by simp[z])) e) (λb u _ _ hc e _=>⟨u.slots,k b u (λz=>hc (by simp[z])) e⟩) (λb u hc _ n=>by simp_all[a8])
  (λb u hc e=>⟨u,k b u (λz=>hc (by simp[z])) e⟩) (λb xs e=>by rw[a8 (aO e hn)];exact e) (λb u w e=>by rw[a8 (aO e hn)];exact e) (λb q e=>by rw[a8 (aO e hn)];exact e) (λm hm=>?_) (λb u e=>?_) I.bare
 .have z:b=p:=by simpa using hb
  subst z;exact⟨.inr h0,M.2.2.1,cs,hp⟩
 .obtain⟨O,es,U,ho,r⟩:=hm;exact⟨O,es,U,k _ O (λz=>M.2.2.1 z.symm) ho,r⟩
 .by_cases z:b=p
  .simp_all[au]
  .rw[a8 z]at e;refine(I.hok b u e).stay (λc v hc q=>k c v ?_ q) (λc q=>?_) (λc xs q=>?_) λc w xs q=>?_
   .lia
   .rw[a8 (aO q hn)];exact q
   .rw[a8 (aO q hn)];exact q
   .rw[a8 (aO q hn)];exact q
end
def u7 (X:Cx)(A:Around)(σ:St)(M:Value)(B O:Hp)(U:D->Option D):Prop:=
 ∀(af:AO)(s:Shared)(H N:Hp)(v:V)(u:Value)(d d':D),Inv X af σ H s->aJ O H->aJ B N->aJ N H->Is X.K N v d->aC v u->U d=some d' ->
  wpAny (model X.prog X.w) A (call M [u]) (EP X af σ λa H'=>∃N',Ext N N' H H'/\Is X.K N' a d') (λ_ _=>False) s
def JK (X:Cx)(A:Around)(e:Expr)(U:Env->D->Option D):Prop:=∀(af:AO)(s:Shared)(σ:St)(H B:Hp)(ρ:Env)(Q:QV)(E:QV),Inv X af σ H s->aJ B H->eK X.K B σ ρ ->
 (∀O M s1,Inv X af σ M s1->aJ H M->u7 X A σ (.ref O) B M (U ρ)->Q (.ref O) s1)->wq X (eval e X.env) Q E s
section
variable {X:Cx}{A:Around}
@[simp] def yW (cap:LN)(M:FE):Env->D->Option D:=λρ d=>(M (some (d,false)::cx 0 cap ρ)).map (·.1)
def Rh (hx:x∈jF)(L:yU X.K x)(hc:∀c P,tabIn X.K x=some (c,P)->X.env.code=.ref c)(hq:X.env.qual ++ "<lambda>" = tJ x)
  (O:defaultsOf params X.env=([],[])) (S:LamSc X scope (dD scope.names X.env.cells []) y) (b:N'[0]? = some y) (cp:kF X N' scope (dD scope.names X.env.cells []) 1 cap) (g:A.frames=X.A.frames) (hr:dF (k+1) A)
  (M:∀pm c U u,bindArgs (kla_fn "<lambda>" (tJ x) params body scope (dD scope.names X.env.cells []) pm (.ref c) U) ⟨[u],[]⟩=pure [(y,u)])
  (hb:∀(f c:Addr)(s:Shared)(H:Hp),dF k (yV X N' scope (dD scope.names X.env.cells []) (tJ x) A f c s H).A->JE (yV X N' scope (dD scope.names X.env.cells []) (tJ x) A f c s H) body fb):JK X A (.Lambda params body scope pos) (yW cap fb):=by
 intro af s σ H B ρ Q E I h rep i;refine Iq hx L hc hq O S.clos I (rep.tb.mono h) λf j s1 l m n=>i f j s1 l m ?_;intro t s' H' N v u d d' a m1 m2 o iv r e;obtain⟨⟨d2,b2⟩,p,e2⟩:=oY e;cases e2
 exact M6 S b cp a (g.trans a.ok.frames) hr.hd hr.depth (n.mono m1) M (λf c s H=>hb f c s H (hr.deeper _)) (rep.mono m2) o r iv p λw H2 N2 q i2 _=>⟨N2,q,i2⟩
@[simp] noncomputable def Fy (g:LD->OB):Env->D->Option D:=λ_ d=>(g [d]).map (·.1)
def OD (F:Fn X.prog X.w X.K X.mg X.base k x g)(hr:dF k A)(f:A.frames=X.A.frames)(h:Gl X x)(O:bj x):JK X A (.Name x p) (Fy g):=by
 intro af s σ H B ρ Q E I n rep i;obtain⟨ad,fd,ps,b,hm,hk,hb⟩:=F.ex;refine wl I h hm ?_ O;refine i ad H s I (.refl H) ?_;intro U s' H' N v u d d' a m1 m2 j iv r e;obtain⟨⟨d2,b2⟩,l,e2⟩:=oY e;cases e2
 have sp:KW _ g _ H' (λc H2=>∃N',Ext N N' H' H2/\Is _ N' c d2) (λ_ _ _=>False):=⟨N,[d],d2,b2,⟨j,rep.tb.mono m2⟩,.cons iv .nil,l,λc H2 N2 m i2 _=>⟨N2,m,i2⟩⟩;have hl:[u].length=ps.length:=by have:=b.len _ _ _ _ sp;simp_all
 have M:=a.env0;have bb:=hb s' [u] a.kIn (by simpa using hl);refine wpAny_call (codeAny_mono (b.run A _ s' H' _ _ _ _ _ hr ⟨f.trans M.frames,M.mod,M.bs,M.bsz,M.funs,M.frf,M.hok,M.bare⟩ bb (.cons r .nil) sp) λr s' hq=>?_);cases r with
 |error e=>exact False.elim hq
 |ok fl=>
  cases fl with
  |ret w=>exact a.after hq
  |next=>exact False.elim hq
  |brk=>exact False.elim hq
  |cont=>exact False.elim hq
end
noncomputable def iK (f:D->Option D):LD->Option LD
 |[]=>some []
 |d::ds=>(f d).bind λx=>(iK f ds).map (x :: ·)
theorem jO:∀ {ds ks:LD},iK f ds=some ks->ks.length=ds.length
 |[],_,h=>by simp_all[iK]
 |d::ds,_,h=>by
  refine eX h λa h1 h=>?_;refine eR h λr h2 h=>?_;subst h;simp[jO h2]
theorem qY:∀ {ds ks:LD},iK f ds=some ks->∀ {i:Nat}{d:D},ds[i]? = some d->∃k,ks[i]? = some k/\f d=some k
 |[],_,h,i,d,e=>by simp at e
 |d::ds,_,h,0,e,q=>by
  refine eX h λa h1 h=>?_;refine eR h λr h2 h=>?_;grind
 |d::ds,_,h,i+1,e,q=>by
  refine eX h λa h1 h=>?_;refine eR h λr h2 h=>?_;subst h;obtain⟨k,M,O⟩:=qY h2 (by simpa using q);simp_all
structure KK (X:Cx)(A:Around)(kd:List D->Option (List (List At)))(ok:List (List At)->Bool):Prop where
 len:∀ {ds:List D}{ks:List (List At)},kd ds=some ks->ks.length=ds.length
 ask:∀ {af:List (Addr×Obj)}{σ:St}{H:Hp}{s:Shared}(_:Inv X af σ H s) {ys:List V}{ds:List D}{ks:List (List At)}{its:List Value},aL ys its->IsL X.K H ys ds->kd ds=some ks->ok ks=true->cI ks=true ->
  (0<ks.length->∀ {E:Value->Shared->Prop}{Q:SortKind->Shared->Prop},Q (tuples' true) s->wpAny (model X.prog X.w) A (keyKind' its.toArray) Q E s) /\
  ∀(i j:Nat)(C:Bool->Shared->Prop)(s1:Shared),i<ks.length->j<ks.length->s1=s->(∀s',s'=s->C (qV (KZ ks) i j) s')->kas_ask X.prog X.w A (tuples' true) its i j C s1
def Ri:KK X A dO dX:=⟨oi,λI _ _ _ _ r i e hf hc=>have hp:=pY I r i e;⟨λhn _ _ q=>Ik hp hf hn q,M3 hc hp⟩⟩
section
variable {X:Cx}{af:AO}{σ:St}{s:Shared}
theorem u8 (r:aC x u):∀ {vs:LV}{us:LU},aL vs us->aL (vs++[x]) (us++[u])
 |_,_,.nil=>.cons r .nil
 |_,_,.cons h t=>.cons h (u8 r t)
def cA:∀v,(Obj.mk c od (.seq its n) sl).data≠.cell v:=λv z=>by cases z
def Bp
  (I:Inv X ((a,seqObj "list" its.toArray n)::af) σ H s) (h0:X.s₀.z<=a) (hp:∀q∈X.pn++af,q.1≠a) (EE:u7 X A σ qv B H kf) (x:aL vs its) (iv:IsL X.K B vs ds) (sB:aJ B H)
  (M:KK X A kd ok) (em:iK kf ds=some iW) (ek:kd iW=some ks) (hc:cI ks=true) (hf:ok ks=true) (KN:its.length<64)
  (h:∀(p:Array Nat)(s':Shared)(H' N:Hp),pQ its.length p->Up (KZ ks) p its.length->Inv X af σ (upd H' a (.lst (p.toList.map λi=>vs.getD i .non))) s'->Ext B N H H'->H' a=none->P (.done (.ret .none)) s'):
  wpAny (model X.prog X.w) A (ksk_tree a qv false) P E s:=by
 have t:=I.pin (a,seqObj "list" its.toArray n) (mY _ mX)
 have Cb:vs.length=its.length:=x.length
 have Sx:ds.length=vs.length:=iv.length.symm
 have hkd:iW.length=ds.length:=jO em
 have hks:ks.length=iW.length:=M.len ek
 have hz:its.length<=sizeLine:=by rw[sizeLine_eq];lia
 have hna:H a=none:=t.2.1
 obtain⟨U,Tn⟩:∃U,(s.heap.update a (Obj.mapSeq λ_=>(#[]:AV))).get? a=some (seqObj "list" #[] U):=⟨_,get?_update_seq t.1 λ_=>#[]⟩
 have u1:=vW s.heap a (Obj.mapSeq λ_=>(#[]:AV))
 have I1:=gh (t':=s.toks) I h0 hp (λb u n q=>(u1.2 b n).trans q) Tn cA
 let h2:Heap:=(s.heap.update a (Obj.mapSeq λ_=>(#[]:AV))).push (seqObj "tuple" its.toArray 0)
 have y:Inv X ((a,seqObj "list" #[] U)::af) σ H { s with heap:=h2 }:=I1.kept (t':=s.toks) λb u q=>vZ _ q
 let kS:Addr:=h2.objs.size
 have I3:Inv X ((kS,seqObj "list" #[] 0)::(a,seqObj "list" #[] U)::af) σ H { s with heap:=h2.push (seqObj "list" #[] 0) }:=pZ (s:={ s with heap:=h2 }) (t':=s.toks) y (λb u q=>vZ _ q) (vT _) (vY _ rr) cA
 have k0:X.s₀.z<=kS:=y.sz
 have kp:∀q∈X.pn++((a,seqObj "list" #[] U)::af),q.1≠kS:=λq hq=>vS (vX (y.pin q hq).1)
 unfold ksk_tree
 refine wX (listItems_at t.1 rr ?_)
 refine wX (listUpdate_at t.1 rr ?_ (by simpa using hz) (uN _))
 refine wX (seqEpoch_at Tn rr ?_)
 refine wX (wpAny_newTuple ?_ (by simp_all))
 refine wX (wpAny_newList ?_ (uN _))
 refine wpAny_holding ?_
 show wpAny (model X.prog X.w) A (ksk_rest a qv false its.toArray U (.ref kS)) P E { s with heap:=h2.push (seqObj "list" #[] 0) }
 unfold ksk_rest
 refine wX (wpAny_rule ?_)
 rw[List.forIn_toArray]
 refine wX (ksk_fold (λi s'=>∃(H' N:Hp)(kA:AV)(e:Nat)(aA:LV),Inv X ((kS,seqObj "list" kA e)::(a,seqObj "list" #[] U)::af) σ H' s'/\Ext B N H H'/\aL aA kA.toList/\IsL X.K N aA (iW.take i)) its 0 _
  ⟨H,B,#[],0,[],I3,.refl sB,.nil,by simpa using IsL.nil⟩ ?step ?done)
 case step=>
  rintro j u s' hu ⟨H',N,kA,e,aA,J,c,rk,ik⟩
  simp only[Nat.zero_add]at ik |-
  have hj:j<its.length:=(vV hu).1
  obtain⟨d,hd⟩:∃d,ds[j]? = some d:=⟨_,vU N9⟩
  obtain⟨v,hv,XF⟩:=iv.get hd
  obtain⟨kd,Yt,D⟩:=qY em hd
  obtain⟨u',XG,ru⟩:=x.get hv
  rw[hu]at XG;cases XG
  have kl:kA.size=j:=by
   have z1:=rk.length
   have z2:=ik.length
   simp_all<;>lia
  refine wX (wpAny_attempt (wpAny_mono (EE _ s' H' N v u d kd J c.hh c.bn c.nh (XF.mono c.bn) ru D) (λw F hw=>?_) λ_ _ hF=>hF.elim))
  obtain⟨v',L,J',rv',N',x2,i2⟩:=hw
  have g:=J'.pin (kS,seqObj "list" kA e) (mY _ mX)
  obtain⟨c2,Gz⟩:∃c2,(F.heap.update kS (Obj.mapSeq (·.push w))).get? kS=some (seqObj "list" (kA.push w) c2):=⟨_,get?_update_seq g.1 (·.push w)⟩
  have u2:=vW F.heap kS (Obj.mapSeq (·.push w))
  refine wX (listUpdate_at g.1 rr ?_ (by rw[sizeLine_eq];lia) (vR (le_of_eq (Array.size_push ..)) (by rw[sizeLine_eq];lia)))
  refine wY ⟨rr,L,N',kA.push w,c2,aA++[v'],gh (t':=F.toks) J' k0 kp (λb q n z=>(u2.2 b n).trans z) Gz cA,c.trans x2,?_,?_⟩
  .simp_all[u8]
  .rw[take_add_one,Yt];exact(ik.mono x2.bn).append (.cons i2 .nil)
 case done=>
  rintro s' ⟨H',N,kA,e,aA,J,c,rk,ik⟩
  have k:IsL X.K N aA iW:=by
   grind
  have g:=J.pin (kS,seqObj "list" kA e) (mY _ mX)
  have R:=J.pin (a,seqObj "list" #[] U) (mY _ (mZ _ mX))
  have ZJ:H' a=none:=R.2.1
  have kz:kA.toList.length=its.length:=by rw[<-rk.length,k.length];lia
  have l:kA.size=its.length:=by simp_all
  refine wX (listItems_at g.1 rr ?_)
  have m:=M.ask J rk (k.mono c.nh) ek hf hc
  -- the end of the sort,for a permutation p
  have S:∀(st:SortSt)(p:Array Nat),arrOf st=p.map (kas_item (kA.toList.toArray.zip its.toArray))->failedOf st=none->pQ its.length p->Up (KZ ks) p its.length ->
    wpAny (model X.prog X.w) A (ksk_tail a false U (.ref kS) st) P E s':=λst p ea ef ap up=>by
   have eo:(arrOf st).map (·.2)=List.toArray (p.toList.map λi=>its.getD i Value.none):=kat_snds kz ea
   have Lf:∀i∈p.toList,i<vs.length:=λi hi=>by
    have:=mem_range.mp (ap.perm.mem_iff.mp hi)
    simp_all
   obtain⟨c3,T⟩:∃c3,(s'.heap.update kS (Obj.mapSeq λ_=>(#[]:AV))).get? kS=some (seqObj "list" #[] c3):=⟨_,get?_update_seq g.1 λ_=>#[]⟩
   have u3:=vW s'.heap kS (Obj.mapSeq λ_=>(#[]:AV))
   have J3:=jN (gh (t':=s'.toks) J k0 kp (λb q n z=>(u3.2 b n).trans z) T cA)
   have f:=J3.pin (a,seqObj "list" #[] U) (mY _ mX)
   obtain⟨V,o⟩:∃V,((s'.heap.update kS (Obj.mapSeq λ_=>(#[]:AV))).update a (Obj.mapSeq λ_=>(arrOf st).map (·.2))).get? a=some (seqObj "list" ((arrOf st).map (·.2)) V):=⟨_,get?_update_seq f.1 λ_=>(arrOf st).map (·.2)⟩
   have u4:=vW (s'.heap.update kS (Obj.mapSeq λ_=>(#[]:AV))) a (Obj.mapSeq λ_=>(arrOf st).map (·.2))
   have so:((arrOf st).map (·.2)).size=its.length:=by rw[eo];simp only[vH,vI,vG,ap.size]
   unfold ksk_tail
   try dsimp only
   refine wX (listUpdate_at g.1 rr ?_ (by rw[l,sizeLine_eq];lia) (uN _))
   refine wX (wpAny_letGo ?_)
   refine wX (seqEpoch_at f.1 rr ?_)
   refine wX (listUpdate_at f.1 rr ?_ (uN _) N9)
   rw[ef]
   simp only[bne_self_eq_false,uV,if_false]
   refine wY (h p _ H' N ap up (M7 (s:={ s' with heap:=s'.heap.update kS (Obj.mapSeq λ_=>(#[]:AV)) }) (t':=s'.toks) J3 h0 hp (λb q n z=>(u4.2 b n).trans z) ⟨_,o⟩ ?_) c ZJ)
   refine⟨by rw[vI,vG,ap.size];exact hz,p.toList.map λi=>its.getD i Value.none,V,u6 x p.toList Lf,?_⟩
   rw[<-eo];exact o
  unfold ksk_end
  try dsimp only
  simp only[uV,if_false]
  have W:kA=kA.toList.toArray:=X9
  by_cases O:its.toArray.size<2
  .rw[if_pos O,if_pos O]
   refine wX (wY ?_)
   rw[StateT.run_pure]
   refine wX (wY ?_)
   have hsm:its.length<2:=by simpa using O
   refine S _ (List.toArray (List.range its.length)) ?_ rr ⟨X9,X9⟩ ?_
   .show kA.zip its.toArray=_
    have:=kas_range (kA.toList.toArray.zip its.toArray)
    rw[show(kA.toList.toArray.zip its.toArray).size=its.length by simp[l]]at this
    rw[this]
   .intro i j hij hj
    grind
  .rw[if_neg O,if_neg O]
   have Y:2<=its.length:=by simp at O;lia
   rw[W]
   refine wX (m.1 N9 ?_)
   obtain⟨p,r1,r2,r3⟩:=Ih (n:=its.length) (rk:=KZ ks) N9
   refine wX (wpAny_mono (kat_run (E:=E) (ks:=kA.toList) (vs:=its) (κ:=tuples' true) (s:=s') (Q:=λZ s2=>s2=s'/\arrOf Z=p.map (kas_item (kA.toList.toArray.zip its.toArray))/\failedOf Z=none)
    (G:=λp' s2=>p'=p/\s2=s') kz Y KN (λp' Z s2 _ e2 e3 e4=>by
     lia) (Run.wp (λs2=>s2=s') (λi j C s2 hi hj e hC=>m.2 i j C s2 N9 N9 e hC) r1 rr λs2 e=>⟨rr,e⟩)) (λr s2 hr=>?_) λ_ _ z=>z)
   grind
end
theorem yX {α M:Type}{f:α->M}:∀ {l:List α},(l.map f).Nodup->l.Nodup
 |[],_=>nodup_nil
 |a::l,h=>by
  rw[uY,nodup_cons]at h;exact nodup_cons.mpr ⟨λz=>h.1 (uS ⟨a,z,rr⟩),yX h.2⟩
def fB (ks:List (List At))(ds:LD):LD:=(dr (λp:List At×D=>bZ p.1) (ks.zip ds)).map (·.2)
def Ir {α U:Type}(d:α)(e:U):∀ {O:List α}{M:List U},O.length=M.length->(List.range M.length).map (λi=>(O.getD i d,M.getD i e))=O.zip M:=λ{O M} h=>by
 apply ext_getElem?;intro i;by_cases hi:i<M.length
 .simp_all
 .simp[hi,h]
theorem M8 {α U:Type}{M:List α}{O:List U}(nd:M.Nodup){a:α}{b c:U}(h1:(a,b)∈M.zip O)(h2:(a,c)∈M.zip O):b=c:=by
 obtain⟨i,hi⟩:=mem_iff_getElem?.mp h1;obtain⟨j,hj⟩:=mem_iff_getElem?.mp h2;grind[List.getElem_inj]
def Br {ds:LD}{ks:List (List At)}{p:Array Nat}(hl:ks.length=ds.length)(hc:cI ks=true)(nd:ks.Nodup)(ap:pQ ds.length p)(O:Up (KZ ks) p ds.length):p.toList.map (λi=>ds.getD i .non)=fB ks ds:=by
 unfold fB;have e:p.toList.map (λi=>(ks.getD i [],ds.getD i .non))=dr (λp:List At×D=>bZ p.1) (ks.zip ds):=by
  apply iJ
  .intro x hx y hy e;have mx:=(of_mem_zip hx).1;have g:=(of_mem_zip hy).1;grind[oh,M8]
  .have:=ap.perm.map (λi=>(ks.getD i [],ds.getD i D.non));rw[Ir [] D.non hl]at this;exact this
  .rw[List.pairwise_iff_getElem];intro i j hi hj M;have hsz:=ap.size;have U:i<p.size:=by simpa using hi
   have a:j<p.size:=by simpa using hj
   have:=O i j (le_of_lt M) N9;unfold bR KZ at this;have b:p.getD i 0=p[i]:=by simp_all
   have c:p.getD j 0=p[j]:=by simp_all
   have h:=ap.lt (k:=j) N9;have d:ks.getD (p.getD j 0) []∈ks:=by
    simp_all
   have f:¬bZ (ks.getD (p.getD j 0) [])<bZ (ks.getD (p.getD i 0) []):=λz=>by
    have:=C6 (cs:=ks.map bZ) (uS ⟨_,d,rr⟩) z;lia
   simp only[List.getElem_map,Array.getElem_toList];unfold KY;rw[<-b,<-c];exact f
 rw[<-e,uP];rfl
@[simp] def wW (kd:LD->Option (List (List At)))(ok:List (List At)->Bool)(f:FE)(O:Env->D->Option D):FE:=λρ=>(f ρ).bind λx=>match x.1 with
 |.lst ds=>(iK (O ρ) ds).bind λM=>(kd M).bind λks=>if ks.length<64/\cI ks=true/\ok ks=true/\(ks.map bZ).Nodup then some (.lst (fB ks ds),true)else none
 |_=>none
@[simp] abbrev wZ:FE->(Env->D->Option D)->FE:=wW dO dX
noncomputable def Zh (g:(D->Option D)->LD->OB)(f:FE)(M:Env->D->Option D):FE:=λρ=>(f ρ).bind λx=>match x.1 with
 |.lst ds=>g (M ρ) ds
 |_=>none
section
variable {X:Cx}{e ke:Expr}{p pos kp:Pos}{kd:LD->Option (List (List At))}{ok:List (List At)->Bool}
def Fz {s2:Shared}{tk:Nat}{h1:Heap}{Q:V->Hp->Prop}(M:KK X X.A.in1.in1 kd ok)(U:Inv X af σ H2 { s2 with heap:=h1,toks:=tk })(l:u7 X X.A.in1.in1 σ (.ref qa) N H2 kf)(g:aL vs its)(a:IsL X.K N vs ds)(c:Ext B N H H2)(h:iK kf ds=some iW)(ek:kd iW=some ks)
  (hh:ks.length<64/\cI ks=true/\ok ks=true/\(ks.map bZ).Nodup) (q:Fin X.K B H (.lst (fB ks ds)) true Q):
  wpAny (model X.prog X.w) X.A.in1 (do let _ <-holding [.ref h1.objs.size] (call (.builtin "list.sort") [.ref h1.objs.size] [(("key" : Str),.ref qa)]);ret (.ref h1.objs.size)) (λdQ s'=>∃v,dQ=.done (.ret v)/\EP X af σ Q v s') X.xe { s2 with heap:=h1.push (seqObj "list" its.toArray 0),toks:=tk }:=by
 obtain⟨x,hc,hf,nd⟩:=hh;have y:vs.length=its.length:=g.length;have z:ds.length=vs.length:=a.length.symm;have m:iW.length=ds.length:=jO h;have n:ks.length=iW.length:=M.len ek;have j:Inv X ((h1.objs.size,seqObj "list" its.toArray 0)::af) σ H2 _:=
  pZ (s:={ s2 with heap:=h1,toks:=tk }) (t':=tk) U (λb u q=>vZ _ q) (vT _) (vY _ rr) cA
 have r:=j.pin _ (mY _ mX);refine wX (wpAny_holding (wpAny_call_entry_kw slot_list_sort ⟨_,r.1,rr⟩ entry_list_sort ?_ (ksk_l1 _ _)));rw[ksk_t1];refine Bp j U.sz (λq hq=>vS (vX (U.pin q hq).1)) l g a c.nh M h ek hc hf N9 λpm s' H' N' ap k J O hn=>⟨_,rr,wY ⟨_,rr,?_⟩⟩;have t:its.length=ds.length:=N9
 rw[t]at ap k;have d:=yR (a.mono O.bn) pm.toList λi hi=>mem_range.mp (ap.perm.mem_iff.mp hi);rw[Br N9 hc (yX nd) ap k]at d;have f:=Ext.laid (o:=.lst (pm.toList.map λi=>vs.getD i .non)) O.nh hn;exact⟨.ref h1.objs.size,_,J,rr,q _ _ _ ((c.trans O).trans f) (.lst (eO.of au) (d.mono f.bn)) λ_=>⟨_,_,_,rr,rr,(c.trans O).hh.free hn,au,d.mono f.bn⟩⟩
def Iu {nm:String}{ns:Str}{A:Around}{g:(D->Option D)->LD->OB}(bt:bootBuiltins ns=some (.builtin nm))(n1:ns ≠ "__name__")(n2:bj ns)(hm:X.mg ns=none)(he:JE X e f)(hk:JK X A ke a)(m:Gl X ns)
  (M:cM e X.env)
  (U:∀ {af σ H2 s2 j} {B N H:Hp}{a:D->Option D}{l vs its ds d b Q},Inv X af σ H2 s2->u7 X A σ (.ref j) N H2 a->eO X.K N l vs->IsL X.K N vs ds->aL vs its->s2.heap.IsList l its.toArray->Ext B N H H2->g a ds=some (d,b)->Fin X.K B H d b Q->wq X (call (.builtin nm) [.ref l] [(("key" : Str),.ref j)]) (EP X af σ Q) X.xe s2):
  JE X (.Call (.Name ns p) [e] [⟨some "key",ke,kp⟩] pos) (Zh g f a):=by
 intro af s σ H Q I h;obtain⟨B,ρ,d,b,n,rep,c,q⟩:=h;obtain⟨⟨xd,C⟩,ex,c⟩:=oX c;cases xd<;>try (cases c;done)
 rename_i ds;refine wpAny_Call_Name_kw (fE I m hm bt ?_ n1 n2);refine callWith_kw (bJ ((de he fF M) pos af s σ H (λvs i=>∃v N,vs=[v]/\Ext B N H i/\Is X.K N v (.lst ds)) I ⟨B,ρ,_,_,n,rep,ex,λv i N O i1 _=>⟨v,N,rr,O,i1⟩⟩) λus s1 o=>?_) (by rw[M];rfl) (by rw[M];rfl) rr rr;obtain⟨r,i,t,w,v,N,rfl,O,i1⟩:=o;obtain⟨u,rfl,ru⟩:=fZ w;refine kws_cons (hk af s1 σ i N ρ _ _ t O.nh (rep.mono O.bn) λj H2 s2 k m2 x=>kws_nil ?_);cases i1
 rename_i l vs hq y;cases ru
 obtain⟨its,z,pl,_⟩:=k.list ((O.nh.trans m2).seq hq);exact U k x hq y z pl.isList (O.trans (.grow O.nh m2)) c q
def OE (M:KK X X.A.in1.in1 kd ok){f:FE}{c:Env->D->Option D}(hm:X.mg "sorted" = none)(he:JE X e f)(hk:JK X X.A.in1.in1 ke c)(i:Gl X "sorted")
  (a:cM e X.env):
  JE X (.Call (.Name "sorted" p) [e] [⟨some "key",ke,kp⟩] pos) (wW kd ok f c):=by
 refine Iu (nm:="sorted") (g:=λk ds=>(iK k ds).bind λU=>(kd U).bind λks=>if ks.length<64/\cI ks=true/\ok ks=true/\(ks.map bZ).Nodup then some (.lst (fB ks ds),true)else none) rr H9 H9 hm he hk i a λ{af σ H2 s2 qa B N H k l vs its ds d b Q} I2 EE hq il rv pl x1 O q=>?_;refine eX O λU h O=>?_;refine eX O λks ek O=>?_;split at O
 .rename_i hh;cases O
  have hz:its.length<=sizeLine:=by rw[<-rv.length,il.length,<-jO h,<-M.len ek,sizeLine_eq];lia
  refine call_function_entry_kw kind_sorted plain_sorted entry_sorted (ksk_s1 _ _) ?_;unfold Builtin.«sorted»;refine wX (m:=checkCount "sorted" 1 1 _) (wY (wX (collect_list pl (wX (wpAny_newList ?_ hz)) (by simpa using hz))));exact Fz (tk:=s2.toks) M (I2.kept λb o q=>(Heap.get?_update_ne _ _ _ _ (vS (vX q))).trans (vZ _ q)) EE rv il x1 h ek hh q
 .cases O
end
noncomputable def cmP {f:String->CmpOp->Builtin}(_:f "__lt__" .Lt=Builtin.«tuple.__lt__»):=f
def cmF:String->CmpOp->Builtin:=cmP rr
section
variable {prog:Program}{w:World}{A:Around}{E:QV}{s:Shared}{op:CmpOp}
def gg.type (h:gg s.heap xs v):s.TypeIs v "tuple":=by
 obtain⟨a,o,its,n,rfl,ho,hc,_⟩:=h;exact⟨o,ho,hc⟩
inductive GeW (prog:Program)(w:World)(A:Around)(s:Shared)(op:CmpOp)(dQ r:Bool):List (Value×Value)->Prop
 |nil (h:dQ=r):GeW prog w A s op dQ r []
 |eq {u v:Value}{l:List (Value×Value)}(h:SeqAt.EqAt A s u v true) (t:GeW prog w A s op dQ r l):GeW prog w A s op dQ r ((u,v)::l)
 |ne {u v:Value}{l:List (Value×Value)}(h:SeqAt.EqAt A s u v false) (t:∀(Q E:Value->Shared->Prop),Q (.bool r) s->wpAny (model prog w) A (richCompare op u v) Q E s):GeW prog w A s op dQ r ((u,v)::l)
def M9 {nm:String}(O:s.TypeIs (.ref b) "tuple")(U:s.heap.get? a=some oa)(c:oa.data=.seq its na)(d:s.heap.get? b=some ob)(e:ob.data=.seq G0 nb)
  (W:GeW prog w A s op dQ r (its.toList.zip G0.toList)) (hz:Builtin.Tuple.tupleCompareSizes op its.size G0.size=.bool dQ) (f:op=.Lt\/op=.Gt\/op=.GtE) (q:P (.done (.ret (.bool r))) s):wpAny (model prog w) A (cmF nm op ⟨[.ref a,.ref b],[]⟩) P E s:=by
 show wpAny _ _ (isInstance _ _>>=_) _ _ s;refine wX (wpAny_isInstance O isSubtype_tuple_tuple ?_);refine wX (wpAny_tupleItemsOf U c ?_);refine wX (wpAny_tupleItemsOf d e ?_);refine wX ?_;refine wpAny_forIn_list _ (λaj z s'=>z.1=none/\s'=s/\GeW _ w A s op _ r aj) _ ?_ ?_ _ _ ⟨rr,rr,W⟩
 .rintro⟨u,v⟩ aj z s' ⟨hz,rfl,W⟩;cases W with
  |eq h t=>
   refine wX (h _ _ _ _ ?_);simp_all[wY]
  |ne h t=>
   refine wX (h _ _ _ _ ?_);have t:=t (λv M=>v=.bool r/\M=s') E ⟨rr,rr⟩;rcases f with rfl|rfl|rfl<;>exact wX (wpAny_rule (wX (wpAny_mono t (λv M hv=>by obtain⟨rfl,rfl⟩:=hv;exact wX (wY (wY (wY q)))) λ_ _ z=>z)))
 .rintro⟨i,j⟩ s' ⟨g,rfl,W⟩;subst g;refine wY ?_;cases W with
  |nil h=>
   simp_all
structure CmR (prog:Program)(w:World)(A:Around)(s:Shared)(op:CmpOp)(R:List At->List At->Bool->Prop)(fl:Nat->Nat->Bool):Prop where
 ei:∀ {a xs ys r},R (.i a::xs) (.i a::ys) r->R xs ys r
 es:∀ {a xs ys r},R (.s a::xs) (.s a::ys) r->R xs ys r
 ni:∀ {a c xs ys r},a≠c->R (.i a::xs) (.i c::ys) r->∀t u (Q E:Value->Shared->Prop),Q (.bool r) s->wpAny (model prog w) A (richCompare op (.int a t) (.int c u)) Q E s
 ns:∀ {a c xs ys r},a≠c->R (.s a::xs) (.s c::ys) r->∀t u (Q E:Value->Shared->Prop),Q (.bool r) s->wpAny (model prog w) A (richCompare op (.str a t) (.str c u)) Q E s
 mx:∀ {a c xs ys r},¬R (.i a::xs) (.s c::ys) r/\¬R (.s c::xs) (.i a::ys) r
 en:∀ {xs r},(R [] xs r->fl 0 xs.length=r)/\(R xs [] r->fl xs.length 0=r)
 fs:∀ {m n},fl (m+1) (n+1)=fl m n
def Iv (C:CmR prog w A s op R fl)(xs ys:List At)(its M:LU)(U:Paired A9 xs its)(b:Paired A9 ys M)(h:R xs ys r):GeW prog w A s op (fl xs.length ys.length) r (its.zip M):=by
 induction U generalizing ys M with
 |nil=>exact .nil (C.en.1 h)
 |@cons x v xs its U f d=>
  cases b with
  |nil=>exact .nil (C.en.2 h)
  |@cons y u ys M b O=>
   cases x with
   |i a=>
    cases y with
    |s _=>exact absurd h C.mx.1
    |i c=>
     obtain⟨t,rfl⟩:=U;obtain⟨u,rfl⟩:=b;have he:=SeqAt.EqAt.int_int (A:=A) (s:=s) a t c u;rw[vE,vE,C.fs];by_cases e:a=c
     .subst e;rw[show(a == a)=true by simp]at he;exact .eq he (d ys M O (C.ei h))
     .rw[show(a == c)=false by simp[e]]at he;exact .ne he (C.ni e h t u)
   |s a=>
    cases y with
    |i _=>exact absurd h C.mx.2
    |s c=>
     obtain⟨t,rfl⟩:=U;obtain⟨u,rfl⟩:=b;have he:=SeqAt.EqAt.str_str (A:=A) (s:=s) a t c u;rw[vE,vE,C.fs];by_cases e:a=c
     .subst e;rw[show(a == a)=true by simp]at he;exact .eq he (d ys M O (C.es h))
     .rw[show(a == c)=false by simp[e]]at he;exact .ne he (C.ns e h t u)
def Vd:CmR prog w A s .Lt (λxs ys r=>aX xs ys=some r) (λm n=>decide (m<n)) where
 ei h:=by rwa [aX,if_pos rr]at h
 es h:=by rwa [aX,if_pos rr]at h
 ni e h _ _ _ _ q:=by rw[aX,if_neg e]at h;cases h;exact PyProof.Rows.lt_int q
 ns e h _ _ _ _ q:=by rw[aX,if_neg e]at h;cases h;exact PySem.P.lt_str q
 mx:=by simp[aX]
 en:=λ{xs}=>by cases xs<;>simp[aX]
 fs:=X9
def Ve:CmR prog w A s .Gt (λxs ys r=>aX ys xs=some r) (λm n=>decide (n<m)) where
 ei h:=by rwa [aX,if_pos rr]at h
 es h:=by rwa [aX,if_pos rr]at h
 ni e h _ _ _ _ q:=by rw[aX,if_neg (Ne.symm e)]at h;cases h;exact PyProof.Rows.gt_int q
 ns e h _ _ _ _ q:=by rw[aX,if_neg (Ne.symm e)]at h;cases h;exact PySem.P.gt_str q
 mx:=by simp[aX]
 en:=λ{xs}=>by cases xs<;>simp[aX]
 fs:=X9
def Iw (hx:gg s.heap xs (.ref a)):∃o its n,s.heap.get? a=some o/\o.data=.seq its n/\Paired A9 xs its.toList/\xs.length=its.size:=by
 obtain⟨M,o,its,n,e,ho,hc,hd,p⟩:=hx;cases e
 exact⟨o,its,n,ho,hd,p,by exact eW p⟩
def OF {nm:String}(C:CmR prog w A s op R fl)(hz:∀m n,Builtin.Tuple.tupleCompareSizes op m n=.bool (fl m n))(M:op=.Lt\/op=.Gt\/op=.GtE)(hx:gg s.heap xs (.ref a))(hy:gg s.heap ys (.ref b))(h:R xs ys r)(q:P (.done (.ret (.bool r))) s):wpAny (model prog w) A (cmF nm op ⟨[.ref a,.ref b],[]⟩) P E s:=by
 have hb:=hy.type;obtain⟨_,_,_,ho,hd,p,l1⟩:=Iw hx;obtain⟨_,_,_,O,U,c,l2⟩:=Iw hy;exact M9 hb ho hd O U (Iv C _ _ _ _ p c h) (by rw[l1,l2];exact hz _ _) M q
def Ix (hx:gg s.heap xs x)(hy:gg s.heap ys y)(h:aX xs ys=some r)(hu:A.units<cLine)(q:Q (.bool r) s):wpAny (model prog w) A (richCompare .Lt x y) Q E s:=by
 have M:=hx.type;have ty:=hy.type;obtain⟨a,_,_,_,rfl,_⟩:=id hx;obtain⟨b,_,_,_,rfl,_⟩:=id hy;exact wpAny_richCompare_same_room M ty slot_tuple_lt (wpAny_call_entry slot_tuple_lt M PySem.F.entry_tuple_lt (OF Vd (λ_ _=>rr) (.inl rr) hx hy h ⟨_,rr,(λe=>nomatch e),q⟩) (PySem.F.args_tuple_lt_2 _ _)) hu
def Vf (hx:gg s.heap xs x)(hy:gg s.heap ys y)(h:aX ys xs=some r)(hu:A.units<cLine)(q:Q (.bool r) s):wpAny (model prog w) A (richCompare .Gt x y) Q E s:=by
 have M:=hx.type;have ty:=hy.type;obtain⟨a,_,_,_,rfl,_⟩:=id hx;obtain⟨b,_,_,_,rfl,_⟩:=id hy;exact wpAny_richCompare_same_room M ty slot_tuple_gt (wpAny_call_entry slot_tuple_gt M PySem.F.entry_tuple_gt (OF Ve (λ_ _=>rr) (.inr (.inl rr)) hx hy h ⟨_,rr,(λe=>nomatch e),q⟩) (PySem.F.args_tuple_gt_2 _ _)) hu
end
def pj:List At×D->List (List At×D)->D
 |b,[]=>b.2
 |b,x::r=>if aX b.1 x.1=some true then pj x r else pj b r
def pq:List At×D->List (List At×D)->D
 |b,[]=>b.2
 |b,x::r=>if aX x.1 b.1=some true then pq x r else pq b r
noncomputable def mmP {f:String->CmpOp->Builtin}(_:f "max" .Gt=Builtin.«max.loop»):=f
def mmL:String->CmpOp->Builtin:=mmP rr
noncomputable def mmQ {f:String->Builtin}(_:f "max" = Builtin.«max»):=f
def mmF:String->Builtin:=mmQ rr
structure MM (nm lp:String)(ns:Str)(op:CmpOp)(lt:List At->List At->Option Bool)(go:List At×D->List (List At×D)->D):Prop where
 hn:(toString nm++toString ".loop" : String)=lp
 en:entryFor table lp=some (mmL nm op)
 pl:plainId lp=true
 k2:builtinKind nm=none
 p2:plainId nm=true
 e2:entryFor table nm=some (mmF nm)
 ka:∀a v:Value,argsOk nm ⟨[a],[(Str.ofString "key",v)]⟩
 bt:bootBuiltins ns=some (.builtin nm)
 n1:ns ≠ "__name__"
 n2:bj ns
 g0:∀b,go b []=b.2
 g1:∀b x r,go b (x::r)=if lt b.1 x.1=some true then go x r else go b r
 cg:∀ {ks:List (List At)},cI ks=true->∀ {a b},a∈ks->b∈ks->∃r,lt a b=some r
 rc:∀ {prog:Program}{w:World}{A:Around}{E:Value->Shared->Prop}{s:Shared}{xs ys:List At}{x y:Value}{r:Bool}{Q:Value->Shared->Prop},gg s.heap xs x->gg s.heap ys y->lt ys xs=some r->A.units<cLine->Q (.bool r) s->wpAny (model prog w) A (richCompare op x y) Q E s
def mmx:MM "max" "max.loop" "max" .Gt aX pj:=
 ⟨H9,PySem.F.entry_max_loop,PySem.F.plain_max_loop,PySem.F.kind_max,PySem.F.plain_max,PySem.F.entry_max,λ_ _=>by kernel_rfl,rr,H9,H9,λ_=>rr,λ_ _ _=>rr,λh _ _ a b=>⟨_,fW h a b⟩,Vf⟩
def mmn:MM "min" "min.loop" "min" .Lt (λa b=>aX b a) pq:=
 ⟨H9,PySem.F.entry_min_loop,PySem.F.plain_min_loop,PySem.F.kind_min,PySem.F.plain_min,PySem.F.entry_min,λ_ _=>by kernel_rfl,rr,H9,H9,λ_=>rr,λ_ _ _=>rr,λh _ _ a b=>⟨_,fW h b a⟩,Ix⟩
section
variable {X:Cx}{af:AO}{σ:St}
def Bt (J:Inv X ((M,O)::(U,o2)::af) σ H' s'):Inv X ((U,o2)::(M,O)::af) σ H' s':=
 J.pins_of λq hq=>J.pin q (by
  grind)
def qZ (hp:∀q∈X.pn++af,q.1≠a)(h:S≠a):∀q∈X.pn++((S,o)::af),q.1≠a:=λq hq=>by
 grind
def qc (I:Inv X af σ H s)(r:aC v u)(i:Is X.K H v d)(e:Bl d=some k):gg s.heap k u:=by
 have:=pY I (.cons r .nil) (.cons i .nil) (by simp [dO,e];rfl);cases this;assumption
inductive MK (X:Cx)(af:List (Addr×Obj))(σ:St)(S It l:Addr)(o:Obj)(j:Nat)(N H:Hp)(y:List At×D)(u ku:Value)(s:Shared):Prop
 |mk (H2 N2:Hp) (v kv:V) (kd:D) (oI:Obj) (J:Inv X ((S,o)::(It,oI)::af) σ H2 s) (tE:s.heap.IsListIter It l (j+1)) (x:Ext N N2 H H2) (ru:aC v u) (iv:Is X.K N2 v y.2) (rk:aC kv ku) (ik:Is X.K N2 kv kd) (ek:Bl kd=some y.1)
def Iy {E:QV}{It:Addr}(hh:X.A.handled=none)(p:u7 X X.A.in1 σ (.ref qa) B H1 kf)(hq:eO X.K B l vs)(iv:IsL X.K B vs ds)(t:iK kf ds=some iW)(ek:dO iW=some ks)(x:X.s₀.z<=It)(C:∀q∈X.pn++((S,o)::af),q.1≠It)
  (D:l≠It) (hz:(ks.zip ds)[j]? = some y) (I:Inv X ((S,o)::(It,oI)::af) σ H s) (tE:s.heap.IsListIter It l j) (M:Ext B N H1 H):
  wpAny (model X.prog X.w) X.A.in1 (pyNext (.ref It)) (λr s1=>∃u,r=some u/\wpAny (model X.prog X.w) X.A.in1 (call (.ref qa) [u]) (MK X af σ S It l o j N H y u) (λ_ _=>False) s1) E s:=by
 obtain⟨its,F,pl,_⟩:=I.list ((M.bn.trans M.nh).seq hq);obtain⟨hk,hd⟩:=getElem?_zip_eq_some.mp hz;obtain⟨v,hv,U⟩:=iv.get hd;obtain⟨kd,g,d⟩:=qY t hd;obtain⟨u,hu,ru⟩:=F.get hv;have G:=by
  have:=u0 ek (i:=j) (vV g).1;rw[vF,g,vF,hk]at this;exact this
 refine(Walks.list (A:=X.A.in1) hh It l D _).item j _ _ _ (by simpa using(vV hu).1) ⟨tE,pl.isList⟩ λu' h' Q J a L=>?_;have h:=by simpa using J
 rw[hu]at h;cases h;obtain⟨O,f,P,c⟩:=id a.1;exact⟨u,rr,bJ (p _ _ H N v u y.2 kd (Bt (gh (Bt I) x C (λb o n e=>L b o (by simpa using n) e) f (λv z=>by rw[c]at z;cases z))) M.hh M.bn M.nh (U.mono M.bn) ru d) λku s2 ⟨kv,H2,k,rk,N2,m,ik⟩=>
  ⟨H2,N2,v,kv,kd,O,k,⟨O,(k.pin (It,O) (mY _ (mZ _ mX))).1,P,c⟩,m,ru,U.mono (M.bn.trans m.bn),rk,ik,G⟩⟩
def MA {nm lp:String}{ns:Str}{op:CmpOp}{lt:List At->List At->Option Bool}{go:List At×D->List (List At×D)->D}(M:MM nm lp ns op lt go){G:Value}{l S It:Addr}{vs:LV}{ds Z:LD}{ks:List (List At)}{B J:Hp}{kf:D->Option D}{d0:D}{R:Result->Shared->Prop}(hh:X.A.handled=none)(hu:X.A.in1.units<cLine)(EE:u7 X X.A.in1 σ G B J kf)(L:∃a,G=.ref a)(hq:eO X.K B l vs)(iv:IsL X.K B vs ds)
  (em:iK kf ds=some Z) (ek:dO Z=some ks) (hc:cI ks=true) (S0:X.s₀.z<=S) (I0:X.s₀.z<=It) (XH:∀q∈X.pn++af,q.1≠S) (S2:∀q∈X.pn++af,q.1≠It) (E:S≠It) (S4:S≠l) (S3:l≠It)
  (hR:∀(s':Shared)(H' N:Hp)(v:V)(u:Value),Inv X af σ H' s'->Ext B N J H'->aC v u->Is X.K N v d0->R (.ok (.ret u)) s'):
  ∀(r j:Nat)(s:Shared)(H N:Hp)(U O:Value)(i p:V)(k t:D)(m:List At)(c:Nat)(oI:Obj),vs.length - j=r->j<=vs.length->Inv X ((S,seqObj "list" #[U,O] c)::(It,oI)::af) σ H s->s.heap.IsListIter It l j->Ext B N J H ->
   aC i U->Is X.K N i k->aC p O->Is X.K N p t->Bl t=some m->m∈ks->go (m,k) ((ks.zip ds).drop j)=d0 ->
   codeAny (model X.prog X.w) X.A (.builtin lp ⟨[.ref It,G,.ref S],[]⟩) R s:=by
 obtain⟨qa,rfl⟩:=L;intro r;induction r with
 |zero=>
  intro j s H N U O i p k t m c oI hr hj I tE d P i1 Q i2 f mk hd;have T:=I.pin (S,seqObj "list" #[U,O] c) (mY _ mX);have sB:aJ B H:=d.bn.trans d.nh;refine I.lisE (sB.seq hq) λits rv pl _=>?_;have hl:=pl.isList;have W:=Walks.list (prog:=X.prog) (w:=X.w) (A:=X.A.in1) hh It l S3 its.toArray;have hsz:its.toArray.size=its.length:=vH ..;have Cb:vs.length=its.length:=rv.length;have Sx:ds.length=its.length:=by rw[<-iv.length];exact rv.length
  have Ys:k=d0:=by
   rw[List.drop_of_length_le (by rw[length_zip];lia)]at hd;rw[M.g0]at hd;exact hd
  subst Ys;refine codeAny_builtin M.en ?_;rw[Around.under_plainId M.pl _];show wpAny _ X.A.in1 (seqItems? (.ref S)>>=_) _ _ _;refine wX (wpAny_seqItems T.1 rr ?_);show wpAny _ X.A.in1 (tryCatch (pyNext (.ref It)) _>>=_) _ _ _;refine wX (wpAny_tryCatch (W.done _ _ _ ⟨by grind,hl⟩ λh' Sy Pm=>?_));have J1:Inv X ((It,oI)::(S,seqObj "list" #[U,O] c)::af) σ H s:=Bt I;have Y:∀q∈X.pn++((S,seqObj "list" #[U,O] c)::af),q.1≠It:=qZ S2 E;have J2:=
   (jN J1).turned (t':=Sy) (λb o n e=>Pm b o (by simpa using n) e) (J1.pin (It,oI) (mY _ mX)).2.1 (J1.pin (It,oI) (mY _ mX)).2.2.1 (.inr I0) (oj J1) Y
  have x:=J2.pin (S,seqObj "list" #[U,O] c) (mY _ mX);obtain⟨c2,Gz⟩:∃c2,(h'.update S (Obj.mapSeq λ_=>(#[]:AV))).get? S=some (seqObj "list" #[] c2):=⟨_,get?_update_seq x.1 λ_=>#[]⟩;have F:=vW h' S (Obj.mapSeq λ_=>(#[]:AV));show wpAny _ X.A.in1 (updateSeq S (λ_=>#[])>>=_) _ _ _;refine wX ?_;refine wpAny_updateSeq x.1 rr (wX (wpAny_letGo (wY ?_)));exact hR _ H N i U (jN (gh (t':=Sy) J2 S0 XH (λb o n e=>(F.2 b n).trans e) Gz cA)) d P i1
 |succ r ih=>
  intro j s H N U O i p k t m c oI hr hj I tE d P i1 Q i2 f mk hd;have lF:j<(ks.zip ds).length:=by rw[length_zip,oi ek,jO em,<-iv.length];simp<;>lia
  have T:=I.pin (S,seqObj "list" #[U,O] c) (mY _ mX);have hz:=vU lF;rw[List.drop_eq_getElem_cons lF,M.g1]at hd;generalize (ks.zip ds)[j]=y at hz hd;have hm:y.1∈ks:=vL (getElem?_zip_eq_some.mp hz).1;obtain⟨r,g⟩:=M.cg hc mk hm;refine codeAny_builtin M.en ?_;rw[Around.under_plainId M.pl _];show wpAny _ X.A.in1 (seqItems? (.ref S)>>=_) _ _ _;refine wX (wpAny_seqItems T.1 rr ?_);show wpAny _ X.A.in1 (tryCatch (pyNext (.ref It)) _>>=_) _ _ _;refine wX (wpAny_tryCatch (bJ (Iy hh EE hq iv em ek I0 (qZ S2 E) S3 hz I tE d) λ_ s1 ⟨u,e,h1⟩=>?_));subst e;refine wX (wpAny_tryCatch (wpAny_holding (wpAny_mono h1 (λku s2 ⟨H2,N2,v,kv,kd,Yu,C,XM,h,ru,XF,rk,ik,Tu⟩=>?_) λ_ _ z=>z.elim)));have t1:=qc C rk (ik.mono h.nh) Tu;have t2:=qc C Q (i2.mono (h.bn.trans h.nh)) f;refine wX (wpAny_tryCatch (wpAny_holding (wX (M.rc t1 t2 g hu ?_))));refine wX (wpAny_holding (wpAny_truthy_bool ?_));refine wX (wpAny_letGo (wY ?_));cases r with
  |true=>
   rw[if_pos g]at hd;have F:=vW s2.heap S (Obj.mapSeq λ_=>#[u,ku]);simp only[if_true];have XN:=C.pin (S,seqObj "list" #[U,O] c) (mY _ mX);refine wX (wpAny_updateSeq XN.1 rr (wX (wpAny_letGo ?_)));rw[M.hn];obtain⟨o,g1,g2⟩:=XM;exact wY ⟨plainId_quiet M.pl _,ih (j+1) _ H2 N2 u ku v kv y.2 kd y.1 _ Yu N9 N9 (gh (t':=s2.toks) C S0 (qZ XH E.symm) (λb o n e=>(F.2 b n).trans e) (get?_update_seq XN.1 λ_=>#[u,ku]) cA) ⟨o,(F.2 It E.symm).trans g1,g2⟩ (d.trans h) ru XF rk ik Tu hm hd⟩
  |false=>
   rw[if_neg (by rw[g];simp)]at hd;simp only[uV,if_false];refine wX (wpAny_letGo ?_);rw[M.hn];exact wY ⟨plainId_quiet M.pl _,ih (j+1) _ H2 N2 U O i p k t m c Yu N9 N9 C XM (d.trans h) P (i1.mono h.bn) Q (i2.mono h.bn) f mk hd⟩
end
@[simp] def Rk (go:List At×D->List (List At×D)->D)(f:FE)(O:Env->D->Option D):FE:=λρ=>(f ρ).bind λx=>match x.1 with
 |.lst ds=>(iK (O ρ) ds).bind λM=>(dO M).bind λks=>if cI ks=true then match ks.zip ds with
  |[]=>none
  |y::r=>some (go y r,false)
  else none
 |_=>none
@[simp] def CB:=Rk pj
@[simp] def CC:=Rk pq
section
variable {X:Cx}{e ke:Expr}{p pos kp:Pos}
def OG {nm lp:String}{ns:Str}{op:CmpOp}{lt:List At->List At->Option Bool}{go:List At×D->List (List At×D)->D}(M:MM nm lp ns op lt go){f:FE}{j:Env->D->Option D}{k:Nat}(hm:X.mg ns=none)(he:JE X e f)(hk:JK X X.A.in1 ke j)(hr:dF k X.A)(R:Gl X ns)
  (a:cM e X.env):
  JE X (.Call (.Name ns p) [e] [⟨some "key",ke,kp⟩] pos) (Rk go f j):=by
 refine Iu (g:=λk ds=>(iK k ds).bind λm=>(dO m).bind λks=>if cI ks=true then match ks.zip ds with
  |[]=>none
  |y::r=>some (go y r,false)
  else none) M.bt M.n1 M.n2 hm he hk R a λ{af σ H2 s2 qa B N H k l vs its ds d b Q} I2 EE hq il rv pl x1 O q=>?_
 refine eX O λm t O=>?_;refine eX O λks ek O=>?_;split at O
 .rename_i hc;split at O
  .cases O
  rename_i y aj c;cases O
  have w:l<s2.z:=by
   obtain⟨ol,T,_⟩:=pl;exact vX T
  have x:(ks.zip ds)[0]? = some y:=by rw[c];rfl
  have h:=vL (getElem?_zip_eq_some.mp x).1;refine kmk_tree M.k2 M.p2 M.e2 (M.ka _ _) ?_;refine wX (wpAny_of_eq (show Builtin.Builtins.bindParams nm ["key","default"] 0 ⟨[],[(Str.ofString "key",.ref qa)]⟩=pure [some (.ref qa),none]from rr) ?_);refine wX (wY ?_);refine wX (wpAny_pyIter_list pl ?_);refine wX (wpAny_newList ?_ (uN _));rw[M.hn];let It:Addr:=s2.z;let oI:Obj:={ cls:=.type "list_iterator",data:=.fields #[.ref l,.int 0 0] };let S:Addr:=(s2.heap.push oI).objs.size;have hS:S=s2.z+1:=size_push' ..;have U:S≠It:=by rw[hS];exact ne_of_gt (Nat.lt_succ_self _)
  have J1:Inv X ((It,oI)::af) σ H2 { s2 with heap:=s2.heap.push oI }:=pZ (t':=s2.toks) I2 (λb u q=>vZ _ q) (vT _) (vY _ rr) (λv z=>by cases z);have J2:Inv X ((S,seqObj "list" #[] 0)::(It,oI)::af) σ H2 _:=pZ (s:={ s2 with heap:=s2.heap.push oI }) (t':=s2.toks) J1 (λb u q=>vZ _ q) (vT _) (vY _ rr) cA;have C:X.s₀.z<=It:=I2.sz;have E:X.s₀.z<=S:=by rw[hS];exact le_succ_of_le I2.sz
  have F:∀q∈X.pn++af,q.1≠It:=λq hq=>vS (vX (I2.pin q hq).1);have G:∀q∈X.pn++af,q.1≠S:=λq hq=>by rw[hS];exact vS (lt_succ_of_lt (vX (I2.pin q hq).1))
  have I:l≠It:=vS w;have V:S≠l:=by rw[hS];exact ne_of_gt (lt_succ_of_lt w)
  have hh:X.A.handled=none:=hr.hd;have hu:X.A.in1.units<cLine:=by have:=hr.un;lia
  have W:=J2.pin (S,seqObj "list" #[] 0) (mY _ mX);have Y:=J2.pin (It,oI) (mY _ (mZ _ mX));refine wY ⟨plainId_quiet M.pl _,?_⟩;refine codeAny_builtin M.en ?_;rw[Around.under_plainId M.pl _];refine wX (wpAny_seqItems W.1 rr ?_);refine wX (wpAny_tryCatch (bJ (Iy hh EE hq il t ek C (qZ F U) I x J2 ⟨oI,Y.1,rr,rr⟩ (.refl x1.nh)) λ_ s1 ⟨u,e,h1⟩=>?_));subst e;refine wX (wpAny_tryCatch (wpAny_holding (wpAny_mono h1 (λku J ⟨Z,N3,v,kv,kd,Yu,K,⟨o,g1,g2⟩,x3,ru,XF,rk,ik,Tu⟩=>?_) λ_ _ z=>z.elim)));have L:=K.pin (S,seqObj "list" #[] 0) (mY _ mX);have P:=vW J.heap S (Obj.mapSeq λ_=>#[u,ku]);refine wX (wpAny_updateSeq L.1 rr ?_);rw[M.hn];have i:1<=vs.length:=by
   have:=congrArg List.length c;rw[length_zip,vE,<-il.length]at this;grind
  exact wY ⟨plainId_quiet M.pl _,MA M (S:=S) (It:=It) hh hu EE ⟨qa,rr⟩ hq il t ek hc E C G F U V I (λs' H' N' v' u' J' x' r' i'=>⟨v',H',J',r',q _ _ _ (x1.trans x') i' X9⟩) _ 1 _ Z N3 u ku v kv y.2 kd y.1 _ Yu rr i
   (gh (t':=J.toks) K E (qZ G U.symm) (λb o n e=>(P.2 b n).trans e) (get?_update_seq L.1 λ_=>#[u,ku]) cA) ⟨o,(P.2 It U.symm).trans g1,g2⟩ x3 ru XF rk ik Tu h (by rw[c];rfl)⟩
 .cases O
end
section
variable {X:Cx}
@[simp] def Y2:D->D->OB
 |.tup xs,.tup ys=>(lO xs).bind λas=>(lO ys).bind λbs=>(aX as bs).map λr=>(.bl r,false)
 |_,_=>none
def Vg (hu:X.A.units+40<cLine):cH X (compareOp .Lt) (rD X.K Y2):=by
 intro af s σ H x y v u Q I O U q;refine eS q λB dx a d b M c f e q=>?_;cases dx<;>try (simp at e)
 cases a<;>try (simp at e)
 refine eX e λas g e=>?_;refine eX e λbs e2 e=>?_;refine eR e λr h e=>?_;cases e
 exact Ix (qc I O (c.mono M) g) (qc I U (f.mono M) e2) h N9 ⟨.bl r,H,I,rr,q.one M (.bl r)⟩
end
end DL
namespace DL
open PySem PySem.Spec PyProof.Rows L2
section
variable {X:Cx}
noncomputable def yY:D->D->OB
 |.tup xs,.tup ys=>if xs.isEmpty=true then some (.tup ys,false)else none
 |_,_=>none
def MB:cH X (binaryOp .Add) (rD X.K yY):=by
 intro af s σ H x y v u Q I e f q;refine eS q λB dx t d bb U g i M q=>?_;cases g<;>try (cases M;done)
 cases i<;>try (cases M;done)
 rename_i l vs ds h hl c ws es h' a;simp only[yY]at M;split at M
 .cases M
  cases e
  cases f
  refine I.tupE (aT U h) λits j k _=>?_;refine I.tupE (aT U h') λm w p2 _=>?_;have he:its.toArray.isEmpty=true:=by
   have z:=hl.length;have e2:=j.length;simp_all
  obtain⟨⟨cls,dd,data,sl⟩,ho,hc,n,hd⟩:=id k;obtain⟨⟨A,o,data2,b⟩,O,p,n2,r⟩:=id p2;subst hc;subst hd;subst p;subst r;exact concat_meets ⟨_,ho,rr⟩ ⟨_,O,rr⟩ noFill_tuple_add seq_tuple_add slot_tuple_add entry_tuple_add (args_tuple_add_2 _ _)
   (tuple_addW0 l c _ _ n n2 dd o sl b he) ⟨ho,O,⟨.ref c,H,I,rr,q.one U (.tup h' a)⟩⟩
 simp_all
@[simp] noncomputable def OH:D->D->OB
 |.tup xs,.tup ys=>if xs.length+ys.length<=sizeLine then some (.tup (xs++ys),false)else none
 |_,_=>none
theorem MC (xs ys:LD)(z:xs.length+ys.length<=sizeLine):SN AY yY (.tup xs) (.tup ys)=some (.tup (xs++ys),false):=by
 cases xs with
 |nil=>
  have:AY (.tup []) (.tup ys)=none:=if_neg (λh=>by cases h.2);show(match AY _ _ with|some z=>some z|none=>yY _ _)=_;rw[this];rfl
 |cons a l=>
  have:AY (.tup _) (.tup ys)=some _:=if_pos ⟨z,rr⟩;show(match AY _ _ with|some z=>some z|none=>yY _ _)=_;rw[this]
def Rm:cH X (binaryOp .Add) (rD X.K OH):=by
 refine io (nR HJ MB) λx y H Q q=>?_;refine eS q λB dx a d bb b O U M q=>?_;refine⟨B,dx,a,d,bb,b,O,U,?_,q⟩;cases O<;>try (cases M)
 cases U<;>try (cases M)
 simp only[OH]at M;split at M
 .grind[MC]
 .cases M
end
section
variable {X:Cx}
@[simp] def xx9:D->D->OB
 |d,.tup [.ty n,.ty m]=>if Fe d=true then none else if n = "list"/\m = "tuple" then some (.bl (iq d == "list" || iq d == "tuple"),false)else none
 |_,_=>none
@[simp] def CD:LD->OB
 |[d,e]=>xx9 d e
 |_=>none
def F0 (K:Frag)(d:D)(hd:∀n,d≠.ty n):PySem.W.kitAny K (.type (iq d)) [.type "list",.type "tuple"]=some (iq d == "list" || iq d == "tuple"):=by
 obtain⟨_,_,_,k4,k5⟩:=HF K d hd;unfold PySem.W.kitAny;rw[k4];cases iq d == "list" with
 |true=>rfl
 |false=>
  unfold PySem.W.kitAny;rw[k5];cases iq d == "tuple" with
  |true=>rfl
  |false=>rfl
def Iz (I:Inv X af σ H s)(i:Is X.K H v d)(hd:∀n,d≠.ty n)(M:aC v u)(O:IsTup s.heap tp its.toArray)(e:PySem.W.kitAny X.K (.type (iq d)) its=some b)(h:∀tk,Q (.bool b) { s with toks:=tk }):
  wpAny (model X.prog X.w) A (call (.builtin "isinstance") [u,.ref tp]) Q E s:=by
 obtain⟨⟨cls,dd,data,sl⟩,ho,hc,n,U⟩:=id O;subst hc;subst U;cases i with
 |non=>cases (show u=Value.none from M);exact PySem.W.kia_tup PySem.W.kitx_none I.kIn True.intro ho e (λz=>nomatch z) h
 |bl y=>cases (show u=Value.bool y from M);exact PySem.W.kia_tup PySem.W.kitx_bool I.kIn True.intro ho e (λz=>nomatch z) h
 |int i=>obtain⟨t,q⟩:=(show ∃t,u=Value.int i t from M);cases q;exact PySem.W.kia_tup PySem.W.kitx_int I.kIn True.intro ho e (λz=>nomatch z) h
 |str y=>obtain⟨t,q⟩:=(show ∃t,u=Value.str y t from M);cases q;exact PySem.W.kia_tup PySem.W.kitx_str I.kIn True.intro ho e (λz=>nomatch z) h
 |ty n=>exact absurd rr (hd n)
 |dk h1 _ _=>
  cases M
  obtain⟨_,_,_,vs,_,o,es,c,a,e2,_⟩:=(show bf X.prog X.w H s.heap _ (.dK _ _)from I.hok _ _ h1);exact PySem.W.kia_tup PySem.W.kitx_dict I.kIn ⟨o,a,e2.1⟩ ho e (λz=>nomatch z) h
 |dt h1 _ _=>
  cases M
  obtain⟨_,_,xs,_,o,es,c,a,e2,_⟩:=(show bf X.prog X.w H s.heap _ (.dT _)from I.hok _ _ h1);exact PySem.W.kia_tup PySem.W.kitx_dict I.kIn ⟨o,a,e2.1⟩ ho e (λz=>nomatch z) h
 |tup O _=>
  cases M
  obtain⟨its,_,⟨o,h1,h2,_⟩,_⟩:=I.tuple O;exact PySem.W.kia_tup PySem.W.kitx_tuple I.kIn ⟨o,h1,h2⟩ ho e (λz=>nomatch z) h
 |lst hl _=>
  cases M
  obtain⟨its,_,⟨o,n,h1,h2,_⟩,_⟩:=I.list hl;exact PySem.W.kia_tup PySem.W.kitx_list I.kIn ⟨o,h1,h2⟩ ho e (λz=>nomatch z) h
def F3:b8 X (.builtin "isinstance") (A8 X.K CD):=by
 intro af s σ H xs us Q I rs q;refine e5 q λB ds d b M i e q=>?_;cases i with
 |nil=>cases e
 |@cons _ dx _ _ i1 i=>
  cases i with
  |nil=>cases e
  |cons i2 i=>
   cases i with
   |cons _ _=>cases e
   |nil=>
    cases i2<;>try (cases e)
    rename_i hs hl;cases hl with
    |nil=>cases e
    |cons a hl=>
     cases a<;>try (cases e)
     cases hl with
     |nil=>cases e
     |cons c hl=>
      cases c<;>try (cases e)
      cases hl with
      |cons _ _=>cases e
      |nil=>
       obtain⟨k,l,rfl,f,g⟩:=GO rs;change(if _ then _ else _)=_ at e;split at e
       .cases e
       .rename_i h;have hd:∀n,dx≠.ty n:=λn z=>by subst z;exact h rr
        split at e
        .rename_i hh;obtain⟨rfl,rfl⟩:=hh;cases e
         cases g
         refine I.tupE (aT M hs) λits j p _=>?_;obtain⟨m,o,rfl,O,U⟩:=j.two;cases O
         cases U
         exact Iz I (i1.mono M) hd f p (F0 X.K dx hd) λtk=>⟨.bl _,H,I.tok tk,rr,q.one M (.bl _)⟩
        .cases e
end
@[simp] noncomputable def jP:D->Option dB
 |.int i=>some (.inl i)
 |.str x=>some (.inr x)
 |_=>none
def pv {K:Frag}{B:Hp}{v:V}{d:D}{k:dB}(i:Is K B v d)(e:jP d=some k):v=kV k:=by
 cases i<;>simp [jP]at e<;>cases e<;>rfl
noncomputable def b9 {κ:Type}[DecidableEq κ]:List κ->LD->κ->Option D
 |k'::ks,d::ds,k=>if k'=k then some d else b9 ks ds k
 |_,_,_=>none
theorem ra {κ:Type}[DecidableEq κ]{K:Frag}{B:Hp}(k:κ):∀ {ks:List κ}{vs:LV}{ds:LD},ks.length=vs.length->IsL K B vs ds ->
  (∃v d,jD (ks.zip vs) k=some v/\b9 ks ds k=some d/\Is K B v d)\/(jD (ks.zip vs) k=none/\b9 ks ds k=none)
 |[],vs,ds,_,_=>.inr ⟨by cases vs<;>rfl,by cases ds<;>rfl⟩
 |k'::ks,[],_,h,_=>by simp at h
 |k'::ks,v::vs,_,h,.cons i is=>by
  rw[zip_cons_cons];unfold b9;by_cases e:k'=k
  .rw[if_pos e];exact .inl ⟨v,_,mv e,rr,i⟩
  .rw[if_neg e,mw e];exact ra k (by simpa using h) is
section
variable {X:Cx}{o e i:Expr}{pos:Pos}
@[simp] def Vh:D->D->OB
 |.dk ks vs,y=>(jP y).map λk=>((b9 ks vs k).getD .non,false)
 |_,_=>none
def IA {cn bS:Pos}{fo fe:FE}(hu:X.A.units+1<cLine)(ho:JE X o fo)(he:JE X e fe)(m:M1 X o "get" cn e bS):JE X (.Call (.Attribute o "get" cn) [e] [] bS) (f2 Vh fo fe):=by
 refine PE.to (yf hu ho he m) λσ H Q q=>?_;obtain⟨B,ρ,d,bb,c,r,M,q⟩:=q;refine eX M λx ex M=>?_;refine eX M λy f M=>?_;refine⟨B,ρ,x.1,x.2,c,r,ex,λv l N1 U i1 n=>?_⟩;obtain⟨xd,p⟩:=x;cases i1 with
 |@dk a ks vs ds ob h hl hs=>
  refine eR M λk hk M=>?_;cases M
  refine⟨a,rr,.inl ⟨_,_,.inl (U.nh _ _ h)⟩,N1,ρ,y.1,y.2,U.nh,r.mono U.bn,f,λs H2 N2 O i2 _=>?_⟩;have hv:=pv i2 hk;subst hv;refine⟨jD _ k,.inl ⟨_,k,_,.inl (O.nh _ _ (O.bn _ _ h)),rr,rr⟩,?_⟩;have g:=hs.mono O.bn;rcases ra k hl g with⟨v,d',b,e2,j⟩|⟨b,e2⟩
  .rw[b];rw[e2]at q;exact(q.into (U.trans O)).one O.nh j
  .rw[b];rw[e2]at q;exact(q.into (U.trans O)).one O.nh .non
 |_=>simp at M
@[simp] def SW:D->D->OB
 |.dk ks vs,y=>(jP y).bind λk=>(b9 ks vs k).map λd=>(d,false)
 |_,_=>none
def Rn {fo fi:FE}(hu:X.A.units+1<cLine)(ho:JE X o fo)(hi:JE X i fi)(hs:Qe i):JE X (.Subscript o i pos) (f2 SW fo fi):=by
 refine PE.to (LB hu ho hi hs) λσ H Q q=>?_;obtain⟨B,ρ,d,bb,c,r,M,q⟩:=q;refine eX M λx ex M=>?_;refine eX M λy f M=>?_;refine⟨B,ρ,x.1,x.2,c,r,ex,λv l N1 U i1 m=>?_⟩;obtain⟨xd,n⟩:=x;cases i1 with
 |@dk a ks vs ds ob h hl b=>
  refine eX M λk hk M=>?_;refine eR M λd0 hd M=>?_;cases M
  refine⟨N1,ρ,y.1,y.2,U.nh,r.mono U.bn,f,λp H2 N2 O i2 _=>?_⟩;have hv:=pv i2 hk;subst hv;rcases ra k hl (b.mono O.bn)with⟨v,d',g,e2,j⟩|⟨_,e2⟩
  .rw[hd]at e2;cases e2
   exact⟨a,v,rr,.inl ⟨_,k,_,.inl (O.nh _ _ (O.bn _ _ h)),rr,g.symm⟩,(q.into (U.trans O)).one O.nh j⟩
  simp_all
 |_=>simp at M
@[simp] def Zi:D->D->OB
 |y,.dk ks vs=>(jP y).map λk=>(.bl (b9 ks vs k).isSome,false)
 |_,_=>none
@[simp] def Bu:D->D->OB
 |y,.dk ks vs=>(jP y).map λk=>(.bl (!(b9 ks vs k).isSome),false)
 |_,_=>none
def u9 {κ:Type}[DecidableEq κ]{K:Frag}{B:Hp}{k:κ}{ks:List κ}{vs:LV}{ds:LD}(hl:ks.length=vs.length)(hs:IsL K B vs ds):(jD (ks.zip vs) k).isSome=(b9 ks ds k).isSome:=by
 grind[ra]
def F4 {fi fo:FE}(hu:X.A.units+1<cLine)(hi:JE X i fi)(ho:JE X o fo)(hm:behindInMarks .NotIn o=false):JT X (.Compare i [.NotIn] [o] pos) (bP (f2 Bu fi fo)):=by
 refine PT.to (Pw (EX hu hi ho) hm) λσ H Q q=>?_;obtain⟨B,ρ,d,bb,b,r,M,q⟩:=qH q;refine eX M λy c M=>?_;refine eX M λx ex M=>?_;refine⟨B,ρ,y.1,y.2,b,r,c,λf g N1 O i2 _=>⟨N1,ρ,x.1,x.2,O.nh,r.mono O.bn,ex,λv H2 N2 U i1 j=>?_⟩⟩;obtain⟨xd,l⟩:=x;cases i1 with
 |@dk a ks vs ds ob h hl hs=>
  refine eR M λk hk M=>?_;cases M
  have hv:=pv i2 hk;subst hv;refine⟨a,jD _ k,rr,.inl ⟨_,k,_,.inl (U.nh _ _ h),rr,rr⟩,?_⟩;rw[u9 hl hs];exact(q.into (O.trans U)).one U.nh (.bl _)
 |_=>simp at M
end
noncomputable def du {κ:Type}[DecidableEq κ](ks:List κ)(k:κ):List κ:=if k∈ks then ks else ks++[k]
noncomputable def cQ {κ α:Type}[DecidableEq κ](ks:List κ)(xs:List α)(k:κ)(x:α):List α:=if k∈ks then List.zipWith (λk' M=>if k'=k then x else M) ks xs else xs++[x]
theorem CF {κ:Type}[DecidableEq κ](k:κ):∀ {ks:List κ}{vs:LV},ks.length=vs.length->((ks.zip vs).any λkv=>decide (kv.1=k))=decide (k∈ks)
 |[],_,_=>by simp
 |k'::ks,[],h=>by simp at h
 |k'::ks,v::vs,h=>by
  have M:=CF k (by simpa using h);simp_all<;>lia
theorem CG {κ:Type}[DecidableEq κ](k:κ)(v:V):∀(ks:List κ)(vs:LV),(ks.zip vs).map (λkv=>if kv.1=k then (kv.1,v)else kv)=ks.zip (List.zipWith (λk' M=>if k'=k then v else M) ks vs)
 |[],_=>by simp
 |_::_,[]=>by simp
 |k'::ks,w::vs=>by
  rw[zip_cons_cons,uY,CG k v ks vs,List.zipWith_cons_cons,zip_cons_cons];lia
def qd {κ:Type}[DecidableEq κ]{ks:List κ}{vs:LV}(hl:ks.length=vs.length)(k:κ)(v:V):nO (ks.zip vs) k v=(du ks k).zip (cQ ks vs k v):=by
 unfold nO du cQ;rw[CF k hl];by_cases h:k∈ks
 .rw[if_pos (mi h),if_pos h,if_pos h,CG]
 simp_all[List.zip_append]
def mJ {κ α:Type}[DecidableEq κ]{ks:List κ}{xs:List α}(hl:ks.length=xs.length)(k:κ)(x:α):(du ks k).length=(cQ ks xs k x).length:=by
 unfold du cQ;split<;>simp[hl]
theorem IsL.zipWith {κ:Type}[DecidableEq κ]{K:Frag}{B:Hp}{k:κ}{v:V}{d:D}(i:Is K B v d):∀ {ks:List κ}{vs:LV}{ds:LD},IsL K B vs ds->IsL K B (List.zipWith (λk' M=>if k'=k then v else M) ks vs) (List.zipWith (λk' M=>if k'=k then d else M) ks ds)
 |[],_,_,_=>by simpa using IsL.nil
 |_::_,_,_,.nil=>by simpa using IsL.nil
 |k'::ks,_,_,.cons h t=>by
  rw[List.zipWith_cons_cons];refine .cons ?_ (IsL.zipWith i t);split<;>simp_all
def IsL.put {κ:Type}[DecidableEq κ]{K:Frag}{B:Hp}{k:κ}{v:V}{d:D}(i:Is K B v d){ks:List κ}{vs:LV}{ds:LD}(h:IsL K B vs ds):IsL K B (cQ ks vs k v) (cQ ks ds k d):=by
 unfold cQ;split
 .exact h.zipWith i
 .exact h.append (.cons i .nil)
section
variable {K:Frag}{E:Ends}{σ:St}{H:Hp}
noncomputable def IB (i:Nat):FS:=λρ=>some (.nx (ρ.set i (some (.dk [] [],true))))
noncomputable def IC (i:Nat):FS:=λρ=>some (.nx (ρ.set i (some (.dt [] [],true))))
def dc.newBox (s:dc K B0 H0 N H σ ρ)(i:Nat)(hp:H p=none)(hb:∀C,Bx K C ob dd):dc K B0 H0 (upd N p ob) (upd H p ob) (σ.set i (some (.ref p))) (ρ.set i (some (dd,true))):=by
 have x:=Ext.laid (o:=ob) s.ext.nh hp;have s1:=s.grow x;have M:=s.ext.nh.free hp;have O:¬own σ ρ p:=λz=>by obtain⟨ws,⟨q,_⟩,_⟩:=s.owned z;lia
 have c:aJ _ (dA (upd N p ob) (λb=>own σ ρ b\/b=p)):=dC λb u e q=>⟨x.bn _ _ e,λz=>z.elim q λz=>by subst z;rw[M]at e;cases e⟩;refine s1.bindOwn au (s.ext.hh.free hp) (λj e q z=>O ⟨j,e,q,z⟩) (λj e _ q=>?_) (λj e _ q=>?_) (hb _)
 .obtain⟨w,h1,h2⟩:=s.sh j e q;exact⟨w,h1,h2.mono c⟩
 .obtain⟨U,o',h1,h2,_,h4⟩:=s.ow j e q;exact⟨U,o',h1,x.bn _ _ h2,h4.mono c⟩
def ID (q:nJ K (IB i) E σ H):EI Hb (iB i) E σ H:=by
 obtain⟨B0,H0,ρ,r,⟨N,s⟩,e,p⟩:=q;cases e
 exact λa ob ha=>p _ _ ⟨_,s.newBox i ha λ_=>.dk (ks:=[]) rr .nil⟩
def IE (q:nJ K (IC i) E σ H):EI Hd (iB i) E σ H:=by
 obtain⟨B0,H0,ρ,r,⟨N,s⟩,e,p⟩:=q;cases e
 exact λa ha=>p _ _ ⟨_,s.newBox i ha λ_=>.dt (ks:=[]) rr .nil⟩
def yZ (i:Nat)(O U:FE):FS:=λρ=>match ρ[i]? with
 |some (some (.dk ks vs,true))=>(U ρ).bind λv=>(O ρ).bind λk=>(jP k.1).bind λM=>if aP v.1=true/\ks.length<sizeLine then some (.nx (ρ.set i (some (.dk (du ks M) (cQ ks vs M v.1),true))))else none
 |_=>none
def IF {i:Nat}{M O:FE}(q:nJ K (yZ i M O) E σ H):Ck (GC i) (tD K M) (tD K O) E σ H:=by
 obtain⟨B0,H0,ρ,r,⟨N,s⟩,e,p⟩:=q;unfold yZ at e;split at e
 .rename_i ks ds ei;refine eX e λv ev e=>?_;refine eX e λk ek e=>?_;refine eX e λb hk e=>?_;split at e
  .rename_i hx;cases e
   refine⟨N,ρ,v.1,v.2,s.ext.nh,s.rep,ev,λf g N1 c i1 _=>?_⟩;have s1:=s.grow c;obtain⟨a,o,h1,h2,h3,h4⟩:=s1.ow i _ ei;refine⟨.ref a,h1,N1,ρ,k.1,k.2,s1.ext.nh,s1.rep,ek,λh H2 N2 U i2 _=>?_⟩;have s2:=s1.grow U;have hv:=pv i2 hk;subst hv;obtain⟨j,o',k1,k2,k3,k4⟩:=s2.ow i _ ei;rw[h1]at k1;cases k1
   cases k4 with
   |@dk ks vs ds hl h5 ob=>
    refine⟨a,rr,.inl ⟨_,b,_,s2.ext.nh _ _ k2,rr,?_,λd=>?_⟩⟩
    .rw[length_zip];lia
    .rw[qd hl];exact p σ _ ⟨_,s2.writeB ei h1 (.dk (mJ hl _ _) (h5.put (s2.flat (i1.mono U.bn) hx.1)))⟩
  .cases e
 simp_all
end
section
variable {X:Cx}{pos:Pos}{e k:Expr}
def MD (M:X.N.Nodup)(hi:X.N[i]? = some x)(hx:KR X.env.scope x)(hs:swapsWith (.Dict [] [] dp) (some (.Name x p)) pos.line X.env=pure false)
  (hf:X.fn x=true\/X.env.scope.names.lookup x=some .local):JS X (.Assign [.Name x p] (.Dict [] [] dp) pos) (IB i):=PS.to (wn M hi hx He hs hf) λ_ _ _ q=>ID q
def ME (M:X.N.Nodup)(hi:X.N[i]? = some x)(hx:KR X.env.scope x)(hs:swapsWith (.Dict [] [] dp) (some (.Name x p)) pos.line X.env=pure false)
  (hf:X.fn x=true\/X.env.scope.names.lookup x=some .local):JS X (.Assign [.Name x p] (.Dict [] [] dp) pos) (IC i):=PS.to (wn M hi hx Hf hs hf) λ_ _ _ q=>IE q
def MF (hu:X.A.units+1<cLine)(hv:JE X e fv)(hk:JE X k fk)(U:X.N[i]? = some y)(M:KQ X.env.scope y)(hd:bj y)
  (O:ln y) (hs:swapsWith e (some (.Subscript (.Name y py) k pt)) pos.line X.env=pure false):JS X (.Assign [.Subscript (.Name y py) k pt] e pos) (yZ i fk fv):=
 PS.to (w6 hu (j9 U M hd O) hk hv hs) λ_ _ _ q=>IF q
end
section
variable {prog:Program}{w:World}{A:Around}{E:QV}{s:Shared}
abbrev om (h:Heap)(z TI TO M:Addr)(f:Bool):Prop:=h.get? z=some { cls:=.type "zip",dict:=none,data:=.fields #[rawInt M,.bool f,.bool false,.ref TI,.ref TO],slots:=#[] }
def IG (e:s.heap.get? a=some o)(h:Q (some o) s):wpAny (model prog w) A (loadIfAlive a) Q E s:=by
 intro O p M;simp_all[loadIfAlive]
def uA {z TI TO M:Addr}{f:Bool}{U:Obj}{Q:Bool->Shared->Prop}(hz:om s.heap z TI TO M f)(a:s.heap.get? M=some U)
  (q:∀h',om h' z TI TO M true->Heap.SameBut z s.heap h'->Q false { s with heap:=h' }):wpAny (model prog w) A (Builtin.SmallTypes.ownedTupleIsFree (.ref z)) Q E s:=by
 refine wX (wpAny_field hz rr rr ?_);show wpAny _ _ (loadIfAlive _>>=_) _ _ _;refine wX (IG a ?_);refine wX (wpAny_field hz rr rr ?_);cases f with
 |true=>
  exact wY (q _ hz (.refl _ _))
 |false=>
  refine wX (wpAny_setField_rec hz X9 λh' O s'=>wY (q h' O s'))
end
section
variable {prog:Program}{w:World}{A:Around}{E:QV}{s:Shared}
def F5 {k1 k2:Bool}{z TI TO a i1 i2 l1 l2:Addr}{f:Bool}{m:Obj}{j:Nat}{xs ys:AV}{x y:Value}{Q:QV}(Z:ZA z TI TO i1 i2 l1 l2)
  (hz:om s.heap z TI TO a f) (n:s.heap.get? a=some m) (k:IsPair s.heap TI (.ref i1) (.ref i2)) (p:j7 k1 s.heap i1 l1 j) (r:j7 k2 s.heap i2 l2 j) (t:jJ k1 s.heap l1 xs) (q2:jJ k2 s.heap l2 ys) (hx:xs[j]? = some x) (hy:ys[j]? = some y)
  (q:∀h',om h' z TI TO a true->j7 k1 h' i1 l1 (j+1)->j7 k2 h' i2 l2 (j+1)->IsPair h' s.z x y ->
   IsPair h' TI (.ref i1) (.ref i2)->(∀o,s.heap.get? TO=some o->h'.get? TO=some o)->(∀c o,c∉[z,TI,TO,i1,i2]->s.heap.get? c=some o->h'.get? c=some o)->Q (.ref s.z) { s with heap:=h' }):
  wpAny (model prog w) A (Builtin.«zip.__next__» ⟨[.ref z],[]⟩) (λdQ s'=>∃v,dQ=.done (.ret v)/\Q v s') E s:=by
 obtain⟨D,m1,m2⟩:=Z;show wpAny _ _ (field (.ref z) 2>>=_) _ _ s;refine wX (wpAny_field hz rr (x:=.bool false) rr ?_);refine wX (wpAny_field hz rr (x:=.ref TI) rr (wX (wpAny_seqItems k rr ?_)));refine wX (uA hz n λg1 b s1=>?_);simp only[uV,if_false];refine wX ?_;refine wX (wX (wpAny_holding ?_));refine wX (eV (s:={ s with heap:=g1 }) (p.upon λo e=>s1.extBut _ _ D.az e) (t.upon λo e=>s1.extBut _ _ m1.1 e) hx λl d s2=>wY ?_);refine wY (wX (wX (wpAny_holding ?_)));have M:∀ {c o},c≠z->c≠i1->s.heap.get? c=some o->l.get? c=some o:=λg c3 e=>s2.extBut _ _ c3 (s1.extBut _ _ g e);refine wX (eV (s:={ s with heap:=l }) (r.upon λo e=>M D.bz D.ab.symm e) (q2.upon λo e=>M m2.1 m2.2.2.1 e) hy λh i U=>wY ?_);refine wY (wY ?_);refine wX (wpAny_newTuple (hsz:=(by decide:2<=sizeLine)) ?_);have sz:h.objs.size=s.z:=by rw[U.1,s2.1,s1.1]
 have O:∀c o,c≠z->c≠i1->c≠i2->s.heap.get? c=some o->h.get? c=some o:=λc o g c3 u e=>U.extBut _ _ u (M g c3 e);refine wY ⟨_,rr,?_⟩;have hp:IsPair _ h.objs.size x y:=vY _ rr;rw[sz]at hp |-;exact q _ (vZ _ (U.extBut _ _ D.bz.symm (s2.extBut _ _ D.az.symm b))) (d.upon λo e=>vZ _ (U.extBut _ _ D.ab e)) (i.upon λo e=>vZ _ e) hp (vZ _ (O _ _ D.tz D.ta D.tb k)) (λo e=>vZ _ (O _ _ D.oz D.oa D.ob e)) λc o hc e=>by
  simp at hc;exact vZ _ (O c o hc.1 hc.2.2.2.1 hc.2.2.2.2 e)
def IH {k1 k2:Bool}{z TI TO U i1 i2 l1 l2:Addr}{f:Bool}{g:Obj}{j:Nat}{xs ys:AV}{Q:PySem.Fin->Shared->Prop}(a:A.handled=none)(Z:ZA z TI TO i1 i2 l1 l2)
  (hz:om s.heap z TI TO U f) (h:s.heap.get? U=some g) (i:IsPair s.heap TI (.ref i1) (.ref i2)) (b:j7 k1 s.heap i1 l1 j) (k:j7 k2 s.heap i2 l2 j) (d:jJ k1 s.heap l1 xs) (q2:jJ k2 s.heap l2 ys) (he:xs[j]? = none\/ys[j]? = none)
  (q:∀h' x,(∀c o,c∉[z,TI,TO,i1,i2]->s.heap.get? c=some o->h'.get? c=some o)->(∃o,h'.get? x=some o/\o.cls=.type "StopIteration")->E (.ref x) { s with heap:=h' }):
  wpAny (model prog w) A (Builtin.«zip.__next__» ⟨[.ref z],[]⟩) Q E s:=by
 obtain⟨D,m1,m2⟩:=Z;show wpAny _ _ (field (.ref z) 2>>=_) _ _ s;refine wX (wpAny_field hz rr (x:=.bool false) rr ?_);refine wX (wpAny_field hz rr (x:=.ref TI) rr (wX (wpAny_seqItems i rr ?_)));refine wX (uA hz h λg1 l s1=>?_);refine wX ?_;refine wX (wX (wpAny_holding ?_));cases hx:xs[j]? with
 |none=>
  exact wX (iI (s:={ s with heap:=g1 }) a (b.upon λo e=>s1.extBut _ _ D.az e) (d.upon λo e=>s1.extBut _ _ m1.1 e) hx λO x s2 hX=>q O x (λc o hc e=>by simp at hc;exact s2 _ _ hc.2.2.2.1 (s1.extBut _ _ hc.1 e)) hX)
 |some v=>
  have hy:ys[j]? = none:=by
   lia
  refine wX (eV (s:={ s with heap:=g1 }) (b.upon λo e=>s1.extBut _ _ D.az e) (d.upon λo e=>s1.extBut _ _ m1.1 e) hx λO m s2=>wY ?_);refine wY (wX (wX (wpAny_holding ?_)));have M:∀ {c o},c≠z->c≠i1->s.heap.get? c=some o->O.get? c=some o:=λn c3 e=>s2.extBut _ _ c3 (s1.extBut _ _ n e);exact wX (iI (s:={ s with heap:=O }) a (k.upon λo e=>M D.bz D.ab.symm e) (q2.upon λo e=>M m2.1 m2.2.2.1 e) hy λp x r hX=>q p x (λc o hc e=>by simp at hc;exact r _ _ hc.2.2.2.2 (M hc.1 hc.2.2.2.1 e)) hX)
end
def II (k1 k2:Bool)(z TI TO i1 i2 l1 l2 S:Addr)(i:Nat)(h:Heap):Prop:=
 IsPair h TI (.ref i1) (.ref i2)/\j7 k1 h i1 l1 i/\j7 k2 h i2 l2 i/\((IsZip h z TI TO .none/\∃a b,IsPair h TO a b)\/∃M f O U,om h z TI TO M f/\h.get? M=some O/\M∉[z,TI,TO,i1,i2]/\M≠S/\h.get? TO=some U)
def II.keep {k1 k2:Bool}{z TI TO i1 i2 l1 l2 S:Addr}{i:Nat}{h h':Heap}(st:II k1 k2 z TI TO i1 i2 l1 l2 S i h)(hS:S∉[z,TI,TO,i1,i2])(k:∀b o,b≠S->h.get? b=some o->h'.get? b=some o):II k1 k2 z TI TO i1 i2 l1 l2 S i h':=by
 obtain⟨M,O,U,c⟩:=st;have n:∀ {b},b∈[z,TI,TO,i1,i2]->b≠S:=λhb e=>hS (e ▸ hb);refine⟨k _ _ (n X9) M,O.upon λo e=>k _ o (n X9) e,U.upon λo e=>k _ o (n X9) e,?_⟩;rcases c with⟨b1,a,b,b2⟩|⟨d,f,g,j,b1,b2,b3,b4,l⟩
 .exact .inl ⟨k _ _ (n X9) b1,a,b,k _ _ (n X9) b2⟩
 .exact .inr ⟨d,f,g,j,k _ _ (n X9) b1,k _ _ b4 b2,b3,b4,k _ _ (n X9) l⟩
section
variable {prog:Program}{w:World}{A:Around}{E:QV}{s:Shared}{k1 k2:Bool}{z TI TO i1 i2 l1 l2 S:Addr}{j:Nat}{xs ys:AV}
def II.ty (st:II k1 k2 z TI TO i1 i2 l1 l2 S j h):∃o,h.get? z=some o/\o.cls=.type "zip":=by
 obtain⟨_,_,_,M⟩:=st;rcases M with⟨b1,_⟩|⟨O,f,U,a,b1,_⟩
 .exact⟨_,b1,rr⟩
 .exact⟨_,b1,rr⟩
def IJ (Z:ZA z TI TO i1 i2 l1 l2)(hS:S<s.z)(st:II k1 k2 z TI TO i1 i2 l1 l2 S j s.heap)(i:jJ k1 s.heap l1 xs)(q2:jJ k2 s.heap l2 ys)(hx:xs[j]? = some x)(hy:ys[j]? = some y)
  (q:∀h',II k1 k2 z TI TO i1 i2 l1 l2 S (j+1) h'->IsPair h' s.z x y->(∀c o,c∉[z,TI,TO,i1,i2]->s.heap.get? c=some o->h'.get? c=some o)->Q (some (.ref s.z)) { s with heap:=h' }):
  wpAny (model prog w) A (pyNext (.ref z)) Q E s:=by
 have M:=st.ty;obtain⟨k,U,d,l⟩:=st;have lt:∀ {c o},s.heap.get? c=some o->s.z≠c:=λe=>ne_of_gt (vX e);obtain⟨u,v,_⟩:=U.ob;obtain⟨B,e2,_⟩:=d.ob;rcases l with⟨hz,a,b,g⟩|⟨m,f,n,p,hz,h0,n0,r,g⟩
 .refine wX (wpAny_attempt (wpAny_callSpecial?_slot M slot_zip_next (wpAny_call_entry slot_zip_next M entry_zip_next (y0 Z hz k g U d i q2 hx hy λh' b1 b2 b3 b4 O C h bk=>wY ?_) (args_zip_next_1 _))));refine q h' ⟨h,b3,b4,.inr ⟨_,false,_,_,b1,O,?_,ne_of_gt hS,b2⟩⟩ O bk;simp_all
 .refine wX (wpAny_attempt (wpAny_callSpecial?_slot M slot_zip_next (wpAny_call_entry slot_zip_next M entry_zip_next (F5 Z hz h0 k U d i q2 hx hy λh' b1 b3 b4 O h t bk=>wY ?_) (args_zip_next_1 _))));exact q h' ⟨h,b3,b4,.inr ⟨m,true,n,p,b1,bk _ _ n0 h0,n0,r,t _ g⟩⟩ O bk
def IK (U:A.handled=none)(Z:ZA z TI TO i1 i2 l1 l2)(st:II k1 k2 z TI TO i1 i2 l1 l2 S j s.heap)(d:jJ k1 s.heap l1 xs)(q2:jJ k2 s.heap l2 ys)(he:xs[j]? = none\/ys[j]? = none)
  (q:∀h',(∀c o,c∉[z,TI,TO,i1,i2]->s.heap.get? c=some o->h'.get? c=some o)->Q none { s with heap:=h' }):wpAny (model prog w) A (pyNext (.ref z)) Q E s:=by
 have M:=st.ty;obtain⟨e,g,h,k⟩:=st;unfold pyNext;rcases k with⟨hz,a,b,i⟩|⟨l,f,m,n,hz,h0,n0,p,i⟩
 .refine wX (wpAny_attempt (wpAny_callSpecial?_slot M slot_zip_next (wpAny_call_entry slot_zip_next M entry_zip_next (Cz U Z hz e i g h d q2 he λh' x hk hX=>?_) (args_zip_next_1 _))));obtain⟨o,O,co⟩:=hX;exact wX (wpAny_isInstance (b:=true) ⟨o,O,co⟩ isSubtype_stop (wY (q h' hk)))
 .refine wX (wpAny_attempt (wpAny_callSpecial?_slot M slot_zip_next (wpAny_call_entry slot_zip_next M entry_zip_next (IH U Z hz h0 e g h d q2 he λh' x hk hX=>?_) (args_zip_next_1 _))));obtain⟨o,O,co⟩:=hX;exact wX (wpAny_isInstance (b:=true) ⟨o,O,co⟩ isSubtype_stop (wY (q h' hk)))
end
def IL (h:a≠b):upd (upd H a o) b u=upd (upd H b u) a o:=by
 funext c;unfold upd;lia
def jQ (h:H a=none):aJ H (upd H a o):=λb u e=>by rw[a8 (aO e h)];exact e
def F6 (h:(gU ds es)[i]? = some d):(gU ds es).take (i+1)=(gU ds es).take i++[d]:=by
 rw[take_add_one,h];rfl
def Bv:typeLookup (.type "zip") "__len__" = pure none:=I9
def za:typeLookup (.type "zip") "__length_hint__" = pure none:=I9
section
variable {X:Cx}{af:AO}{σ:St}{B H0:Hp}{A:Around}{R:Result->Shared->Prop}{k1 k2:Bool}{z TI TO i1 i2 l1 l2 S:Addr}{us ws:LV}{ds es:LD}
def F7 (Q:A.handled=none)(Z:ZA z TI TO i1 i2 l1 l2)(hS:S∉[z,TI,TO,i1,i2])(h1:lh k1 X.K B l1 us)(t:IsL X.K B us ds)(h2:lh k2 X.K B l2 ws)(C:IsL X.K B ws es)
  (hR:∀M N vs s',Inv X af σ (upd M S (.lst vs)) s'->M S=none->Ext B N H0 M->IsL X.K N vs (gU ds es)->R (.ok (.ret .none)) s'):
  ∀(k i:Nat)(s:Shared)(M N:Hp)(vs:LV),(gU ds es).length - i=k->i<=(gU ds es).length->Inv X af σ (upd M S (.lst vs)) s->M S=none->Ext B N H0 M->(∀b∈[z,TI,TO,i1,i2],lf X af (upd M S (.lst vs)) b) ->
   II k1 k2 z TI TO i1 i2 l1 l2 S i s.heap->IsL X.K N vs ((gU ds es).take i) ->
   codeAny (model X.prog X.w) A (.builtin "list.extend.loop" ⟨[.ref S,.ref z,.none],[]⟩) R s:=by
 have n1:=t.length;have n2:=C.length;have nz:(gU ds es).length=min ds.length es.length:=by simp_all[gU]
 intro k;induction k with
 |zero=>
  intro i s M N vs hk hi I hc O fp st h;have Lf:i=(gU ds es).length:=N9
  have a:aJ B (upd M S (.lst vs)):=(O.bn.trans O.nh).trans (jQ hc);obtain⟨its,j,l,D⟩:=(h1.same a).vals I;obtain⟨T,m,p2,W⟩:=(h2.same a).vals I;have Y:=j.length;have e2:=m.length;refine codeAny_builtin PySem.F.entry_extend_loop ?_;rw[Around.under_plainId plain_extend_loop _];show wpAny _ A.in1 (pyNext (.ref z)>>=_) _ _ s;refine wX (IK (A:=A.in1) Q Z st l p2 ?_ λh' U=>?_)
  .by_cases q:ds.length<=es.length
   .left;simp;lia
   .right;simp;lia
  .refine wY (hR M N vs _ (kI (t':=s.toks) I fp U) hc O ?_);grind
 |succ k ih=>
  intro i s M N vs hk hi I hc O fp st h;have lF:i<(gU ds es).length:=N9
  have a:aJ B (upd M S (.lst vs)):=(O.bn.trans O.nh).trans (jQ hc);obtain⟨its,j,l,D⟩:=(h1.same a).vals I;obtain⟨T,m,p2,W⟩:=(h2.same a).vals I;have d1:i<ds.length:=N9
  have d2:i<es.length:=N9
  obtain⟨x,hx,ix⟩:=t.get (vU d1);obtain⟨y,hy,iy⟩:=C.get (vU d2);obtain⟨u,hu,ru⟩:=j.get hx;obtain⟨v,hv,rv⟩:=m.get hy;have el:(gU ds es)[i]? = some (.tup [ds[i],es[i]]):=by
   simp_all[gU]
  obtain⟨zl,KE,c,n,ev0,E⟩:=I.lstM au;have G:S<s.z:=vX E;refine codeAny_builtin PySem.F.entry_extend_loop ?_;show wpAny _ A.in1 (pyNext (.ref z)>>=_) _ _ s;refine wX (IJ (A:=A.in1) Z G st l p2 (by simpa using hu) (by simpa using hv) λh' G9 hp U=>?_);have H:upd M S (.lst vs) s.z=none:=I.hok.fresh (vT _);have p:s.z≠S:=ne_of_gt G;have d:M s.z=none:=by rw[a8 p]at H;exact H
  have new:bf X.prog X.w (upd (upd M S (.lst vs)) s.z (.tup [x,y])) h' s.z (.tup [x,y]):=⟨by show 2<=sizeLine;decide,[u,v],.cons ru (.cons rv .nil),⟨_,hp,rr,_,rr⟩⟩;have J:=C0 (s:=s) (t':=s.toks) I fp U (vT _) new;rw[IL p.symm]at J;have g:=U S _ hS E;have r:Ext B (upd N s.z (.tup [x,y])) H0 (upd M s.z (.tup [x,y])):=O.trans (Ext.laid O.nh d);have vl:vs.length=i:=by rw[h.length,length_take];lia
  have zs:=zl;refine wX ?_;have lz:(vs++[V.ref s.z]).length<=sizeLine:=by
   rw[uZ,vl];have a1:=D;show i+1<=sizeLine;lia
  have L:=J.lset (t':=s.toks) (ys:=vs++[.ref s.z]) (its':=KE++[.ref s.z]) (f:=(·.push (Value.ref s.z))) au g X9 (n.append (.cons (show aC (.ref _) (.ref _)from rr) .nil)) lz;rw[mn]at L;refine wpAny_updateSeq g rr (wY ⟨plainId_quiet plain_extend_loop _,ih (i+1) _ _ _ (vs++[.ref s.z]) N9 lF L (by rw[a8 p.symm];exact hc) r (λb hb=>?_) (G9.keep hS λb o hb e=>(Heap.get?_update_other _ _ (Ne.symm hb)).trans e) ?_⟩) s9 s9
  .obtain⟨P,f1,f2,f3,f4,f5⟩:=fp b hb;refine⟨?_,f1,f2,f3,f4,f5⟩;have nb:b≠S:=λe=>hS (e ▸ hb);rw[a8 nb]at P |-;have nT:b≠s.z:=by
    obtain⟨hI,t1,t2,a4⟩:=st;obtain⟨o1,Y,_⟩:=t1.ob;obtain⟨o2,e2,_⟩:=t2.ob;have lt:∀ {c o},s.heap.get? c=some o->c≠s.z:=λe=>vS (vX e);grind
   rw[a8 nT];exact P
  .rw[F6 el];exact(h.mono (Ext.laid O.nh d).bn).append (.cons (.tup (gR.of au) (.cons (ix.mono r.bn) (.cons (iy.mono r.bn) .nil))) .nil)
end
section
variable {X:Cx}{af:AO}{σ:St}{B H:Hp}{s:Shared}{k1 k2:Bool}{z TI TO i1 i2 l1 l2:Addr}{us ws:LV}{ds es:LD}
def tP (C:X.A.handled=none)(I:Inv X af σ H s)(Z:ZA z TI TO i1 i2 l1 l2)(fp:∀b∈[z,TI,TO,i1,i2],lf X af H b)
  (D:IsPair s.heap TI (.ref i1) (.ref i2)) (r:j7 k1 s.heap i1 l1 0) (t:j7 k2 s.heap i2 l2 0) (hz:IsZip s.heap z TI TO .none) (E:IsPair s.heap TO a b)
  (G:aJ B H) (h1:lh k1 X.K B l1 us) (J:IsL X.K B us ds) (h2:lh k2 X.K B l2 ws) (L:IsL X.K B ws es)
  (q:∀(S:Addr)(d N:Hp)(vs:LV),d S=none->Ext B N H d->IsL X.K N vs (gU ds es)->Q (.ref S) (upd d S (.lst vs))):
  wq X (call (.type "list") [.ref z]) (EP X af σ Q) X.xe s:=by
 have lt:∀ {c o},s.heap.get? c=some o->s.z≠c:=λe=>ne_of_gt (vX e);have M:s.z∉[z,TI,TO,i1,i2]:=by
  obtain⟨o1,e1,_⟩:=r.ob;obtain⟨o2,e2,_⟩:=t.ob;simp_all
 have u:s.z≠z:=lt hz;have j:II k1 k2 z TI TO i1 i2 l1 l2 s.z 0 s.heap:=⟨D,r,t,.inl ⟨hz,a,b,E⟩⟩;have hc:H s.z=none:=I.fresh;refine callType_codes (Q₁:=λobj U=>obj=.ref s.z/\U={ s with heap:=s.heap.push { cls:=.type "list",data:=.seq #[] } }) called_list (PySem.F.typeCall_list_1 _) PySem.F.entry_list_init
  (code_list_new _ ⟨rr,rr⟩) λobj U g=>?_
 obtain⟨rfl,rfl⟩:=g;have hS:(s.heap.push { cls:=.type "list",data:=.seq #[] }).get? s.z=some _:=vY _ rr;have P:=I.lnew (t':=s.toks) (its:=[]) .nil (uN _);have k:II k1 k2 z TI TO i1 i2 l1 l2 s.z 0 (s.heap.push { cls:=.type "list",data:=.seq #[] }):=j.keep M λb o _ e=>vZ _ e;refine⟨⟨_,hS,rr⟩,PySem.F.args_list_init_2 _ _,?_⟩;refine wX ?_;unfold Builtin.List.listItems;refine wX (wpAny_seqItems hS rr (wY ?_));refine wX (wpAny_updateSeq hS rr ?_);have h:=P.lset (t':=s.toks) (ys:=[]) (its':=[]) (f:=λ_=>#[]) au hS rr .nil (uN _);have O:=k.keep (h':=(s.heap.push { cls:=.type "list",data:=.seq #[] }).update s.z (Obj.mapSeq λ_=>(#[]:AV))) M λb o hb e=>(Heap.get?_update_other _ _ (Ne.symm hb)).trans e;rw[mn]at h;generalize l:(s.heap.push { cls:=.type "list",data:=.seq #[] }).update s.z (Obj.mapSeq λ_=>(#[]:AV))=g2 at h O |-;obtain⟨_,R,c2,V,_,v⟩:=h.lstM au;have e2:=V.zero;subst e2;refine wX (wpAny_letGo ?_);unfold Builtin.List.listExtendWith;refine wX (wpAny_typeOf (T:="zip") O.ty ?_);have m:Builtin.List.listSameRef (.ref s.z) (.ref z)=false:=by simp[Builtin.List.listSameRef,u]
 have W:(Value.type "zip" == Value.type "list")=false:=H9
 have Y:(Value.type "zip" == Value.type "tuple")=false:=H9
 simp only[m,W,Y,Bool.or_false,uV,if_false];have n:IsZip g2 z TI TO .none:=by
  rw[<-l];exact(Heap.get?_update_other _ _ u).trans (vZ _ hz)
 refine wX (wpAny_pyIter_zip n ?_);refine wX (wpAny_holding ?_);unfold Builtin.List.listLengthHint;refine wX (wpAny_specialOf (T:="zip") O.ty Bv ?_);refine wX (wpAny_specialOf (T:="zip") O.ty za ?_);refine wY ?_;refine wX (wpAny_rule ?_);refine wX ?_;refine wX (wpAny_updateSeq v rr ?_);have i:=h.lset (t':=s.toks) (ys:=[.non]) (its':=[.none]) (f:=(·.push .none)) au v rr (.cons (show aC .non .none from rr) .nil) (by show 1<=sizeLine;decide);have w:=O.keep (h':=g2.update s.z (Obj.mapSeq (·.push .none))) M λb o hb e=>(Heap.get?_update_other _ _ (Ne.symm hb)).trans e;rw[mn]at i;generalize hg3:g2.update s.z (Obj.mapSeq (·.push .none))=g3 at i w |-;obtain⟨_,aef,c3,v3,_,x⟩:=i.lstM au;obtain⟨n3,rfl,r3⟩:=v3.one;cases r3
 refine wpAny_updateSeq (hz:=by simp<;>decide) x rr ?_
 have y:=i.lset (t':=s.toks) (ys:=[]) (its':=[]) (f:=(·.pop)) au x rr .nil (uN _);have p:=w.keep (h':=g3.update s.z (Obj.mapSeq (·.pop))) M λb o hb e=>(Heap.get?_update_other _ _ (Ne.symm hb)).trans e;rw[mn]at y;refine wY ⟨plainId_quiet plain_extend_loop _,F7 (A:=X.A.in1) (B:=B) (H0:=H) C Z M h1 J h2 L (λd N vs s' I' Ol xt il=>?_) _ 0 _ H B [] rr (uN _) y hc (Ext.refl G) (λb hb=>?_) p .nil⟩
 .exact⟨rr,.ref s.z,_,I',rr,q _ d N vs Ol xt il⟩
 .obtain⟨f0,f1⟩:=fp b hb;refine⟨?_,f1⟩;grind[a8]
end
@[simp] def fLZ (fa M:FE):FE:=λρ=>(Fi fa M ρ).map λds=>(.lst ds,true)
section
variable {X:Cx}{a b:Expr}{pos p pos2 p2:Pos}
def Bw (w:X.calm=true)(hl:X.mg "list" = none)(hm:X.mg "zip" = none)(ha:JE X a fa)(hb:JE X b fb)(g:Gl X "list")(x:Gl X "zip")
  (hs:starEach [a,b] X.env=[(false,eval a X.env),(false,eval b X.env)]) (O:cM b X.env)
  (n:starEach [.Call (.Name "zip" p2) [a,b] [] pos2] X.env=[(false,eval (.Call (.Name "zip" p2) [a,b] [] pos2) X.env)]):
  JE X (.Call (.Name "list" p) [.Call (.Name "zip" p2) [a,b] [] pos2] [] pos) (fLZ fa fb):=by
 intro af s σ H Q I q;obtain⟨B,ρ,d,bb,y,r,M,dQ⟩:=q;refine eR M λzs e e2=>?_;cases e2
 clear M;have M:=e;clear e;refine eX M λt ex M=>?_;refine eX M λu A M=>?_;refine eX M λxs h M=>?_;refine eR M λys i M=>?_;subst M;refine wpAny_Call_Name_kw (fE I g hl wJ ?_ H9 H9);refine PyProof.Rows.callWith_type1 ?_ (by rw[n];rfl) rr;rw[n];refine Calls.spliced_cons ?_;refine wpAny_Call_Name_kw (fE I x hm O8 ?_ H9 H9);refine PyProof.Rows.callWith_type1 (bJ (fM ha (fM hb lH O) (by rw[dv,hs,O]) pos2 af s σ H (λvs j=>∃N1,Ext B N1 H j/\IsL X.K N1 vs [t.1,u.1]) I ⟨B,ρ,[t.1,u.1],y,r,by simp[ak,ay,ex,A],λvs j N1 c i1=>⟨N1,c,i1⟩⟩) λus s1 ⟨vs,j,v,C,N1,c,D⟩=>?_) (by rw[hs,O]) (by rw[O];rfl);cases D with
 |cons E k=>
  cases k with
  |cons k F=>
   cases F
   obtain⟨k1,l1,G,rfl,h1,m1⟩:=y6 E h;obtain⟨k2,l2,L,rfl,h2,m2⟩:=y6 k i;obtain⟨Y,u2,rfl,P,l⟩:=C.two;cases P
   cases l
   refine y4 v (h1.same c.nh) (h2.same c.nh) λh' z TI TO i1 i2 J Z R c2 c3 T V fp=>Calls.spliced_nil (tP (B:=N1) (v.ok.hd w) J Z fp c2 T V R c3 c.nh h1 m1 h2 m2 λS Hc N vs hS U m=>?_);have W:=(c.trans U).trans (Ext.laid (o:=.lst vs) U.nh hS);have f:=m.mono (Ext.laid (o:=.lst vs) U.nh hS).bn;exact dQ _ _ _ W (.lst (eO.of au) f) λ_=>⟨_,_,_,rr,rr,(c.trans U).hh.free hS,au,f⟩
end
end DL
namespace DL
open PySem PySem.Spec PyProof.Rows
def xa:typeLookup (.type "list") "keys" = pure none:=I9
def F8
  (hx:s.heap.get? a=some { cls:=.type "list",dict:=none,data:=.seq xs k,slots:=sl }) (U:A.handled=none)
  (h:∀h' tk,(∀b o,s.heap.get? b=some o->h'.get? b=some o)->Q none { s with heap:=h',toks:=tk }):
  wpAny (model prog w) A (getAttr? (.ref a) "keys") Q E s:=by
 obtain⟨hp,g,d,tk,os⟩:=s;have O:∀M,(⟨hp,g,d,M,os⟩:Shared).TypeIs (.ref a) "list":=λ_=>⟨_,hx,rr⟩;have f1:=sub_AttributeError;have c:=slot_list_getattribute.lookup;have f:=slot_list_getattribute.bind (.ref a);have i:=am_list_getattr_none;unfold getAttr? getAttrBy? getAttrBy;repeat (any_goals (first|assumption|exact O _|((with_reducible show wpAny _ _ (call (Value.builtin "list.__getattribute__") _ _) _ _ _);refine call_meets slot_list_getattribute (O _) am_entry_list_getattribute (PySem.F.args_list_getattribute_2 _ _) (meets_getattribute_miss_list a xs k sl "keys" _ xa H9 H9) ⟨hx,U,λh' M e hx'=>?_⟩)|wp_step))
 obtain⟨t',u',he⟩:=hx'.there;show wpAny _ _ (getattributeRaised _ _ _ _ _ _ _) _ _ _;unfold getattributeRaised;repeat (any_goals (first|assumption|wp_step))
 exact h _ _ hx'.of.keeps
end DL
namespace DL
open PySem PySem.Spec PyProof.Rows L2
def gn:LD->Option (List (dB×D))
 |[]=>some []
 |.tup [k,v]::r=>(jP k).bind λM=>(gn r).map λl=>(M,v)::l
 |_=>none
noncomputable def rb (a:LK×LD)(p:dB×D):LK×LD:=(du a.1 p.1,cQ a.1 a.2 p.1 p.2)
noncomputable def bG (l:List (dB×D)):LK×LD:=l.foldl rb ([],[])
def rd (l:List (dB×D))(p:dB×D):bG (l++[p])=rb (bG l) p:=by simp_all[bG]
def xy1 {d:D}{r:LD}{l:List (dB×D)}(h:gn (d::r)=some l):∃k v,d=.tup [k,v]:=by
 cases d with
 |tup ds=>rcases ds with _|⟨a,_|⟨b,_|⟨c,ds⟩⟩⟩<;>first|exact⟨_,_,rfl⟩|cases h
 |_=>cases h
theorem re:∀ {ds:LD}{l:List (dB×D)},gn ds=some l->l.length=ds.length
 |[],l,h=>by cases h;rfl
 |d::r,l,h=>by
  obtain⟨k,v,rfl⟩:=xy1 h;refine eX h λO _ h=>?_;obtain⟨U,h1,rfl⟩:=oY h;simp[re h1]
theorem rf:∀ {ds:LD}{l:List (dB×D)}{i:Nat}{d:D},gn ds=some l->ds[i]? = some d->∃k v M,d=.tup [k,v]/\jP k=some M/\l[i]? = some (M,v)
 |[],l,i,d,_,h=>by simp at h
 |d0::r,l,i,d,h,hi=>by
  obtain⟨k,v,rfl⟩:=xy1 h;refine eX h λM h2 h=>?_;obtain⟨U,h1,rfl⟩:=oY h;cases i with
  |zero=>simp at hi;subst hi;exact⟨k,v,M,rr,h2,rr⟩
  |succ i=>simp only[List.getElem?_cons_succ]at hi |-;exact rf h1 hi
def IM (l:List (dB×D)):∀a:LK×LD,a.1.length=a.2.length->(l.foldl rb a).1.length=(l.foldl rb a).2.length/\(l.foldl rb a).1.length<=a.1.length+l.length:=by
 induction l with
 |nil=>simp
 |cons p l M=>
  intro a h;have h1:(rb a p).1.length<=a.1.length+1:=by
   show(du _ _).length<=_;unfold du;split<;>simp
  have:=M (rb a p) (mJ h _ _);rw[foldl_cons,vE];exact⟨this.1,N9⟩
theorem F9 (l:List (dB×D)):(bG l).1.length=(bG l).2.length/\(bG l).1.length<=l.length:=by
 have:=IM l ([],[]) rr;exact⟨this.1,vR this.2 X9⟩
def uB:entryFor table "dict.update.loop" = some Builtin.«dict.update.loop»:=entryFor_of_tree N8
def kJ:plainId "dict.update.loop" = true:=S9
section
variable {X:Cx}{af:AO}{σ:St}{B H0:Hp}{A:Around}{R:Result->Shared->Prop}{it l d:Addr}{us:LV}{ds:LD}{iW:List (dB×D)}
def By (Z:A.handled=none)(nl:l≠it)(nd:d≠it)(hl:eO X.K B l us)(G:IsL X.K B us ds)(hp:gn ds=some iW)
  (hR:∀M N vs ob s',Inv X af σ (upd M d (.dK ((bG iW).1.zip vs) ob)) s'->M d=none->Ext B N H0 M->(bG iW).1.length=vs.length->IsL X.K N vs (bG iW).2->R (.ok (.ret .none)) s'):
  ∀(k i:Nat)(tk:Nat)(s:Shared)(M N:Hp)(vs:LV)(ob:Obj),ds.length - i=k->i<=ds.length->Inv X af σ (upd M d (.dK ((bG (iW.take i)).1.zip vs) ob)) s->M d=none->Ext B N H0 M->lf X af (upd M d (.dK ((bG (iW.take i)).1.zip vs) ob)) it ->
   s.heap.IsListIter it l i->(bG (iW.take i)).1.length=vs.length->IsL X.K N vs (bG (iW.take i)).2 ->
   codeAny (model X.prog X.w) A (.builtin "dict.update.loop" ⟨[.ref d,.ref it,.int i tk,.none],[]⟩) R s:=by
 have n1:=G.length;have n2:=re hp;intro k;induction k with
 |zero=>
  intro i tk s M N vs ob hk hi I hc O fp st hz hv;have Lf:i=ds.length:=N9
  have j:aJ B (upd M d (.dK ((bG (iW.take i)).1.zip vs) ob)):=(O.bn.trans O.nh).trans (jQ hc);refine I.lisE (j.seq hl) λits m n z1=>?_;have e1:=m.length;refine codeAny_builtin uB ?_;rw[Around.under_plainId kJ _];refine wX (wpAny_pyNext_list_end (A:=A.in1) Z st n.isList s9 λh' Pm=>?_);refine wX (wY (wY ?_));have f:=kI (t':=s.toks) (h':=h') (ch:=[it]) I (λb hb=>by rw[uT hb];exact fp) λb o hb e=>Pm b o (λq=>hb (by simp[q])) e;rw[Lf,<-n2,take_length]at f hz hv;exact hR M N vs ob _ f hc O hz hv
 |succ k ih=>
  intro i tk s M N vs ob hk hi I hc O fp st hz hv;have U:i<ds.length:=N9
  have j:aJ B (upd M d (.dK ((bG (iW.take i)).1.zip vs) ob)):=(O.bn.trans O.nh).trans (jQ hc);refine I.lisE (j.seq hl) λits m n z1=>?_;obtain⟨kd,H,g,ed,ek,el⟩:=rf hp (vU U);obtain⟨x,hx,J⟩:=G.get (vU U);rw[ed]at J;cases J with
  |@tup T xs _ hT p=>
   cases p with
   |cons ik r=>
    cases r with
    |cons iv r=>
     cases r
     rename_i xk L;have t:=pv ik ek;subst t;obtain⟨u,hu,ru⟩:=m.get hx;cases (show u=Value.ref T from ru)
     refine codeAny_builtin uB ?_;rw[Around.under_plainId kJ _];refine wX (wpAny_pyNext_list_item (A:=A.in1) st n.isList (x:=.ref T) (by simpa using hu) λh' G9 hs=>?_);have f:=kI (t':=s.toks) (h':=h') (ch:=[it]) I (λb hb=>by rw[uT hb];exact fp) λb o hb e=>hs.extBut b o (λq=>hb (by simp[q])) e;refine f.tupE (aT j hT) λps r2 p2 z2=>?_;obtain⟨uk,uv,rfl,rk,rv⟩:=r2.two;have v:Shared.TypeIs { s with heap:=h' } (.ref T) "tuple":=by obtain⟨o,e,c,_⟩:=p2;exact⟨o,e,c⟩
     dsimp only;refine wX (wpAny_holding (wX (wpAny_tryCatch ?_)));unfold Builtin.Dict.pairItems;refine wX (wpAny_typeOf v ?_);obtain⟨oT,eT,cT,nT,dT⟩:=p2;rw[if_pos H9];refine wX (wpAny_seqItems eT dT (wY ?_));obtain⟨zz,y,z,rel,dd⟩:=qB f.hok (a:=d) au;have C:z.length<=sizeLine:=by rw[<-rel.length];exact zz
     have nk:((bG (iW.take i)).1.zip vs).length<sizeLine:=by
      grind[F9]
     refine wpAny_holding (wpAny_dictSet_pairs (hsz:=C) (q8 rk) dd λh2 P Q=>?_);have G8:(nO ((bG (iW.take i)).1.zip vs) g L).length<=sizeLine:=by grind[jE]
     obtain⟨E,S⟩:∃q,h2.get? d=some q:=let ⟨q,_,_,hq,_⟩:=P;⟨q,hq⟩;have V:=w4 (t':=s.toks+1) f (a:=d) (by rw[au];exact True.intro) Q ⟨_,S⟩ (GZ G8 y (rel.put g rv) P S);rw[mn,qd hz]at V;have W:iW.take (i+1)=iW.take i++[(g,H)]:=by rw[take_add_one,el];rfl
     have h:(bG (iW.take (i+1))).1=du (bG (iW.take i)).1 g:=by rw[W,rd];rfl
     have F:(bG (iW.take (i+1))).2=cQ (bG (iW.take i)).1 (bG (iW.take i)).2 g H:=by rw[W,rd];rfl
     refine wY ⟨plainId_quiet kJ _,?_⟩;refine ih (i+1) 0 _ M N (cQ (bG (iW.take i)).1 vs g L) E N9 U (by rw[h];exact V) hc O ?_ ?_ ?_ ?_
     .obtain⟨Y,f1⟩:=fp;refine⟨?_,f1⟩;rw[a8 nd.symm]at Y |-;exact Y
     .exact G9.at λo e=>(Q.2 it nd.symm).trans e
     .rw[h];exact mJ hz _ _
     .rw[F];exact hv.put (iv.mono O.bn)
end
@[simp] def mK:LD->OB
 |[.lst ds]=>(gn ds).map λM=>(.dk (bG M).1 (bG M).2,false)
 |_=>none
def Ro:bootBuiltins "dict" = some (.type "dict"):=S9
section
variable {X:Cx}
def Rp (x:X.calm=true):b8 X (.type "dict") (A8 X.K mK):=by
 intro af s σ H xs us Q I r h;obtain⟨B,y,d0,bb,j,z,U,q⟩:=h;cases z with
 |nil=>simp[mK]at U
 |cons i1 i2=>
  cases i2 with
  |cons _ _=>cases i1<;>simp[mK]at U
  |nil=>
   cases i1<;>try (simp[mK]at U;done)
   rename_i l ws ds hl C;simp only[mK]at U;refine eR U λk hp U=>?_;cases U
   obtain⟨u,rfl,D⟩:=fZ r;cases D
   have m:X.A.handled=none:=I.ok.hd x;refine callType_codes (Q₁:=λobj O=>obj=.ref s.z/\O={ s with heap:=s.heap.push _ }) PySem.F.kt_called_dict (PySem.F.kt_typeCall_dict_1 _) PySem.F.entry_dict_init (kt_code_dict_new _ ⟨rr,rr⟩) ?_;rintro obj O ⟨rfl,rfl⟩;have n:=I.laid (t':=s.toks) (λb o e=>vZ _ e) (vT _) (ye s.heap I.big);have a:H s.z=none:=I.fresh;have p:Shared.TypeIs { s with heap:=s.heap.push { cls:=.type "dict",data:=.dict #[] } } (.ref s.z) "dict":=⟨_,vY _ rr,rr⟩;refine⟨p,PySem.F.args_dict_init_2 _ _,?_⟩;unfold Builtin.«dict.__init__»;refine wX ?_;unfold Builtin.Dict.selfAndRest;refine wX (wpAny_notOrdered_dict p ?_);refine wY ?_;show wpAny _ _ (Builtin.Dict.updateFrom "dict.__init__" s.z (.ref l) [] .none) _ _ _;unfold Builtin.Dict.updateFrom;have E:aJ B (upd H s.z (.dK [] { cls:=.type "dict",data:=.dict #[] })):=j.trans (jQ a);refine n.lisE (E.seq hl) λits S t T=>?_;have pl:=t.isList;obtain⟨v,G,M,cl,c,dl⟩:=t;have f:Shared.TypeIs _ (.ref l) "list":=⟨v,M,cl⟩;refine wX (wpAny_typeOf f ?_);rw[if_pos H9];obtain⟨oc,od,V,os⟩:=v;simp only at cl c dl;subst cl c dl;refine wX (F8 M (by exact m) λh' tk hk=>?_);dsimp only[Option.isNone_none];rw[if_pos rr];have g:=n.kept (t':=tk) hk;refine wX (wpAny_rule ?_);refine wX (wpAny_pyIter_list (items:=its.toArray) ⟨_,hk _ _ M,rr,G,rr⟩ ?_);have J:Inv X af σ _ { s with heap:=h'.push { cls:=.type "list_iterator",data:=.fields #[.ref l,.int 0 0] },toks:=tk }:=g.kept (t':=tk) λb o e=>vZ _ e;have ld:s.z<h'.objs.size:=vX (hk _ _ (vY _ rr));have L:l<h'.objs.size:=vX (hk _ _ M);refine wY ⟨plainId_quiet kJ _,By (A:=X.A.in1) (B:=B) (H0:=H) (l:=l) (d:=s.z) (it:=h'.objs.size) m (vS L) (vS ld) hl C hp (λW N vs ob s' P w i hz hv=>?_) _ 0 0 _ H B [] _ rr (uN _) J a (Ext.refl j) (g.fpOk (vT _) (g.hok.fresh (vT _))) ⟨_,vY _ rr,rr,rr⟩ rr .nil⟩;refine⟨rr,.ref s.z,_,P,rr,?_⟩;have R:=i.trans (Ext.laid (o:=.dK ((bG k).1.zip vs) ob) i.nh w);exact q _ _ _ R (.dk au hz (hv.mono (Ext.laid (o:=.dK ((bG k).1.zip vs) ob) i.nh w).bn)) X9
end
def OJ (h:n+40<cLine):n+1<cLine:=N9
def jc:LD->Option LK
 |[]=>some []
 |d::ds=>(jP d).bind λk=>(jc ds).map (k :: ·)
theorem Bz {K:Frag}{B:Hp}:∀ {vs:LV}{ds:LD}{ks:LK},IsL K B vs ds->jc ds=some ks->vs=ks.map kV
 |_,_,ks,.nil,e=>by simp[jc]at e;subst e;rfl
 |_,_,ks,.cons i is,e=>by
  refine eX e λk h1 e=>?_;obtain⟨r,h2,rfl⟩:=oY e;rw[pv i h1,Bz is h2];rfl
@[simp] def IN (fo:FE)(fa:FA):FE:=λρ=>(fo ρ).bind λx=>(fa ρ).bind λds=>match x.1 with
 |.dt M vs=>if ds.length<=sizeLine then (jc ds).map λk=>((b9 M vs k).getD .non,false)else none
 |_=>none
section
variable {X:Cx}{o:Expr}{es:QD}{pos:Pos}
def IP {cn bS O:Pos}{U:Nat}{fo:FE}{fa:FA}(hu:X.A.units+1<cLine)(ho:JE X o fo)(ha:JA X es fa)(m:M1 X o "get" cn (.Tuple es U O) bS):JE X (.Call (.Attribute o "get" cn) [.Tuple es U O] [] bS) (IN fo fa):=by
 refine PE.to (yf hu ho (wo ha) m) λσ H Q q=>?_;obtain⟨B,ρ,d,bb,i,r,M,q⟩:=q;refine eX M λx ex M=>?_;refine eX M λds j M=>?_;refine⟨B,ρ,x.1,x.2,i,r,ex,λv s N1 U i1 t=>?_⟩;obtain⟨xd,u⟩:=x;cases i1 with
 |@dt a ks vs w h hl hs=>
  simp only at M;split at M
  .rename_i hz;refine eR M λk hk M=>?_;cases M
   refine⟨a,rr,.inr ⟨_,.inl (U.nh _ _ h)⟩,N1,ρ,ds,U.nh,r.mono U.bn,j,λus H2 N2 c i2=>?_⟩;have hv:=Bz i2 hk;have e:us.length<=sizeLine:=by rw[i2.length];exact hz
   refine⟨e,λp hp=>?_⟩;have b:=Ext.laid (o:=.tup us) c.nh hp;have f:=c.bn _ _ h;refine⟨jD _ k,.inr ⟨_,k,p,.inl (b.nh _ _ (b.bn _ _ f)),rr,by rw[au,hv],rr⟩,?_⟩;have l:=(hs.mono c.bn).mono b.bn;rcases ra k hl l with⟨v,d',g,e2,n⟩|⟨g,e2⟩
   .rw[g];rw[e2]at q;exact(q.into ((U.trans c).trans b)).one b.nh n
   .rw[g];rw[e2]at q;exact(q.into ((U.trans c).trans b)).one b.nh .non
  .cases M
 |_=>simp at M
end
section
variable {K:Frag}{E:Ends}{σ:St}{H:Hp}
def uC (i:Nat)(O:FA)(U:FE):FS:=λρ=>match ρ[i]? with
 |some (some (.dt ks vs,true))=>(U ρ).bind λv=>(O ρ).bind λkd=>(jc kd).bind λM=>if aP v.1=true/\ks.length<sizeLine/\kd.length<=sizeLine then some (.nx (ρ.set i (some (.dt (du ks M) (cQ ks vs M v.1),true))))else none
 |_=>none
def IQ {i:Nat}{O:FA}{U:FE}(q:nJ K (uC i O U) E σ H):Ck (GC i) (Ua (SK K O)) (tD K U) E σ H:=by
 obtain⟨B0,H0,ρ,r,⟨N,s⟩,e,p⟩:=q;unfold uC at e;split at e
 .rename_i ks ds ei;refine eX e λv ev e=>?_;refine eX e λkd ek e=>?_;refine eX e λd hk e=>?_;split at e
  .rename_i hx;cases e
   refine⟨N,ρ,v.1,v.2,s.ext.nh,s.rep,ev,λg h N1 f i1 _=>?_⟩;have s1:=s.grow f;obtain⟨a,o,h1,h2,h3,h4⟩:=s1.ow i _ ei;refine⟨.ref a,h1,N1,ρ,kd,s1.ext.nh,s1.rep,ek,λus H2 N2 b i2=>?_⟩;have s2:=s1.grow b;have hv:=Bz i2 hk;refine⟨by rw[i2.length];exact hx.2.2,λpp hp=>?_⟩;have c:=Ext.laid (o:=.tup us) s2.ext.nh hp;have M:=s2.grow c;obtain⟨j,o',k1,k2,k3,k4⟩:=M.ow i _ ei;rw[h1]at k1;cases k1
   cases k4 with
   |@dt ks vs ds hl h5=>
    refine⟨a,rr,.inr ⟨_,d,pp,M.ext.nh _ _ k2,rr,by rw[au,hv],?_,?_⟩⟩
    .rw[length_zip];lia
    .rw[qd hl];exact p σ _ ⟨_,M.writeB ei h1 (.dt (mJ hl _ _) (h5.put (M.flat ((i1.mono b.bn).mono c.bn) hx.1)))⟩
  simp_all
 simp_all
end
section
variable {X:Cx}{pos:Pos}{e:Expr}{es:QD}
def MG (hu:X.A.units+1<cLine)(hv:JE X e fv)(hk:JA X es fk)(U:X.N[i]? = some y)(M:KQ X.env.scope y)(hd:bj y)
  (O:ln y) (hs:swapsWith e (some (.Subscript (.Name y py) (.Tuple es x1 Sm) pt)) pos.line X.env=pure false):JS X (.Assign [.Subscript (.Name y py) (.Tuple es x1 Sm) pt] e pos) (uC i fk fv):=
 PS.to (w6 hu (j9 U M hd O) (wo hk) hv hs) λ_ _ _ q=>IQ q
end
end DL
namespace L2
open PySem PySem.Spec PyProof.Rows
noncomputable def Zj (a:Addr)(aA:List (dB×V))(ob:Obj):It:=⟨λi H=>H a=some (.dK aA ob)/\i<aA.length,λi H x H'=>H'=H/\∃k,aA[i]? = some (k,x),λi H=>H a=some (.dK aA ob)/\aA.length<=i⟩
def KV.get {aA:List (dB×V)}{vs:List (dB×Value)}(r:KV aA vs){i:Nat}{k:dB}{x:V}(h:aA[i]? = some (k,x)):∃u,vs[i]? = some (k,u)/\aC x u:=by
 induction r generalizing i with
 |nil=>simp at h
 |@cons p q ps U hq t M=>
  cases i with
  |zero=>
   cases (show p=(k,x)from vK h)
   obtain⟨O,q2⟩:=q;exact⟨q2,by rw[show k=O from hq.1];rfl,hq.2⟩
  |succ i=>exact M h
def Vi (h:(cy P w).is k u=true):aC (kV k) u:=by
 cases k with
 |inl i=>exact Value.isInt_shape h
 |inr z=>exact Value.isStrOf_shape h
section
variable {P:Program}{w:World}{H:Hp}{h:Heap}{a:Addr}
def rg (ok:lb P w H h)(e:H a=some (.dK aA ob))(hd:ob.data=.dict es U):∃vs,KV aA vs/\h.DictAt (cy P w) a vs U:=by
 obtain⟨_,_,vs,r,o,M,O,h1,h2,h3,h4⟩:=qB ok e;rw[AS ok e]at h1;cases h1
 rw[hd]at h3;cases h3
 exact⟨vs,r,ob,es,AS ok e,h2,hd,h4⟩
def xc (ok:lb P w H h)(e:H a=some (.dK aA ob)):∃es M,ob.data=.dict es M:=by
 obtain⟨_,_,vs,r,o,O,U,h1,h2,h3,h4⟩:=qB ok e;rw[AS ok e]at h1;grind
end
def FC {P:Program}{w:World}{K:Frag}{tg:Expr}(a it:Addr)(aA:List (dB×V))(ob:Obj){es:Array DictEntry}{t:Nat}(hd:ob.data=.dict es t):Turn P w K tg (Zj a aA ob) [it] it (λi h=>h.IsValIter it a i aA.length t) where
 mem:=X9
 obj:=λi h st b hb=>by
  have e:b=it:=by simpa using hb
  subst e;obtain⟨o,e,c,d⟩:=st;simp_all
 keep:=λi h h' st k=>st.at λo e=>k it X9 o e
 item:=by
  intro X U hw f hc i af s σ H E I hf st g;subst U hw f;obtain⟨j,O⟩:=g;obtain⟨vs,r,m⟩:=rg I.hok j hd;obtain⟨l,f1,f2,n,p,q⟩:=hf it X9;have hl:vs.length=aA.length:=(Paired.length r).symm;obtain⟨u,hu,ru⟩:=r.get (k:=aA[i].1) (x:=aA[i].2) (vU O);refine wpAny_pyNext_values_item (by rw[hl];exact st) m hu λh' M v=>?_;rw[hl]at M;have y:=I.turned (t':=s.toks) (λb o hb e=>(v.2 b hb).trans e) l f1 n p q;obtain⟨o,e,c,d⟩:=id M;exact⟨u,rr,qt (s:={ s with heap:=h' }) e c d H9 ⟨aA[i].2,H,y,ru,⟨rr,aA[i].1,vU O⟩,M,λb hb=>(hf b hb).1⟩⟩
 done:=by
  intro X U hw f hc i af s σ H E I hf st g;subst U hw f;obtain⟨j,A⟩:=g;obtain⟨vs,r,m⟩:=rg I.hok j hd;obtain⟨l,f1,f2,n,p,q⟩:=hf it X9;have hl:vs.length=aA.length:=(Paired.length r).symm;exact wpAny_pyNext_values_end (I.ok.hd hc) (by rw[hl];exact st) m (getElem?_eq_none N9) λh' z=>⟨rr,I.turned (t':=s.toks) (λb o hb e=>z b o hb e) l f1 n p q⟩
 self:=λ_ _ _ _ _ st h=>wpAny_pyIter_valiter st h
section
variable {X:Cx}{tg:Expr}
def Vj (O:TE):TI:=λσ H R=>O σ H λx M=>∃a aA ob,x=.ref a/\M a=some (.dK aA ob)/\R (Zj a aA ob) M
def MH {o:Expr}{f:TE}{cn bS:Pos}(ho:PE X o f)(M:attributeBase o "values" X.env (eval o X.env)=eval o X.env:=by rfl)(O:(cn.endLine == bS.line)=true:=by rfl):PI X tg (.Call (.Attribute o "values" cn) [] [] bS) (Vj f):=by
 intro af s σ H R I h;refine wpAny_Call_method0_late M O (bJ (ho af s σ H _ I h) λv s1 ⟨x,g,U,i,a,aA,ob,ex,c,q⟩=>?_);subst ex;obtain⟨h1,h2⟩:=AR U i (T:="dict") (.inr (.inr (.inl ⟨rr,.inl ⟨aA,ob,c⟩⟩)));cases i
 obtain⟨es,j,hd⟩:=xc U.hok c;obtain⟨vs,r,m⟩:=rg U.hok c hd;have hl:=(Paired.length r).symm;refine⟨"dict","dict.values",plainAttrs_dict,PySem.F.slot_dict_values,PySem.F.type_dict_values,h1,h2,Calls.callWith_builtin rr (PySem.evalArgs_none ?_)⟩;refine call_meetsIn PySem.F.slot_dict_values h1 PySem.F.entry_dict_values (PySem.F.args_dict_values_1 _) (meets_dict_values _ a (qB U.hok c).2.1) ⟨⟨vs,m.dictOf⟩,?_⟩;have d:Inv X af σ g { s1 with heap:=s1.heap.push { cls:=.type "dict_values",data:=.fields #[.ref a] } }:=U.kept λb o e=>vZ _ e;refine wpAny_pyIter_values ⟨_,vY _ rr,rr,rr⟩ (m.keep λb o e=>vZ _ e) ?_;rw[hl];refine⟨(s1.heap.push _).objs.size,[(s1.heap.push _).objs.size],_,_,g,rr,d.kept λb o e=>vZ _ e,FC a _ aA ob hd,⟨_,vY _ rr,rr,rr⟩,λb hb=>?_,q⟩;have e:b=(s1.heap.push { cls:=.type "dict_values",data:=.fields #[.ref a] }).objs.size:=by simpa using hb
 subst e;exact d.fpOk (vT _) (d.hok.fresh (vT _))
end
end L2
namespace DL
open PySem PySem.Spec PySem.W PyProof.Rows L2
noncomputable def kD:dB->D
 |.inl i=>.int i
 |.inr z=>.str z
def Vk {K:Frag}{B:Hp}(k:dB):Is K B (kV k) (kD k):=by
 cases k with
 |inl i=>exact .int i
 |inr z=>exact .str z
section
variable {K:Frag}{B:Hp}
def MI {a:Addr}{ks:LK}{vs:LV}{ds:LD}{ob:Obj}(h:B a=some (.dK (ks.zip vs) ob))(hl:ks.length=vs.length)(hs:IsL K B vs ds):m4 K (Zj a (ks.zip vs) ob) B ds:=by
 intro i H s;have hz:(ks.zip vs).length=vs.length:=by rw[length_zip];lia
 refine⟨λd ed=>?_,λM=>⟨s _ _ h,by rw[hz,hs.length];exact M⟩⟩;obtain⟨v,ev,iv⟩:=hs.get ed;have O:=(vV ev).1;refine⟨⟨s _ _ h,by rw[hz];exact O⟩,λy U hy=>?_⟩;obtain⟨rfl,k,e⟩:=hy;have:=(getElem?_zip_eq_some.mp e).2;rw[ev]at this;cases this
 exact⟨B,.refl s,iv⟩
end
section
variable {X:Cx}{e:Expr}{tg:Expr}
@[simp] noncomputable def xf (f:FE):FA:=λρ=>(f ρ).bind λx=>match x.1 with|.dk _ ds=>some ds|_=>none
def MJ (h:JE X e f)(M:attributeBase e "values" X.env (eval e X.env)=eval e X.env)(O:(cn.endLine == bS.line)=true):JI X tg (.Call (.Attribute e "values" cn) [] [] bS) (xf f):=by
 intro af s σ H R I q;obtain⟨B,ρ,ds,b,r,c,q⟩:=q;obtain⟨⟨xd,g⟩,ex,es⟩:=oX c;cases xd<;>try (cases es;done)
 cases es
 refine MH h M O _ s σ H R I ⟨B,ρ,_,_,b,r,ex,λv d N1 U i1 _=>?_⟩;cases i1 with
 |@dk a ks vs ds ob hd hl hs=>exact⟨a,_,ob,rr,U.nh _ _ hd,q _ d N1 U (MI hd hl hs)⟩
end
end DL
namespace DL
open PySem PySem.Spec PyProof.Rows L2
@[simp] abbrev jx (i:Nat)(j:Int):FE:=f2 fu (am i) (fC (.int j))
def Vl (F:Fn X.prog X.w X.K X.mg X.base k x f)(hr:dF j X.A)(ha:JA X (e::es) fa)(hj:k<=j)(U:Gl X x)(M:bj x)(he:dv e es X.env)(O:j8 pos es X.env):JE X (.Call (.Name x p) (e::es) [] pos) (fA f fa):=Me F (hr.mono hj) ha U M he O
def ML (h1:∀y∈scope.names,y.2≠.cell:=by decide +kernel)(h2:scope.kind=.function:=by rfl)(h3:∀y∈scope.names,y.2=.local->scope.names.lookup y.1=some .local:=by decide +kernel)(M:(scope.names.all λy=>!(y.2 == NameKind.free) || (X.env.cells.lookup y.1).isSome)=true:=by rfl):CompSc X scope (dD scope.names X.env.cells []):=Qn h1 h2 h3 M
end DL
namespace DL
open PySem PySem.Spec PySem.W PyProof.Rows L2
def rh:At->D
 |.i n=>.int n
 |.s z=>.str z
section
variable {prog:Program}{w:World}{A:Around}{E:QV}{s:Shared}
def Vm (hx:A9 x u)(hy:A9 y v):SeqAt.EqAt A s u v (gS (rh x) (rh y)):=by
 cases x with
 |i a=>
  obtain⟨t,rfl⟩:=hx;cases y with
  |i c=>obtain⟨t',rfl⟩:=hy;exact SeqAt.EqAt.int_int _ _ _ _
  |s c=>obtain⟨t',rfl⟩:=hy;exact SeqAt.EqAt.int_str _ _ _ _
 |s a=>
  obtain⟨t,rfl⟩:=hx;cases y with
  |i c=>obtain⟨t',rfl⟩:=hy;exact SeqAt.EqAt.str_int _ _ _ _
  |s c=>obtain⟨t',rfl⟩:=hy;exact SeqAt.EqAt.str_str _ _ _ _
theorem CH:∀ {xs ys:List At}{vs:LU},Paired A9 xs vs->Paired A9 ys vs->xs=ys
 |_,_,_,.nil,.nil=>rr
 |x::xs,y::ys,_,.cons p ps,.cons q M=>by
  rw[CH ps M];cases x with
  |i a=>
   obtain⟨t,rfl⟩:=p;cases y with
   |i c=>obtain⟨t',e⟩:=q;cases e;rfl
   |s c=>obtain⟨t',e⟩:=q;cases e
  |s a=>
   obtain⟨t,rfl⟩:=p;cases y with
   |i c=>obtain⟨t',e⟩:=q;cases e
   |s c=>obtain⟨t',e⟩:=q;cases e;rfl
def Rr (x y:At):gS (rh x) (rh y)=true↔x=y:=by
 cases x<;>cases y<;>simp[rh]
theorem qe:∀xs ys:List At,jI (xs.map rh) (ys.map rh)=true↔xs=ys
 |[],[]=>by simp
 |[],_::_=>by simp
 |_::_,[]=>by simp
 |x::xs,y::ys=>by
  rw[uY,uY,jI,vC,Rr,qe xs ys];simp
def Rt (hx:gg s.heap xs x)(hy:gg s.heap ys y)(hu:A.units<cLine):SeqAt.EqAt A s x y (jI (xs.map rh) (ys.map rh)):=by
 obtain⟨a,o,its,n,rfl,ho,hc,hd,r⟩:=hx;obtain⟨b,o',M,m,rfl,O,U,f,e⟩:=hy;by_cases c:a=b
 .grind[CH,qe,SeqAt.EqAt.same]
 .have g:s.heap.IsTuple a its:=⟨o,ho,hc,n,hd⟩;have h:s.heap.IsTuple b M:=⟨o',O,U,m,f⟩;have l1:xs.length=its.size:=by exact eW r
  have l2:ys.length=M.size:=by exact eW e
  have he:∀j (h1:j<its.size) (h2:j<M.size),SeqAt.EqAt A.in1 s its[j] M[j] (gS ((xs.map rh).getD j .non) ((ys.map rh).getD j .non)):=λj h1 h2=>by
   have p:=dI (.i 0) Value.none r (i:=j) N9;have q:=dI (.i 0) Value.none e (i:=j) N9;have d:its.toList.getD j Value.none=its[j]:=by simp_all
   have e2:M.toList.getD j Value.none=M[j]:=by simp_all
   rw[d]at p;rw[e2]at q;have k:(xs.map rh).getD j .non=rh (xs.getD j (.i 0)):=by simp_all
   have l:(ys.map rh).getD j .non=rh (ys.getD j (.i 0)):=by simp_all
   rw[k,l];exact Vm p q
  have rc:=SeqAt.RcAt.tuples g h hu he;have t:((List.range (min its.size M.size)).all (λj=>gS ((xs.map rh).getD j .non) ((ys.map rh).getD j .non)) && its.size == M.size)=jI (xs.map rh) (ys.map rh):=by
   rw[<-l1,<-l2];by_cases hl:xs.length=ys.length
   .rw[<-hl,Nat.min_self,beq_self_eq_true,Bool.and_true];have:=iY _ (xs:=xs.map rh) (ys:=ys.map rh) (by simpa using hl) λj x y d e2=>wH j x y d e2;rwa [vI]at this
   .rw[wG (by simpa using hl),beq_eq_false_iff_ne.mpr hl,Bool.and_false]
  rw[t]at rc;exact SeqAt.EqAt.of_refs c rc
theorem FD (xs:List At):aX xs xs=some false:=by
 induction xs with
 |nil=>rfl
 |cons x xs M=>cases x<;>rw[aX,if_pos rr,M]
def IS (hx:gg s.heap xs x)(hy:gg s.heap ys y)(h:aX (.i n::xs) (.i m::ys)=some b)(hu:A.units<cLine)(q:Q b s)(hn:A9 (.i n) u)(hm:A9 (.i m) v):KatLex prog w A true false Q [(u,v),(x,y)] 0 s:=by
 obtain⟨t,rfl⟩:=hn;obtain⟨t',rfl⟩:=hm;refine kat_cons (wpAny_eqBool_int ?_);rw[aX]at h;by_cases e:n=m
 .rw[if_pos e]at h;rw[show(n == m)=true by simp[e]];refine kat_yes (kat_cons (Rt hx hy hu _ _ _ _ ?_));by_cases e2:xs=ys
  .grind[qe,FD,kat_yes,kat_nil]
  .rw[Bool.eq_false_iff.mpr λz=>e2 ((qe xs ys).mp z)];refine kat_no (kat_one _ _ ?_);exact Ix hx hy h hu (by first|exact q|exact⟨b,rr,q⟩)
 .rw[if_neg e]at h;cases h
  rw[show(n == m)=false by simp[e]];exact kat_no (oneLt_int q)
end
def FF (h:Heap)(xs:List At)(v:Value):Prop:=∃n k a o its m u x,xs=.i n::k/\v=.ref a/\h.get? a=some o/\o.cls=.type "tuple"/\o.data=.seq its m/\its.toList=[u,x]/\A9 (.i n) u/\gg h k x
section
variable {prog:Program}{w:World}{A:Around}{E:QV}{s:Shared}
def MN (hx:FF s.heap xs x)(hy:FF s.heap ys y)(h:aX xs ys=some b)(hu:A.units<cLine)(q:Q b s):wpAny (model prog w) A (keyLt' (tuples' true) x y) Q E s:=by
 obtain⟨n,k,a,o,its,m,u,e,rfl,rfl,ho,_,hd,ei,an,d⟩:=hx;obtain⟨f,k',g,o',its',i,u',j,rfl,rfl,O,_,U,M,c,ty⟩:=hy;refine kat_lt ho hd O U ?_;rw[ei,M];have hf:decide (its.size<its'.size)=false:=by
  rw[<-vG,<-vG,ei,M];rfl
 rw[hf];exact IS d ty h hu q an c
theorem pw:∀ {ks:List (List At)}{vs:LU},Paired (FF h) ks vs->∃fs,KatTups h vs fs/\fs.length=ks.length/\∀v∈fs,∃n,A9 (.i n) v
 |_,_,.nil=>⟨[],trivial,rr,X9⟩
 |k::ks,_,.cons x t=>by
  obtain⟨fs,h1,h2,h3⟩:=pw t;obtain⟨n,k,a,o,its,m,u,M,rfl,rfl,ho,hc,hd,ei,an,_⟩:=x;refine⟨u::fs,KatTups.cons ho hc hd (by rw[<-Array.getElem?_toList,ei];rfl) h1,by simp[h2],λv hv=>?_⟩;grind
def FH (hp:Paired (FF s.heap) ks vs)(hn:0<ks.length)(q:Q (tuples' true) s):wpAny (model prog w) A (keyKind' vs.toArray) Q E s:=by
 obtain⟨fs,h1,h2,h3⟩:=pw hp;refine kat_kind (T:=.type "int") h1 N9 (λv hv=>?_) H9 q;obtain⟨n,t,rfl⟩:=h3 v hv;exact .now
def IT (hc:cI ks=true)(hu:A.units<cLine)(hp:Paired (FF s.heap) ks vs):∀(i j:Nat)(C:Bool->Shared->Prop)(s1:Shared),i<ks.length->j<ks.length->s1=s->(∀s',s'=s->C (qV (KZ ks) i j) s')->kas_ask prog w A (tuples' true) vs i j C s1:=by
 intro i j C s1 hi hj e O;subst e;have M:ks.getD i []∈ks:=by simp_all
 have U:ks.getD j []∈ks:=by simp_all
 refine MN (dI [] _ hp hi) (dI [] _ hp hj) (fW hc M U) hu ?_;have:=O s1 rr;unfold qV KZ at this;rw[yO (uS ⟨_,M,rr⟩)]at this;exact this
end
def Ru:D->Option (List At)
 |.tup [.int n,.tup es]=>(lO es).map (.i n :: ·)
 |_=>none
def l5:LD->Option (List (List At))
 |[]=>some []
 |d::ds=>(Ru d).bind λa=>(l5 ds).map (a :: ·)
theorem uE:∀ {ds:LD}{ks:List (List At)},l5 ds=some ks->ks.length=ds.length
 |[],_,h=>by simp_all[l5]
 |d::ds,_,h=>by
  refine eX h λa h1 h=>?_;refine eR h λr h2 h=>?_;subst h;simp[uE h2]
theorem zb (I:Inv X af σ H s):∀ {ys:LV}{ds:LD}{ks:List (List At)}{its:LU},aL ys its->IsL X.K H ys ds->l5 ds=some ks->Paired (FF s.heap) ks its
 |_,_,_,_,.nil,.nil,h=>by cases h;exact .nil
 |_,_,_,_,.cons r b,.cons i c,h=>by
  refine eX h λa h1 h=>?_;refine eR h λt h2 h=>?_;subst h;refine .cons ?_ (zb I b c h2);unfold Ru at h1;split at h1
  .rename_i n es;obtain⟨k,O,rfl⟩:=oY h1;cases i with
   |tup hq hl=>
    cases r
    obtain⟨its',M,⟨o,ho,hc,m,hd⟩,_⟩:=I.tuple hq;cases hl with
    |cons i1 hl=>
     cases hl with
     |cons i2 hl=>
      cases hl
      cases M with
      |cons d M=>
       cases M with
       |cons e M=>
        cases M
        cases i1
        have hk:dO [D.tup es]=some [k]:=by show(lO es).bind _=_;rw[O];rfl
        have U:=pY I (.cons e .nil) (.cons i2 .nil) hk;cases U with
        |cons U _=>exact⟨n,k,_,o,_,m,_,_,rr,rr,ho,hc,hd,rr,d,U⟩
  simp_all
def MO (hu:A.units<cLine):KK X A l5 λ_=>true:=⟨uE,λI _ _ _ _ r i e _ hc=>have hp:=zb I r i e;⟨λhn _ _ q=>FH hp hn q,IT hc hu hp⟩⟩
def IU (hu:X.A.units+40<cLine):KK X X.A.in1.in1 l5 λ_=>true:=MO N9
@[simp] abbrev B1:FE->(Env->D->Option D)->FE:=wW l5 λ_=>true
end DL
namespace DL
open PySem PySem.Spec PyProof.Rows L2
def Vn:Nat->(LU->Prop)->Prop
 |0,P=>P []
 |n+1,P=>∀a,Vn n λl=>P (a::l)
theorem Rv:∀n P,Vn n P->∀us:LU,us.length=n->P us
 |0,_,h,[],_=>h
 |n+1,_,h,a::us,e=>Rv n _ (h a) us (Nat.succ.inj e)
section
variable {P:Program}{w:World}{K:Frag}{mg:SV}{base:Heap}
def KC (K:Frag)(mg:SV)(x:Str)(c:D):Prop:=∃u v,mg x=some u/\aC v u/\∀B,Is K B v c
def KD (w:World)(K:Frag)(mg:SV)(x:Str)(c:List (Str×D)):Prop:=∃d,mg x=some (.ref d)/\mD K w.params d c
def kc_of {x:Str}{c:D}{h:Heap}(X:K.In h)(G:h.Ns mainGlobals mg)(k:∃u v,nsIn K mainGlobals x=some (some u)/\aC v u/\∀B,Is K B v c):KC K mg x c:=let ⟨u,v,e,r⟩:=k;⟨u,v,mg_of X G e,r⟩
def kd_of {x:Str}{c:List (Str×D)}{h:Heap}(X:K.In h)(G:h.Ns mainGlobals mg)(k:∃d,nsIn K mainGlobals x=some (some (.ref d))/\mD K w.params d c):KD w K mg x c:=let ⟨d,e,r⟩:=k;⟨d,mg_of X G e,r⟩
def bQ.fqL {x:Str}{st:Stmt}{k:Nat}{O:LD->OB}(F:bQ K x st)(B:∃h,K.In h/\h.Ns mainGlobals mg)(g:FS)(N:LS)(n:Nat)
  (hb:∀ {f:Addr}{dR:Value}{A:Around}{outer:List PySem.Env}{s:Shared}{H:Hp}{E:XK},N.Nodup->dF k (A.deeper (envOfC x (aH st) s.z f dR))->(A.deeper (envOfC x (aH st) s.z f dR)).units+40<cLine->(∀c P,PySem.W.tabIn K x=some (c,P)->dR=.ref c)->yj (qw A7 P w K mg base N x (aH st) f dR A outer s H E).nox (bT st) g)
  (S:FnScope N (N.take n) (aH st):=by refine⟨rr,rr,rr,?_,rr,?_,?_⟩<;>decide +kernel)
  (M:∀(kV doc pm:Value)(an:Option Addr)(dR ct:Value)(us:LU),us.length=(N.take n).length->bindArgs (fnOf x x (fL st) (bT st) (aH st) .none kV doc pm an dR ct) ⟨us,[]⟩=pure ((N.take n).zip us):=by
   exact λ_ _ _ _ _ _=>Rv _ _ (by(repeat intro);rfl))
  (e:ax g (N.take n).length (N.length - (N.take n).length)=O:=by rfl):
  Fn P w K mg base (k+1) x O:=let ⟨_,X,G⟩:=B;e ▸ F.fnL X G S M λ_ _ _ _ _ _ _ hc hr=>hb S.nd hr (lg hr) hc
end
section
variable {X:Cx}{x:Str}{pos:Pos}
def pgV (i:Nat)(M:X.N.Nodup)(hi:X.N[i]? = some x)(hx:KR X.env.scope x)(hf:X.fn x=true\/X.env.scope.names.lookup x=some .local):PG X (.Name x pos) (iB i):=Ce M hi hx hf
def Vo (N':LS)(hi:JI X tg dS fi)(hc:∀ {C s H fp},JC (ij X N' scope (dD scope.names X.env.cells []) C s H fp) wj fc)(he:∀ {C s H fp},JE (ij X N' scope (dD scope.names X.env.cells []) C s H fp) xR fe)
  (O:LP X.K nT t9 g) (U:∀ {C s H fp},PG (ij X N' scope (dD scope.names X.env.cells []) C s H fp) tg g)
  (cp:ml X N' scope (dD scope.names X.env.cells []) nT cap)
  (S:CompSc X scope (dD scope.names X.env.cells [])) (M:X.calm=true)
  (hs:∀x,foldedSetIterable dS X.env x=pure x):
  JE X (.ListComp xR [⟨tg,dS,wj,0⟩] scope pos) (jw fi nT cap t9 fc fe):=LQ M S cp hi (λ_ _ _ _=>U) O (λ_ _ _ _=>hc) (λ_ _ _ _=>he) hs
def Vp (N':LS)(a:X.N.Nodup)(hi:JI X tg dS fi)(hc:∀ {C s H fp},JC (ij X N' scope (dD scope.names X.env.cells []) C s H fp) wj fc)(he:∀ {C s H fp},JE (ij X N' scope (dD scope.names X.env.cells []) C s H fp) xR fe)
  (O:LP X.K nT t9 g) (b:∀ {C s H fp},PG (ij X N' scope (dD scope.names X.env.cells []) C s H fp) tg g)
  (cp:ml X N' scope (dD scope.names X.env.cells []) nT cap)
  (U:X.N[i]? = some y) (hy:X.env.kindOf y=some .local)
  (c:swapsWith (.ListComp xR [⟨tg,dS,wj,0⟩] scope pos) (some (.Name y py)) spos.line X.env=pure true)
  (S:CompSc X scope (dD scope.names X.env.cells [])) (M:X.calm=true)
  (hs:∀x,foldedSetIterable dS X.env x=pure x):
  JS X (.Assign [.Name y py] (.ListComp xR [⟨tg,dS,wj,0⟩] scope pos) spos) (eM i (jw fi nT cap t9 fc fe)):=LR M a U hy c S cp hi (λ_ _ _ _=>b) O (λ_ _ _ _=>hc) (λ_ _ _ _=>he) hs
def Vq (hi:JI X tg dS fi)(M:PG X tg t)(O:KU X.K t9 t)(hb:yj X U g)(hp:PassesOwn (model X.prog X.w) X.A X.env X.xe)(hc:X.calm=true)
  (hs:∀x,foldedSetIterable dS X.env x=pure x):JS X (.For tg dS U [] pos) (EZ fi t9 g):=QC hp hc hi M O hb hs
def Vr (hi:PI X tg dS (Ut X.K fi))(M:PG X tg t)(O:KU X.K t9 t)(hb:yj X U g)(hp:PassesOwn (model X.prog X.w) X.A X.env X.xe)(hc:X.calm=true)
  (hs:∀x,foldedSetIterable dS X.env x=pure x):JS X (.For tg dS U [] pos) (ug fi t9 g):=Md hp hc hi M O hb hs
end
end DL
namespace DL
open PySem PySem.Spec PySem.W PyProof.Rows L2
def rj:entryFor table "dict_itemiterator.__iter__" = some Builtin.«dict_keyiterator.__iter__»:=entryFor_alias (id':="dict_keyiterator.__iter__") N8 rr S9 N8
def xg (he:IsItemIter s.heap it d i n O ok U)(h:Q (.ref it) s):wpAny (model prog w) A (pyIter (.ref it)) Q E s:=by
 have M:s.TypeIs (.ref it) _:=⟨_,he,rr⟩;refine wpAny_pyIter_slot M PySem.F.slot_dict_itemiterator_iter (wpAny_call_entry PySem.F.slot_dict_itemiterator_iter M rj ?_ (PySem.F.args_dict_itemiterator_iter_1 _));exact wY ⟨_,rr,"dict_itemiterator",_,M,PySem.F.slot_dict_itemiterator_next.lookup,h⟩
noncomputable def Zk (a:Addr)(aA:List (dB×V))(ob:Obj):It:=⟨λi H=>H a=some (.dK aA ob)/\i<aA.length,λi H y H'=>∃T k v,y=.ref T/\H T=none/\H'=upd H T (.tup [kV k,v])/\aA[i]? = some (k,v),λi H=>H a=some (.dK aA ob)/\aA.length<=i⟩
def B3 {P:Program}{w:World}{K:Frag}{es:QD}{t:Nat}{pt:Pos}(a it:Addr)(aA:List (dB×V))(ob:Obj){ds:Array DictEntry}{n:Nat}(hd:ob.data=.dict ds n):Turn P w K (.Tuple es t pt) (Zk a aA ob) [it] it (λi h=>∃ok M,IsItemIter h it a i aA.length n ok M) where
 mem:=X9
 obj:=λi h st b hb=>by
  grind
 keep:=λi h h' st k=>let ⟨ok,M,e⟩:=st;⟨ok,M,k it X9 _ e⟩
 item:=by
  intro X c hw d hc i af s σ H E I hf st f;subst c hw d;obtain⟨ok,M,he⟩:=st;obtain⟨g,O⟩:=f;obtain⟨vs,r,m⟩:=rg I.hok g hd;have hl:=(Paired.length r).symm;obtain⟨u,hu,ru⟩:=r.get (k:=aA[i].1) (x:=aA[i].2) (vU O);have fresh:=I.hok.fresh (vT _);have j:=vS (vX he);refine wpAny_pyNext_items_item (by rw[hl];exact he) m hu λl h' U ho v hsz hk=>?_;rw[hl]at ho;refine⟨_,rr,wpAny_letOwnedTupleGo_items ho λh2 y s2=>?_⟩;have p:Heap.SameBut it h' h2:=s2;have A:∀b o,b∉[it]->s.heap.get? b=some o->h2.get? b=some o:=λb o hb q=>p.extBut _ _ (λz=>hb (by simp[z])) (hk b o (λz=>hb (by simp[z])) q);have new:bf X.prog X.w (upd H s.z (.tup [kV aA[i].1,aA[i].2])) h2 s.z (.tup _):=⟨by show 2<=sizeLine;decide,[l,u],.cons (Vi U) (.cons ru .nil),⟨_,p.extBut _ _ j.symm v,rr,_,rr⟩⟩;refine⟨.ref s.z,upd H s.z _,C0 (s:=s) (t':=s.toks) I hf A (vT _) new,rr,⟨_,aA[i].1,aA[i].2,rr,fresh,rr,vU O⟩,⟨_,_,y⟩,λb hb=>?_⟩;have B:b≠s.z:=by
   simp_all
  rw[a8 B];exact(hf b hb).1
 done:=by
  intro X c hw d hc i af s σ H E I hf st f;subst c hw d;obtain⟨ok,M,he⟩:=st;obtain⟨g,C⟩:=f;obtain⟨vs,r,m⟩:=rg I.hok g hd;have hl:=(Paired.length r).symm;exact wpAny_pyNext_items_end (I.ok.hd hc) (by rw[hl];exact he) m (getElem?_eq_none N9) λh' hk=>⟨rr,kI (t':=s.toks) I hf λb o hb q=>hk b o (λz=>hb (by simp[z])) q⟩
 self:=λ_ _ _ _ _ st h=>let ⟨_,_,he⟩:=st;xg he h
section
variable {X:Cx}{es:QD}{kt:Nat}{pt:Pos}{e:Expr}
def Zl (O:TE):TI:=λσ H R=>O σ H λx M=>∃a aA ob,x=.ref a/\M a=some (.dK aA ob)/\R (Zk a aA ob) M
def IV {o:Expr}{f:TE}{cn bS:Pos}(ho:PE X o f)(M:attributeBase o "items" X.env (eval o X.env)=eval o X.env:=by rfl)(O:(cn.endLine == bS.line)=true:=by rfl):PI X (.Tuple es kt pt) (.Call (.Attribute o "items" cn) [] [] bS) (Zl f):=by
 intro af s σ H R I h;refine wpAny_Call_method0_late M O (bJ (ho _ s σ H _ I h) λv s1 ⟨x,g,U,i,a,aA,ob,ex,c,q⟩=>?_);subst ex;obtain⟨h1,h2⟩:=AR U i (.inr (.inr (.inl ⟨rr,.inl ⟨aA,ob,c⟩⟩)));cases i
 obtain⟨es,j,hd⟩:=xc U.hok c;obtain⟨vs,r,m⟩:=rg U.hok c hd;have hl:=(Paired.length r).symm;refine⟨"dict","dict.items",plainAttrs_dict,PySem.F.slot_dict_items,PySem.F.type_dict_items,h1,h2,Calls.callWith_builtin rr (PySem.evalArgs_none ?_)⟩;refine call_meetsIn PySem.F.slot_dict_items h1 PySem.F.entry_dict_items (PySem.F.args_dict_items_1 _) (meets_dict_items _ a (qB U.hok c).2.1) ⟨⟨vs,m.dictOf⟩,?_⟩;have d:Inv X af σ g { s1 with heap:=s1.heap.push { cls:=.type "dict_items",data:=.fields #[.ref a] } }:=U.kept λb o e=>vZ _ e;refine wpAny_pyIter_items ⟨_,vY _ rr,rr,rr⟩ (m.keep λb o e=>vZ _ e) ?_;rw[hl];refine⟨(s1.heap.push _).objs.size,[(s1.heap.push _).objs.size],_,_,g,rr,d.kept λb o e=>vZ _ e,B3 a _ aA ob hd,⟨_,_,vY _ rr⟩,λb hb=>?_,q⟩;have e:b=(s1.heap.push { cls:=.type "dict_items",data:=.fields #[.ref a] }).objs.size:=by simpa using hb
 subst e;exact d.fpOk (vT _) (d.hok.fresh (vT _))
noncomputable def lQ (ks:LK)(ds:LD):LD:=(ks.zip ds).map λx=>.tup [kD x.1,x.2]
def IW {K:Frag}{B:Hp}{a:Addr}{ks:LK}{vs:LV}{ds:LD}{ob:Obj}(h:B a=some (.dK (ks.zip vs) ob))(hl:ks.length=vs.length)(hs:IsL K B vs ds):m4 K (Zk a (ks.zip vs) ob) B (lQ ks ds):=by
 intro i H s;have hz:(ks.zip vs).length=vs.length:=by rw[length_zip];lia
 have hn:=hs.length;refine⟨λd ed=>?_,λO=>⟨s _ _ h,by simp_all[lQ]⟩⟩;unfold lQ at ed;rw[vA]at ed;obtain⟨⟨k0,d0⟩,ek,rfl⟩:=oY ed;obtain⟨c,e2⟩:=getElem?_zip_eq_some.mp ek;obtain⟨v,ev,iv⟩:=hs.get e2;have M:=(vV ev).1;refine⟨⟨s _ _ h,by rw[hz];exact M⟩,λy j hy=>?_⟩;obtain⟨T,k,f,rfl,g,rfl,e⟩:=hy;obtain⟨g1,U⟩:=getElem?_zip_eq_some.mp e;rw[c]at g1;cases g1;rw[ev]at U;cases U;have b:=Ext.laid (o:=.tup [kV k0,f]) s g;exact⟨_,b,.tup (gR.of au) (.cons (Vk _) (.cons (iv.mono b.bn) .nil))⟩
@[simp] def CJ (f:FE):FA:=λρ=>(f ρ).bind λx=>match x.1 with|.dk ks ds=>some (lQ ks ds)|_=>none
def IX (h:JE X e f)(M:attributeBase e "items" X.env (eval e X.env)=eval e X.env)(O:(cn.endLine == bS.line)=true):JI X (.Tuple es kt pt) (.Call (.Attribute e "items" cn) [] [] bS) (CJ f):=by
 intro af s σ H R I q;obtain⟨B,ρ,ds,b,r,c,q⟩:=q;obtain⟨⟨xd,g⟩,ex,es⟩:=oX c;cases xd<;>try (cases es;done)
 cases es
 refine IV h M O _ s σ H R I ⟨B,ρ,_,_,b,r,ex,λv d N1 U i1 _=>?_⟩;cases i1 with
 |@dk a ks vs ds ob hd hl hs=>exact⟨a,_,ob,rr,U.nh _ _ hd,q _ d N1 U (IW hd hl hs)⟩
end
section
variable {K:Frag}{E:Ends}{σ:St}{H:Hp}
def ro (i:Nat)(O U:FE):FS:=λρ=>match ρ[i]? with
 |some (some (.dk ks vs,true))=>(U (iF ρ)).bind λv=>(O ρ).bind λk=>(jP k.1).bind λM=>if ks.length<sizeLine then some (.nx (ρ.set i (some (.dk (du ks M) (cQ ks vs M v.1),true))))else none
 |_=>none
def FI (q:nJ K (ro i fk fv) E σ H):Ck (GC i) (tD K fk) (tD K fv) E σ H:=by
 obtain⟨B0,H0,ρ,r,⟨N,s⟩,e,p⟩:=q;unfold ro at e;split at e
 .rename_i ks ds ei;refine eX e λv ev e=>?_;refine eX e λk ek e=>?_;refine eX e λO hk e=>?_;split at e
  .cases e
   refine⟨dA N _,iF ρ,v.1,v.2,bv.trans s.ext.nh,s.repH,ev,λd f N1 U i1 _=>?_⟩;obtain⟨s1,c⟩:=s.growH U;obtain⟨a,o,h1,h2,h3,h4⟩:=s1.ow i _ ei;refine⟨.ref a,h1,_,ρ,k.1,k.2,s1.ext.nh,s1.rep,ek,λg H2 N2 M i2 _=>?_⟩;have s2:=s1.grow M;have hv:=pv i2 hk;subst hv;obtain⟨h,o',k1,k2,k3,k4⟩:=s2.ow i _ ei;rw[h1]at k1;cases k1
   cases k4 with
   |@dk ks vs ds hl h5 ob=>
    refine⟨a,rr,.inl ⟨_,O,_,s2.ext.nh _ _ k2,rr,?_,λb=>?_⟩⟩
    .rw[length_zip];lia
    .rw[qd hl];exact p σ _ ⟨_,s2.writeB ei h1 (.dk (mJ hl _ _) (h5.put ((i1.mono c).mono (dC λa o e q=>⟨M.bn a o e,q⟩))))⟩
  .cases e
 simp_all
end
section
variable {X:Cx}{pos:Pos}{e k:Expr}
def IY (hu:X.A.units+1<cLine)(hv:JE X e fv)(hk:JE X k fk)(U:X.N[i]? = some y)(M:KQ X.env.scope y)(hd:bj y)
  (O:ln y) (hs:swapsWith e (some (.Subscript (.Name y py) k pt)) pos.line X.env=pure false):JS X (.Assign [.Subscript (.Name y py) k pt] e pos) (ro i fk fv):=
 PS.to (w6 hu (j9 U M hd O) hk hv hs) λ_ _ _ q=>FI q
end
section
variable {prog:Program}{w:World}{A:Around}{E:QV}{s:Shared}
theorem CK:∀(vs:LU)(ns:LI),vs.length=ns.length->(∀(i:Nat)(v:Value),vs[i]? = some v->∃(m:Int)(t:Tok),ns[i]? = some m/\v=Value.int m t)->IntsAre vs ns
 |[],[],_,_=>.nil
 |v::vs,n::ns,h,k=>by
  obtain⟨m,t,e,rfl⟩:=k 0 v rr;cases (show some n=some m from e)
  exact .cons n t (CK vs ns (by simpa using h) λi v hv=>k (i+1) v hv)
def zc (hh:A.handled=none)(lo:(a == sysModules)=false)(hm:s.heap.DictAt (cy prog w) a aA ep)(hk:aA.map (·.1)=ns.map .inl)(j:ns.length<64)
  (l:∀(h1 h':Heap)(tk:Nat)(b:Addr)(out:AV)(n:Nat)(M:LI),(∀c u,s.heap.get? c=some u->h1.get? c=some u)->(∀c u,h1.get? c=some u->h'.get? c=some u)->h1.objs.size<=b->h'.get? b=some (seqObj "list" out n) ->
   IntsAre out.toList M->M.Perm ns->M.Pairwise (·<=·)->Q (.ref b) { s with heap:=h',toks:=tk }):
  wpAny (model prog w) A (call (.builtin "sorted") [.ref a]) Q E s:=by
 refine Calls.call_function_entry kind_sorted plain_sorted entry_sorted (args_sorted1 _) ?_;refine wX (wY ?_);have e:=by have:=congrArg List.length hk;simpa using this
 refine wX (kdu_collect (A:=A.in1) (kdl_dict lo) (by exact hh) hm (by rw[sizeLine_eq];lia) λh1 tk U d O=>?_);have f:U.toList.length=ns.length:=by rw[vG,O.1,e]
 have o:=CK U.toList ns f λi v hv=>by
  obtain⟨k,x,p,e2⟩:=O.2 i v (by simpa using hv);have h:(aA.map (·.1))[i]? = some k:=by rw[vA,p];rfl
  rw[hk,vA]at h;obtain⟨m,r,rfl⟩:=oY h;obtain⟨t,rfl⟩:=Value.isInt_shape (k:=m) (v:=v) e2;exact⟨m,t,r,rr⟩
 refine wX (wpAny_newList ?_ (by rw[f,sizeLine_eq];lia));have g:(h1.push (seqObj "list" U.toList.toArray 0)).get? h1.objs.size=some _:=vY _ rr;refine wX (wpAny_holding (wpAny_call_entry slot_list_sort ⟨_,g,rr⟩ entry_list_sort (list_sort_tree g o (by rw[f];exact j) λout M y z B=>⟨_,rr,?_⟩) (args_list_sort _)));obtain⟨n,he⟩:=sortedHeap_at (out:=out) g;refine wY ⟨_,rr,l h1 _ _ _ out n M d (λb u q=>?_) (vT _) he y z B⟩;have hl:=vX q;rw[sortedHeap_old (vS hl) (by simp_all[lt_succ_of_lt])];exact vZ _ q
end
noncomputable def uF:LK->Option LI
 |[]=>some []
 |.inl n::ks=>(uF ks).map (n :: ·)
 |.inr _::_=>none
theorem zd:∀ {ks:LK}{ns:LI},uF ks=some ns->ks=ns.map .inl
 |[],_,h=>by cases h;rfl
 |.inl n::ks,_,h=>by
  obtain⟨r,h1,rfl⟩:=oY h;rw[zd h1];rfl
 |.inr _::_,_,h=>by cases h
def MP {aA:List (dB×V)}{vs:List (dB×Value)}(r:KV aA vs):vs.map (·.1)=aA.map (·.1):=by
 induction r with
 |nil=>rfl
 |cons h t M=>simp_all
@[simp] def IZ:LD->OB
 |[.dk ks _]=>(uF ks).bind λns=>if ns.length<64 then some (.lst ((pi ns).map .int),true)else none
 |_=>none
section
variable {X:Cx}
def FJ (hc:X.calm=true):b8 X (.builtin "sorted") (A8 X.K IZ):=by
 intro af s σ H xs us Q I r h;obtain⟨B,dl,d,bb,j,i,O,q⟩:=h;cases i with
 |nil=>simp at O
 |cons i1 i2=>
  cases i2 with
  |cons _ _=>simp_all
  |nil=>
   cases i1 with
   |@dk a ks vs ds ob hd hl hs=>
    obtain⟨u,rfl,l⟩:=fZ r;cases l
    refine eX O λns en O=>?_;split at O
    .rename_i U;cases O
     have c:=j _ _ hd;obtain⟨es,A,f⟩:=xc I.hok c;obtain⟨p,t,m⟩:=rg I.hok c f;have g:p.map (·.1)=ns.map .inl:=by rw[MP t,List.map_fst_zip N9,zd en]
     refine zc (I.ok.hd hc) (qB I.hok c).2.1 m g U λh1 h' tk b out n v k1 k2 hb he x M y=>?_;have e:=yS M y;subst e;have k:Inv X _ σ H { s with heap:=h1,toks:=tk }:=nW I k1 rr rr;have hf:=k.hok.fresh hb;have z:=Ext.laid (o:=.lst ((pi ns).map V.int)) j hf;exact⟨.ref b,_,k.laid k2 hb (show bf _ X.w _ h' _ (.lst _)from ⟨by rw[vI];unfold pi;rw[(a5 _ ns).length_eq,sizeLine_eq];lia,out.toList,n,fU x,he⟩),rr,q _ _ _ z (.lst (eO.of au) (mI _)) λ_=>⟨_,_,_,rr,rr,hf,au,mI _⟩⟩
    simp_all
   |_=>simp at O
def Rw (hu:X.A.units+1<cLine)(hi:JE X i fi)(ho:JE X o fo)(hm:behindInMarks .In o=false):JE X (.Compare i [.In] [o] pos) (f2 Zi fi fo):=by
 refine PE.to (Pu (Qf hu hi ho) hm) λσ H Q q=>?_;obtain⟨B,ρ,d,bb,b,r,M,q⟩:=q;refine eX M λy c M=>?_;refine eX M λx ex M=>?_;refine⟨B,ρ,y.1,y.2,b,r,c,λe f N1 O i2 _=>⟨N1,ρ,x.1,x.2,O.nh,r.mono O.bn,ex,λv H2 N2 U i1 g=>?_⟩⟩;obtain⟨xd,j⟩:=x;cases i1 with
 |@dk a ks vs ds ob h hl hs=>
  refine eR M λk hk M=>?_;cases M
  have hv:=pv i2 hk;subst hv;refine⟨a,jD _ k,rr,.inl ⟨_,k,_,.inl (U.nh _ _ h),rr,rr⟩,?_⟩;rw[u9 hl hs];exact(q.into (O.trans U)).one U.nh (.bl _)
 |_=>simp at M
end
end DL
namespace DL
open PySem PySem.Spec PyProof.Rows L2
@[simp] abbrev fV (i:Nat)(g:FA):FA:=ak (am i) g
@[simp] abbrev fI (n:Int):FE:=fC (.int n)
@[simp] abbrev fS (s:PySem.Str):FE:=fC (.str s)
def B4:typeLookup (.type "list_reverseiterator") "__len__" = pure none:=I9
def MQ:typeLookup (.type "list_reverseiterator") "__length_hint__" = pure (some (.builtin "list_reverseiterator.__length_hint__")):=I9
def rq:bootBuiltins "reversed" = some (.type "reversed"):=S9
section
variable {prog:Program}{w:World}{A:Around}{E:QV}{s:Shared}{l it:Addr}{items:AV}
def Ja {Q:Bool->Shared->Prop}(M:s.TypeIs (.ref it) "list_reverseiterator")(h:Q false s):wpAny (model prog w) A (Builtin.List.listLengthHint (.ref it)) Q E s:=by
 refine wX (wpAny_specialOf M B4 ?_);refine wX (wpAny_specialOf M MQ ?_);generalize O:("list_reverseiterator.__length_hint__" : String)=U;subst O;refine wX (wpAny_isInstance (b:=true) M N8 ?_);exact wY h
def tQ (hh:A.handled=none)(k:l≠it)(tE:s.heap.IsRevIter it l ((items.size:Int) - 1))(hl:s.heap.IsList l items)(hn:items.size<=sizeLine)
  (m:∀s' M f,(∀b o,b≠it->s.heap.get? b=some o->s'.heap.get? b=some o)->s'.gens=s.gens->s'.os=s.os->s'.heap.get? s.heap.objs.size=some (seqObj "list" M f)->M.toList=items.toList.reverse->Q (.ref s.heap.objs.size) s'):
  wpAny (model prog w) A (call (.type "list") [.ref it]) Q E s:=by
 have h:∀ {b o},s.heap.get? b=some o->b≠s.heap.objs.size:=λe=>vS (vX e);have n:it≠s.heap.objs.size:=by obtain⟨o,e,_⟩:=id tE;exact h e
 have p:l≠s.heap.objs.size:=by obtain⟨o,e,_⟩:=id hl;exact h e
 refine callType_codes (Q₁:=λobj a=>obj=.ref s.heap.objs.size/\a={ s with heap:=s.heap.push _ }) called_list (PySem.F.typeCall_list_1 _) PySem.F.entry_list_init
  (code_list_new _ ⟨rr,rr⟩) λobj a c=>?_
 obtain⟨rfl,rfl⟩:=c;have hS:(s.heap.push { cls:=.type "list",data:=.seq #[] }).get? s.heap.objs.size=some _:=vY _ rr;refine⟨⟨_,hS,rr⟩,PySem.F.args_list_init_2 _ _,?_⟩;refine wX ?_;unfold Builtin.List.listItems;refine wX (wpAny_seqItems hS rr (wY ?_));refine wX (wpAny_updateSeq hS rr ?_);have j:=Heap.get?_update_self (Obj.mapSeq (λ_=>(#[]:AV))) hS rr;have d:∀b o,s.heap.get? b=some o->((s.heap.push { cls:=.type "list",data:=.seq #[] }).update s.heap.objs.size (Obj.mapSeq (λ_=>(#[]:AV)))).get? b=some o:=λb o e=>(Heap.get?_update_other _ _ (Ne.symm (h e))).trans (vZ _ e);refine wX (wpAny_letGo ?_);generalize (s.heap.push _).update s.heap.objs.size _=g at j d |-;have O:=tE.at λo e=>d _ _ e;have q:g.IsList l items:=hl.at λo e=>d _ _ e;have W:=Walks.listRev (prog:=prog) (w:=w) (A:=A.in1.in1) hh it l k items;have r:s.heap.objs.size∉[it,l]:=by grind
 unfold Builtin.List.listExtendWith;refine wX (wpAny_typeOf (T:="list_reverseiterator") (show Shared.TypeIs { s with heap:=g } _ _ from Heap.IsRevIter.typeIs (s:={ s with heap:=g }) O) ?_);rw[if_neg (by simp[Builtin.List.listSameRef,n.symm])];refine wX (wpAny_pyIter_revIter O ?_);refine wX (wpAny_holding (Ja (Heap.IsRevIter.typeIs (s:={ s with heap:=g }) O) ?_));rw[if_neg H9];refine wY ⟨plainId_quiet plain_extend_loop _,codeAny_extend_loopS W.toS hn _ r _ items.size 0 _ _ _ rr (uN _) ⟨uN _,by simp_all,q⟩ j (ItemsOf.nil _) λs' M f hm t U=>?_⟩;refine⟨rr,m s' M f (λb o hb e=>hm.heap b o (λz=>?_) (d b o e)) hm.gens hm.os t ?_⟩
 .simp_all
 .apply ext_getElem?;intro i;by_cases hi:i<items.size
  .obtain⟨v,hv⟩:∃v,M[i]? = some v:=⟨_,Array.getElem?_eq_getElem (by rw[U.1];exact hi)⟩;rw[Array.getElem?_toList,hv,List.getElem?_reverse (by simpa using hi)];have:=U.2 i v hv;simp_all
  .rw[getElem?_eq_none (by rw[vG,U.1];lia),getElem?_eq_none s9]
end
@[simp] noncomputable def Vs:D->OB
 |.lst ds=>some (.lst ds.reverse,true)
 |_=>none
def aL.rev (h:aL vs us):aL vs.reverse us.reverse:=by
 induction h with
 |nil=>exact .nil
 |cons r _ M=>rw[reverse_cons,reverse_cons];exact M.append (.cons r .nil)
def IsL.rev {K:Frag}{B:Hp}{vs:LV}:∀ {ds:LD},IsL K B vs ds->IsL K B vs.reverse ds.reverse:=by
 induction vs with
 |nil=>intro ds h;cases h;exact .nil
 |cons v vs M=>intro ds h;cases h with|cons h t=>rw[reverse_cons,reverse_cons];exact(M t).append (.cons h .nil)
section
variable {X:Cx}{e:Expr}{pos p pos2 p2:Pos}
def B5 (O:X.calm=true)(hl:X.mg "list" = none)(hm:X.mg "reversed" = none)(he:JE X e f)(k:Gl X "list")(v:Gl X "reversed")
  (hs:cM e X.env)
  (U:starEach [.Call (.Name "reversed" p2) [e] [] pos2] X.env=[(false,eval (.Call (.Name "reversed" p2) [e] [] pos2) X.env)]):
  JE X (.Call (.Name "list" p) [.Call (.Name "reversed" p2) [e] [] pos2] [] pos) (f1 Vs f):=by
 intro af s σ H Q I q;obtain⟨B,ρ,d,bb,x,r,c,dQ⟩:=q;obtain⟨⟨xd,R⟩,ex,c⟩:=oX c;cases xd<;>try (cases c;done)
 rename_i ds;cases c
 refine wpAny_Call_Name_kw (fE I k hl wJ ?_ H9 H9);refine PyProof.Rows.callWith_type1 ?_ (by rw[U];rfl) rr;rw[U];refine Calls.spliced_cons ?_;refine wpAny_Call_Name_kw (fE I v hm rq ?_ H9 H9);refine PyProof.Rows.callWith_type1 (bJ (fM he lH hs pos2 af s σ H (λvs m=>∃N1,Ext B N1 H m/\IsL X.K N1 vs [.lst ds]) I ⟨B,ρ,[.lst ds],x,r,by simp[ak,ay,ex],λvs m N1 M i1=>⟨N1,M,i1⟩⟩) λus s1 ⟨vs,m,g,y,N1,M,i⟩=>?_) (by rw[hs];rfl) rr;cases i with
 |cons z A=>
  cases A
  cases z
  rename_i l ws h m1;obtain⟨S,rfl,C⟩:=fZ y;cases C
  refine g.lisE (M.nh.seq h) λits t pl D=>?_;have E:l<s1.heap.objs.size:=by obtain⟨o,j,_⟩:=pl.isList;exact vX j
  refine call_reversed_list pl.isList ?_;refine Calls.spliced_nil ?_;have hsz:(s1.heap.push (revObj l ((its.toArray.size:Int) - 1))).objs.size=s1.heap.objs.size+1:=size_push' _ _;refine tQ (g.ok.hd O) (vS E) ⟨_,vY _ rr,rr,rr⟩ (pl.isList.push _) (by rw[vH,<-t.length];exact D) λs' F G hk J n hS a=>?_;have k1:=λb o j=>hk b o (vS (vX j)) (vZ _ j);have hp:=g.hok.fresh (le_succ _);rw[hsz]at hS |-;have L:=nW (s1:={ s1 with drawn:=s'.drawn }) g (λ_ _ e=>e) rr rr;have u:=Ext.laid (o:=.lst ws.reverse) M.nh hp;obtain⟨h',g',d',N,P⟩:=s';cases J;cases n
  have i:=(IsL.rev m1).mono u.bn;refine⟨.ref (s1.heap.objs.size+1),_,L.laid (t':=N) k1 (le_succ _) (show bf X.prog X.w _ h' _ (.lst ws.reverse)from ⟨by simp_all,F.toList,G,?_,hS⟩),rr,dQ _ _ _ (M.trans u) (.lst (eO.of au) i) λ_=>⟨_,_,_,rr,rr,M.hh.free hp,au,i⟩⟩;rw[a];exact aL.rev t
end
@[simp] def OK (f g:FE):FE:=λρ=>(f ρ).bind λx=>(g ρ).bind λy=>match y with
 | (.lst ds,true)=>if aP x.1=true then some (.tup [x.1,.lst ds],true)else none
 |_=>none
def MT {X:Cx}{e U:Expr}{b}(he:JE X e f)(k:JE X U g)(hs:starEach [e,U] X.env=(false,eval e X.env)::starEach [U] X.env)(l:starEach [U] X.env=(false,eval U X.env)::starEach [] X.env):JE X (.Tuple [e,U] b pos) (OK f g):=by
 refine PE.to (wo (de he (de k fF l) hs)) λσ H Q q=>?_;obtain⟨B,ρ,d',bb,m,r,M,q⟩:=q;refine eX M λx ex M=>?_;refine eX M λy n M=>?_;split at M
 .rename_i ds;split at M
  .rename_i hx;cases M
   refine⟨B,ρ,x.1,x.2,m,r,ex,λv s N1 b i1 _=>⟨N1,ρ,_,_,b.nh,r.mono b.bn,n,λw H2 N2 d i2 f2=>⟨(by decide:2<=sizeLine),λt p=>?_⟩⟩⟩;obtain⟨a,vs,u,rfl,z,h3,h4,h5⟩:=f2 rr;cases z
   have c:=Ext.laid (o:=HO.tup [v,.ref a]) d.nh p;have h:=h5.mono c.bn;have n4:=c.bn _ _ h4;have i:IsL X.K (upd N2 t (.tup [v,.ref a])) [v,.ref a] [x.1,.lst ds]:=.cons (i1.mono (d.bn.trans c.bn)) (.cons (.lst (eO.of n4) h) .nil);refine q _ _ _ (b.trans (d.trans c)) (.tup (gR.of au) i) λ_=>⟨t,_,rr,gR.of au,i,λj es O=>?_⟩;match j,O with
   |0,O=>simp at O;rw[O]at hx;simp at hx
   |1,O=>simp at O;subst O;exact⟨a,vs,rr,b.hh.free h3,n4,h⟩
  simp_all
 simp_all
end DL
namespace L2
open PySem PySem.Spec PyProof.Rows
noncomputable def Zm (K:Frag)(a:Addr)(xs:List V):It:=⟨λi H=>eO K H a xs/\i<xs.length,λi H v H'=>H'=H/\xs[xs.length - 1 - i]? = some v,λi H=>eO K H a xs/\xs.length<=i⟩
def Jb {P:Program}{w:World}{K:Frag}{tg:Expr}(a it:Addr)(xs:List V):Turn P w K tg (Zm K a xs) [it] it (λi h=>i<=xs.length/\h.IsRevIter it a ((xs.length:Int) - 1 - (i:Int))) where
 mem:=X9
 obj:=λi h st b hb=>by
  have e:b=it:=by simpa using hb
  obtain⟨_,o,e,c,d⟩:=st;simp_all
 keep:=λi h h' st k=>⟨st.1,st.2.at λo e=>k it X9 o e⟩
 item:=by
  intro X j hw l hc i af s σ H E I hf st M;subst j hw l;obtain⟨hq,hi⟩:=M;obtain⟨x,hx⟩:∃x,xs[xs.length - 1 - i]? = some x:=⟨_,vU N9⟩;refine I.lisE hq λits m p hz=>?_;obtain⟨u,hu,ru⟩:=m.get hx;obtain⟨O,f1,f2,U,f,g⟩:=hf it X9;have tE:=st.2;rw[show(xs.length:Int) - 1 - (i:Int)=((xs.length - 1 - i:Nat):Int) by lia]at tE;refine wpAny_pyNext_rev_item tE p.isList (by simpa using hu) λh' n q=>?_;have r:=I.turned (t':=s.toks) (λb o hb e=>(q.2 b hb).trans e) O f1 U f g;obtain⟨o,e,c,d⟩:=id n;refine⟨u,rr,qt e c d H9 ⟨x,H,r,ru,⟨rr,hx⟩,⟨N9,?_⟩,λb hb=>(hf b hb).1⟩⟩;grind
 done:=by
  intro X j hw l hc i af s σ H E I hf st M;obtain⟨hq,hx⟩:=M;obtain⟨O,f1,f2,U,f,g⟩:=hf it X9;have tE:=st.2;rw[show(xs.length:Int) - 1 - (i:Int) = -1 by lia]at tE;exact wpAny_pyNext_rev_end (I.ok.hd hc) tE λh' t=>⟨rr,I.turned (λb o hb e=>t b o hb e) O f1 U f g⟩
 self:=λ_ _ _ _ _ st h=>wpAny_pyIter_revIter st.2 h
end L2
namespace DL
open PySem PySem.Spec PyProof.Rows L2
@[simp] noncomputable def MU (fa:FE):FA:=λρ=>(fa ρ).bind λx=>match x.1 with
 |.lst ds=>some ds.reverse
 |_=>none
def Rx {K:Frag}{N:Hp}{l:Addr}{vs:LV}{ds:LD}(h1:eO K N l vs)(i1:IsL K N vs ds):m4 K (Zm K l vs) N ds.reverse:=by
 intro i H' M;have n1:=i1.length;refine⟨λd ed=>?_,λhl=>⟨M.seq h1,by simp_all⟩⟩;have hi:=by have:=(vV ed).1;rwa [List.length_reverse]at this
 rw[List.getElem?_reverse hi]at ed;obtain⟨v,ev,iv⟩:=i1.get ed;refine⟨⟨M.seq h1,N9⟩,λr H2 hy=>?_⟩;obtain⟨rfl,e⟩:=hy;rw[show vs.length - 1 - i=ds.length - 1 - i by lia,ev]at e;cases e
 exact⟨N,.refl M,iv⟩
section
variable {X:Cx}{a e:Expr}{pos p:Pos}
def Ry {fa:FE}(hm:X.mg "reversed" = none)(ha:JE X a fa)(g:Gl X "reversed")(hs:cM a X.env):
  JI X tg (.Call (.Name "reversed" p) [a] [] pos) (MU fa):=by
 intro af s σ H R I q;refine Call_ (fE I g hm rq (PyProof.Rows.callWith_type1 (bJ (fM ha lH hs pos af s σ H (λvs M=>∃(l:Addr)(us:LV),vs=[.ref l]/\eO X.K M l us/\R (Zm X.K l us) M) I ?_) λus s1 ⟨vs,M,O,i,j⟩=>?_) hs rr))
 .obtain⟨B,ρ,ds,k,r,U,q⟩:=q;obtain⟨⟨xd,v⟩,ex,U⟩:=oX U;cases xd<;>try (cases U;done)
  rename_i c;cases U
  refine⟨B,ρ,[.lst c],k,r,by simp[ak,ay,ex],λvs M N1 d i1=>?_⟩;cases i1 with
  |cons m n=>
   cases n
   cases m
   rename_i l ws h m1;exact⟨l,ws,rr,d.nh.seq h,q _ M N1 d (Rx h m1)⟩
 .obtain⟨l,ws,rfl,h1,q⟩:=j;obtain⟨w,rfl,t⟩:=i.one;cases t
  refine O.lisE h1 λits f u x=>?_;refine call_reversed_list u.isList ?_;have tE:Heap.IsRevIter (s1.heap.push (revObj l _)) s1.heap.objs.size l ((its.toArray.size:Int) - 1):=⟨_,vY _ rr,rr,rr⟩;refine wpAny_pyIter_revIter tE ⟨s1.heap.objs.size,[s1.heap.objs.size],_,_,M,rr,O.kept (t':=s1.toks) λb o e=>vZ _ e,Jb l _ ws,⟨uN _,?_⟩,λb hb=>?_,q⟩
  .rw[vH,<-f.length]at tE;rw[show(ws.length:Int) - 1 - ((0:Nat):Int)=(ws.length:Int) - 1 by lia];rw[vH,<-f.length];exact tE
  .have e:=by simpa using hb
   subst e;exact O.fpOk (vT _) (O.hok.fresh (vT _))
end
structure FnD (P:Program)(w:World)(K:Frag)(mg:Str->Option Value)(base:Heap)(k:Nat)(x:Str)(f:List D->OB):Prop where
 ex:∃(ad:Addr)(fd:FuncData)(ps:List Str),t8 P w K mg base A7 k ad fd ps (KW K f)/\mg x=some (.ref ad)/\PySem.W.keepIn K (.ref ad)=true/\oR K fd ps []/\oR K fd ps [.none]
end DL
namespace DL
open PySem PySem.Spec PySem.W PyProof.Rows L2
def SY (ns:LI):Prop:=∀i∈ns,Builtin.Int.intBits i<=1048576
abbrev Vt:D->D->OB:=AX (λi j=>decide (Builtin.Int.intBits i<=2097152/\Builtin.Int.intBits j<=2097152)) λi j=>.int (i*j)
def Rz {X:Cx}:cH X (binaryOp .Mult) (rD X.K Vt):=m7 (TN λ_ _ _ _ _ _ _ hc q=>mul_int q (IntMulOk.of_le hc.1 hc.2 H9)) (λ_ _ h=>xQ h) λ_ _ _=>.int _
def R0 {ns:LI}(h:WData.layableAll [WData.list (ns.map WData.int)]=true):SY ns:=λi hi=>by
 have h1:=layableW_arg h _ (mem_singleton.mpr rr);have h2:=layableW_item h1 _ (uS ⟨i,hi,rr⟩);simp_all[WData.layable,WData.weight,Builtin.Int.intBits]
def walkB {l:PySem.W.OpenLaw}{q:Program}{O:LS}{E:SV->Heap->Prop}{C:World->Heap->Prop}{d:DefRec}{K:Params->Frag}{k:Nat}{x:Str}{f:LD->OB}{L:List (Str×Option (Addr×Addr))}(hn:l.most=some 63)(I:d.params.defaults=[])(hr:dF k callerA)
  (J:∀(w:World)(h:Heap),C w h->(K w.params).In h) (n:∀w:World,qq (K w.params) L) (Q:(L.all λp=>p.2.isNone || ((recsOf q).find? λe=>e.name == p.1).isSome)=true)
  (F:∀(w:World)(mg:SV)(fa:Addr)(h:Heap),(K w.params).In h->h.Ns mainGlobals mg->mg d.name=some (.ref fa) ->
   ∃fd:FuncData,(∀(s:Shared)(u:Value),BindsTo s fd ⟨[u],[]⟩ [(x,u)])/\∀base:Heap,(K w.params).In base->base.Ns mainGlobals mg->t8 l.prog w (K w.params) mg base A7 k fa fd [x] (KW (K w.params) f))
  (R:∀ns:LI,ns.length<=63->SY ns->∃b,f [.lst (ns.map .int)]=some (.bl true,b)):PySem.W.WalkO q O E C l.row.toRowW d [] (λf vs=>PySem.call f vs):=by
 intro w s₀ D mg mb G Y fa o pm cd doc dV kV ho hd Gy S t V args vals as i j X Z hlo;obtain⟨a,vs,ns,rfl,rfl,y,U,M⟩:=Att.ET hn i Z;have z:=J w _ Y;obtain⟨fd,hb,hF⟩:=F w mg fa _ z G.T.g t;refine enter_call (codeAny_mono (Ff (wL L) (λb u e=>?_) (n w).none z G.T.g G.T.b G.T.builtins G.T.nolimit G.T.bmain V y U (vR M H9) hr hF hb λH hH hS=>?_) λr s' hq=>?_)
 .obtain⟨p,hp,e2⟩:=mem_filterMap.mp (jL e);obtain⟨⟨c,P⟩,e3,e4⟩:=oY e2;cases e4
  have m:=uR Q p hp;rw[e3]at m;obtain⟨r,A⟩:=uU m;have B:PySem.W.tabIn (K w.params) p.1=some (c,P):=by
   rw[(n w).names]at hp;simp_all<;>lia
  obtain⟨h1,h2⟩:=PySem.W.tab_of G.T z A B;exact⟨h2,(h1.tab h2).isCodeTable⟩
 .obtain⟨b,e⟩:=R ns M (R0 j);exact⟨H,_,_,b,⟨.refl H,(n w).tb hH⟩,.cons (.lst hS (.flat rr)) .nil,e,λv H' N x' i' _=>by cases i';rfl⟩
 .obtain⟨rfl,h2,h3,h4⟩:=hq;exact⟨.inl ⟨.bool _,.bool _,[],rr,λ_=>rr,.bool _,Att.EU l _,λ_=>⟨List.Pairwise.nil,λ_ hm=>(nomatch hm)⟩⟩,h2,h3,h4⟩
structure OneK (α:Type)[DecidableEq α] where
 v:α->V
 ev:Value->α->Bool
 as:List D->Option (List α)
 rel:∀ {a:α}{u:Value},aC (v a) u->∀b,ev u b=decide (a=b)
 eq:∀ {A:Around}{s:Shared}{a b:α}{u u':Value},aC (v a) u->aC (v b) u'->PySem.SeqAt.EqAt A s u u' (ev u b)
 is:∀ {K:Frag}{B:Hp}{ws:List V}{ds:List D}{l:List α},IsL K B ws ds->as ds=some l->ws=l.map v
noncomputable def evI:Value->Int->Bool
 |.int a _,b=>decide (a=b)
 |_,_=>false
noncomputable def evS:Value->Str->Bool
 |.str a _,b=>decide (a=b)
 |_,_=>false
theorem Jc {K:Frag}{B:Hp}:∀ {ws:LV}{ds:LD}{l:LS},IsL K B ws ds->eP ds=some l->ws=l.map V.str
 |_,_,_,.nil,e=>by cases e;rfl
 |_,_,_,.cons i M,e=>by
  refine eX e λz O e=>?_;obtain⟨r,e2,rfl⟩:=oY e;rw[Jc M e2];cases i<;>try (cases O;done)
  simp_all
def okI:OneK Int:=⟨V.int,evI,ph,λ{a u} ⟨t,e⟩ b=>by subst e;rfl,λ{A s a b u u'} ⟨t,e⟩ ⟨t',M⟩=>by subst e;subst M;exact PySem.SeqAt.EqAt.int_int a t b t',Im⟩
def Zn:OneK Str:=⟨V.str,evS,eP,λ{a u} ⟨t,e⟩ b=>by subst e;rfl,λ{A s a b u u'} ⟨t,e⟩ ⟨t',M⟩=>by
 subst e;subst M;have:=PySem.SeqAt.EqAt.str_str (A:=A) (s:=s) a t b t';rw[show(a == b)=decide (a=b)from rr]at this;exact this,Jc⟩
section
variable {X:Cx}{α:Type}[DecidableEq α] (k:OneK α)
noncomputable def oq (l:List α)(b:α):Nat:=l.findIdx λa=>decide (a=b)
def Zo (K:Frag):V->LV->Hp->VK->Prop:=λx vs H Q=>∃(l:Addr)(as:List α)(b:α),x=.ref l/\vs=[k.v b]/\eO K H l (as.map k.v)/\oq as b<as.length/\Q (.int (oq as b:Nat)) H
theorem MV {vs:LV}{us:LU}(r:aL vs us):∀(i:Nat)(h:i<us.length),∃v,vs[i]? = some v/\aC v us[i]:=by
 induction r with
 |nil=>intro i h;cases h
 |cons M U O=>
  intro i h;cases i with
  |zero=>exact⟨_,rr,M⟩
  |succ i=>exact O i _
theorem R1:YE X "list.index" (Zo k X.K):=by
 intro af s σ H x vs v us Q I c d h;obtain⟨l,as,b,rfl,rfl,f,hk,q⟩:=h;cases c
 obtain⟨u,rfl,ru⟩:=d.one;obtain⟨its,r,⟨o,m,e,hc,U,hd⟩,z⟩:=I.list f;have hl:=r.length;rw[vI]at hl z;have at':∀(i:Nat)(hi:i<its.length),∃M:i<as.length,aC (k.v as[i]) its[i]:=λi hi=>by
  obtain⟨v,a,e2⟩:=MV r i hi;have M:i<as.length:=N9
  rw[vA,vU M]at a;cases a
  exact⟨M,e2⟩
 obtain⟨oc,od,g,nL⟩:=o;subst hc U hd;have hz:sizeLine<2 ^ 63 - 1:=H9
 have hj:oq as b<its.length:=N9
 refine call_meets PySem.F.slot_list_index ⟨_,e,rr⟩ PySem.F.entry_list_index (PySem.F.args_list_index_2 _ _)
  (PySem.SeqAt.list_indexAt l its.toArray m none nL u (λy=>k.ev y b) (oq as b) (by simpa using hj) N9 ?_ (λi M j=>?_)) ⟨e,λy hy=>?_,?_⟩
 .obtain⟨_,O⟩:=at' _ hj;simp only[List.getElem_toArray];rw[k.rel O];exact List.findIdx_getElem (w:=hk)
 .obtain⟨_,O⟩:=at' i (by simpa using M);simp only[List.getElem_toArray];rw[k.rel O];have:=List.not_of_lt_findIdx (xs:=as) j;simpa using this
 .obtain⟨i,M,rfl⟩:=List.mem_iff_getElem.mp (show y∈its by simpa using hy);obtain⟨_,O⟩:=at' i M;exact k.eq O ru
 .exact⟨.int (oq as b:Nat),H,I.tok _,⟨_,rr⟩,q⟩
@[simp] def R3:D->D->OB
 |.lst ds,y=>(k.as ds).bind λl=>(k.as [y]).bind λc=>match c with
  |[b]=>if oq l b<l.length then some (.int (oq l b:Nat),false)else none
  |_=>none
 |_,_=>none
variable {a e:Expr}
theorem Jd {cn bS:Pos}{fa f:FE}(ha:JE X a fa)(he:JE X e f)(O:attributeBase a "index" X.env (eval a X.env)=eval a X.env)
  (m:oQ bS e X.env)
  (U:(cn.endLine == bS.line)=true) (hs:cM e X.env):JE X (.Call (.Attribute a "index" cn) [e] [] bS) (f2 (R3 k) fa f):=by
 refine PE.to (xZ plainAttrs_list PySem.F.slot_list_index PySem.F.type_list_index (R1 k) ha (de he fF hs) O m U hs rr) λσ H Q q=>?_;obtain⟨B,ρ,d,bb,n,r,M,dQ⟩:=q;obtain⟨⟨xd,t⟩,ex,M⟩:=oX M;obtain⟨⟨u,x⟩,o,M⟩:=oX M;cases xd<;>try (cases M)
 refine eX M λas en M=>?_;refine eX M λc p M=>?_;split at M
 .rename_i b;split at M
  .rename_i hk;cases M
   refine⟨B,ρ,_,_,n,r,ex,λv y N1 i i1 f1=>?_⟩;cases i1
   rename_i l ws h m1;have s:=k.is m1 en;subst s;refine⟨.inl ⟨rr,_,i.nh.seq h⟩,N1,ρ,_,_,i.nh,r.mono i.bn,o,λw H2 N2 j i2 _=>?_⟩;have g:=i.trans j;exact⟨l,as,b,rr,k.is (.cons i2 .nil) p,j.nh.seq (j.bn.seq h),hk,(dQ.into g).one g.nh (.int _)⟩
  simp_all
 simp_all
end
end DL
namespace DL
open PySem PySem.Spec PyProof.Rows L2
section
variable {X:Cx}
def MW (I:Inv X af σ H s):∀(n:Nat){v:V}{d d':D},Is X.K H v d->Is X.K H v d'->aK n d=true->d=d':=by
 have M:∀ {p:D->Bool}(U:∀ {v:V}{d d':D},Is X.K H v d->Is X.K H v d'->p d=true->d=d') {vs:LV}{ds O:LD},IsL X.K H vs ds->IsL X.K H vs O->ds.all p=true->ds=O:=by
  intro p U vs;induction vs with
  |nil=>intro ds O h h' _;cases h;cases h';rfl
  |cons v vs a=>
   intro ds O h h' hp;cases h with
   |cons h1 h2=>
    cases h' with
    |cons h3 h4=>
     rw[all_cons,vC]at hp;rw[U h1 h3 hp.1,a h2 h4 hp.2]
 intro n;induction n with
 |zero=>
  intro v d d' h h' hp;cases h<;>cases h'<;>first|(cases hp;done)|rfl
 |succ n U=>
  intro v d d' h h' hp;cases h with
  |tup h1 h2=>
   cases h' with
   |tup h3 h4=>
    rw[I.tuple_inj h3 h1]at h4;rw[M U h2 h4 hp]
   |lst h3 h4=>exact(pU I h1 h3).elim
   |dk h3 _ _=>exact((m8 I h1).1 _ _ h3).elim
   |dt h3 _ _=>exact((m8 I h1).2 _ h3).elim
  |lst h1 h2=>
   cases h' with
   |lst h3 h4=>
    rw[I.list_inj h3 h1]at h4;rw[M U h2 h4 hp]
   |tup h3 h4=>exact(pU I h3 h1).elim
   |dk h3 _ _=>exact((m9 I h1).1 _ _ h3).elim
   |dt h3 _ _=>exact((m9 I h1).2 _ h3).elim
  |ty=>cases hp
  |dk=>cases hp
  |dt=>cases hp
  |_=>cases h';rfl
noncomputable def mL:D->Bool
 |.tup ds=>ds.all (aK 38)
 |_=>false
def R4:D->D->OB
 |x,.lst ds=>if mL x=true/\ds.all mL=true then some (.bl (!ds.any λd=>gS d x),false)else none
 |_,_=>none
def jR {d:D}(h:mL d=true):aK 39 d=true:=by
 cases d<;>first|exact h|cases h
open Classical in
def R5 (hu:X.A.units+40<cLine):cH X (compareOp .NotIn) (rD X.K R4):=by
 intro af s σ H x y v u Q I j k q;refine eS q λB dx G d b M l m e q=>?_;cases m<;>try (cases e;done)
 rename_i a vs ds hq hl;simp only[R4]at e;split at e
 .rename_i ha;cases e
  cases k
  refine I.lisE (M.seq hq) λits r pl hz=>?_;let f:Value->Bool:=λw=>decide (∃a d,w=.ref a/\Is X.K H (.ref a) d/\gS d dx=true);have O:∀ {vs:LV}{ds:LD}{us:LU},aL vs us->IsL X.K B vs ds->ds.all mL=true->us.any f=(ds.any λd=>gS d dx)/\∀w∈us,SeqAt.EqAt X.A.in1 s w v (f w):=by
   intro vs ds us r;induction r generalizing ds with
   |nil=>intro i _;cases i;exact⟨rr,λ_ h=>nomatch h⟩
   |@cons J n vs us U L o=>
    intro i h;cases i with|@cons _ d1 _ ds i1 p=>?_
    rw[all_cons,vC]at h;obtain⟨t,e2⟩:=o p h.2;have hp:=jR h.1;have c:f n=gS d1 dx:=by
     rw[Bool.eq_iff_iff];cases i1<;>try (cases h.1;done)
     rename_i N z C g l1;cases U
     constructor
     .intro h;obtain⟨P,d',D,E,F⟩:=xQ h;cases D
      rw[MW I 39 ((Is.tup g l1).mono M) E hp];exact F
     .exact λh=>mi ⟨_,_,rr,(Is.tup g l1).mono M,h⟩
    refine⟨by rw[any_cons,any_cons,t,c],λw hw=>?_⟩;rcases vP hw with rfl|hw
    .rw[c];exact(Hw I 39 (show X.A.units+1+39<cLine by lia) hp (jR ha.1) (i1.mono M) (l.mono M) U j).2.1
    .exact e2 w hw
  obtain⟨k1,k2⟩:=O r hl ha.2;refine SeqAt.notIn_listAt f pl.isList (λw hw=>k2 w (by simpa using hw)) ⟨.bl _,H,I,rr,?_⟩;rw[show its.toArray.any f=its.any f by simp,k1];exact q.one M (.bl _)
 .cases e
end
structure Gq where
 fs:List (Str×Nat×(List D->OB))
 cs:List (Str×D)
 ds:List (Str×List (Str×D))
 no:List Str
 ls:List Str
structure Gq.Ok (g:Gq)(P:Program)(w:World)(K:Frag)(mg:Str->Option Value)(base:Heap):Prop where
 hx:∃h,K.In h/\h.Ns mainGlobals mg
 fs:∀t∈g.fs,Fn P w K mg base t.2.1 t.1 t.2.2
 cs:∀t∈g.cs,KC K mg t.1 t.2
 ds:∀t∈g.ds,KD w K mg t.1 t.2
 no:∀x∈g.no,mg x=none
 ls:∀x∈g.ls,yU K x
structure Sq where
 g:Gq
 N:List Str
 sc:Scope
 cl:List Str
 k:Nat
 fn:Bool
 q:Option Str
structure Yq (S:Sq) where
 prog:Program
 w:World
 K:Frag
 mg:Str->Option Value
 base:Heap
 A:Around
 s:Shared
 H:Hp
 env:PySem.Env
 outer:List PySem.Env
 stack:List PySem.Env
 ex:List Addr
 rm:dF S.k A
 cl:∀x∈S.cl,(env.cells.lookup x).isSome
 nd:S.N.Nodup
 ok:S.g.Ok prog w K mg base
 ql:∀x,S.q=some x->env.qual=x ++ ".<locals>."/\∀c P,PySem.W.tabIn K x=some (c,P)->env.code=.ref c
noncomputable abbrev bV (S:Sq)(d:Yq S):Cx:=⟨d.prog,d.w,d.K,d.mg,d.base,d.A,S.N,d.s,d.H,{ d.env with scope:=S.sc },d.outer,d.stack,d.ex,λ_=>S.fn,true,[],λ_ _=>False⟩
abbrev rz (S:Sq)(e:Expr)(f:FE):Prop:=∀d:Yq S,JE (bV S d) e f
abbrev ze (S:Sq)(e:Expr)(f:FT):Prop:=∀d:Yq S,JT (bV S d) e f
abbrev OL (S:Sq)(e:Expr)(f:FT):Prop:=∀d:Yq S,JW (bV S d) e f
abbrev Je (S:Sq)(e:Stmt)(f:FS):Prop:=∀d:Yq S,JS (bV S d) e f
abbrev OM (S:Sq)(e:List Stmt)(f:FS):Prop:=∀d:Yq S,yj (bV S d) e f
structure Oj {α:Type}(J:α->Prop) where
 f:α
 ok:Bool
 p:ok->J f
abbrev bA {α:Type}(J:α->Prop):=LN->Option (Oj J×LN)
section
variable {α β γ δ:Type}{J J':α->Prop}{J1:β->Prop}{J2:γ->Prop}{J3:δ->Prop}
noncomputable def ca (k:Nat->bA J):bA J
 |[]=>none
 |i::h=>k i h
def CL:Nat->(LN->bA J)->bA J
 |0,k=>k []
 |n+1,k=>ca λi=>CL n λl=>k (i::l)
noncomputable def cC:(l:List β)->Nat->((a:β)->a∈l->bA J)->bA J
 |[],_,_=>λ_=>none
 |a::_,0,k=>k a mX
 |_::l,i+1,k=>cC l i λb h=>k b (mZ _ h)
def CM {a b:Bool}(h:(a && b)=true):a:=by simp_all
def CN {a b:Bool}(h:(a && b)=true):b:=by simp_all
noncomputable def dY (c:Prop)[Decidable c](f:α)(k:c->J f):bA J:=λh=>some (⟨f,decide c,λe=>k (xQ e)⟩,h)
noncomputable def px (k:∀x,J x->J' x)(m:bA J):bA J':=λh=>match m h with
 |some (⟨f,o,p⟩,h)=>some (⟨f,o,λe=>k f (p e)⟩,h)
 |none=>none
noncomputable def bU (c:Prop)[Decidable c](g:α->β)(k:c->∀x,J x->J1 (g x))(m:bA J):bA J1:=λh=>match m h with
 |some (⟨f,o,p⟩,h)=>some (⟨g f,decide c && o,λe=>k (xQ (CM e)) f (p (CN e))⟩,h)
 |none=>none
def cr (c:Prop)[Decidable c](g:α->β->γ)(k:c->∀x y,J x->J1 y->J2 (g x y))(m:bA J)(n:bA J1):bA J2:=λh=>match m h with
 |some (⟨f,o,p⟩,h)=>bU (c/\o) (g f) (λe y=>k e.1 f y (p e.2)) n h
 |none=>none
def zf (c:Prop)[Decidable c](g:α->β->γ->δ)(k:c->∀x y z,J x->J1 y->J2 z->J3 (g x y z))(m:bA J)(n:bA J1)(o:bA J2):bA J3:=λh=>match m h with
 |some (⟨f,b,p⟩,h)=>cr (c/\b) (g f) (λe y z=>k e.1 f y z (p e.2)) n o h
 |none=>none
end
abbrev pz (S:Sq)(i:Nat)(x:Str):Prop:=S.N[i]? = some x/\(S.sc.names.lookup x=some .local\/S.sc.names.lookup x=some .cell\/S.sc.names.lookup x=some .free)/\bj x/\ln x
abbrev gY (S:Sq)(i:Nat)(x:Str):Prop:=S.N[i]? = some x/\(S.sc.names.lookup x=some .local\/S.sc.names.lookup x=some .cell)/\(S.fn\/S.sc.names.lookup x=some .local)
abbrev r6 (S:Sq)(x y:Str):Prop:=x=y/\S.sc.names.lookup x=some .globalImplicit/\bj x
abbrev gp (S:Sq)(x y:Str):Prop:=r6 S x y/\x∈S.g.no/\x ≠ "__name__"
noncomputable def br:Expr->Bool
 |.Starred .. | .Slice .. | .Set .. | .SetComp .. | .DictComp ..=>false
 |_=>true
def rA:Expr->Bool
 |.ListComp ..=>false
 |e=>br e
noncomputable def ON:Expr->Bool
 |.UnaryOp .Not .. | .BoolOp .. | .IfExp .. | .Compare ..=>false
 |_=>true
noncomputable def uG:Expr->Bool
 |.Call _ [] ..=>false
 |_=>true
section
variable {e:Expr}{es:QD}{env:PySem.Env}{p:Pos}
def aQ (h:br e):dv e es env:=by cases e<;>first|rfl|cases h
theorem ot:∀ {es:QD},(∀e∈es,br e)->j8 p es env
 |[],_=>rr
 |e::es,h=>by
  have:=ot (es:=es) λa m=>h a (by simp[m]);rw[j8,aQ (h e X9)];simp_all [backTo]
def mM (h:br e)(x:Value):foldedSetIterable e env x=pure x:=by cases e<;>first|rfl|cases h
def jS {op:CmpOp}(h:br e):behindInMarks op e=false:=by cases e<;>first|rfl|cases h
def mN (h:br e):mr e:=by cases e<;>first|(intro _ _;rfl)|cases h
def iL {t:Expr}{n:Nat}(h:rA e):swapsWith e (some t) n env=pure false:=by cases e<;>first|rfl|cases h
def gu {a:Str}{w:Sem Value}(h:uG e):attributeBase e a env w=w:=by
 cases e with
 |Call f as=>cases as with
  |nil=>cases h
  |cons b l=>cases f<;>rfl
 |_=>rfl
def eY (h:br e):oQ p e env:=by
 rw[oQ,aQ h];rfl
def Jf (h:ON e)(M:Sem Value):isTrue e env M=(do let v <-M;standAt e.pos;holding [v] (truthy v)):=by
 cases e with
 |UnaryOp op=>cases op<;>first|rfl|cases h
 |_=>first|rfl|cases h
end
structure Bq where
 op:Operator
 f:D->D->OB
 p:∀ {X:Cx},cH X (binaryOp op) (rD X.K f)
structure Cq where
 op:CmpOp
 f:D->D->OB
 p:∀ {X:Cx},X.A.units+40<cLine->cH X (compareOp op) (rD X.K f)
structure Tq where
 x:Str
 n:String
 b:bootBuiltins x=some (.type n)
structure Fq where
 x:Str
 f:List D->OB
 c:∀ {X:Cx}{e:Expr}{es:List Expr}{fa:FA}{p q:Pos},X.calm->X.mg x=none->JA X (e::es) fa->Gl X x->x ≠ "__name__"->bj x->dv e es X.env->j8 q es X.env->JE X (.Call (.Name x p) (e::es) [] q) (fA f fa)
noncomputable def p0 {x:Str}{i:String}{f:LD->OB}(b:bootBuiltins x=some (.builtin i))(c:∀ {X:Cx},X.calm->b8 X (.builtin i) (A8 X.K f)):Fq:=⟨x,f,λh m a g n d s t=>Hy (c h) m b a g n d s t⟩
noncomputable def Jg {x:Str}{i:String}{f:LD->OB}(b:bootBuiltins x=some (.type i))(c:∀ {X:Cx},X.calm->b8 X (.type i) (A8 X.K f)):Fq:=⟨x,f,λh m a g n d s t=>Fc (c h) m b a g n d s t⟩
structure Uq where
 x:Str
 y:Str
 f:D->OB
 p:∀ {X:Cx}{e:Expr}{g:FE}{p p2 q q2:Pos},X.calm->X.mg x=none->X.mg y=none->JE X e g->Gl X x->Gl X y->cM e X.env->JE X (.Call (.Name x p) [.Call (.Name y p2) [e] [] q2] [] q) (f1 f g)
structure Mq where
 n:Str
 f:D->D->OB
 p:∀ {X:Cx}{o e:Expr}{fo fe:FE}{ap cp:Pos},X.A.units+1<cLine->JE X o fo->JE X e fe->uG o->br e->ap.endLine == cp.line->JE X (.Call (.Attribute o n ap) [e] [] cp) (f2 f fo fe)
def R6:List Bq:=[⟨_,_,U2⟩,⟨_,_,QJ⟩,⟨_,_,U6⟩,⟨_,_,QF⟩,⟨_,_,U4⟩,⟨_,_,Rz⟩,⟨_,_,Q7⟩,⟨_,_,U5⟩,⟨_,_,Rm⟩]
def B6:List Cq:=[⟨_,_,λ_=>UG⟩,⟨_,_,YY⟩,⟨_,_,λ_=>Za⟩,⟨_,_,λ_=>UF⟩,⟨_,_,λ_=>UI⟩,⟨_,_,YX⟩,⟨_,_,λ_=>Mi⟩,⟨_,_,λ_=>YT⟩,⟨_,_,λ_=>YS⟩,⟨_,_,λ_=>HD⟩,⟨_,_,Vg⟩,⟨_,_,R5⟩]
noncomputable def R7:List Tq:=[⟨_,_,UL⟩,⟨_,_,QG⟩,⟨_,_,Cv⟩,⟨_,_,UM⟩,⟨_,_,wJ⟩]
def R8:List Fq:=[p0 mB λ_=>wK,p0 O6 λ_=>UB,p0 UK λh=>US h,p0 mB λ_=>F3,Jg Cv λ_=>Mt,Jg Ro λh=>Rp h,p0 UU λh=>UT h,p0 qT λh=>FJ h,Jg wJ λ_=>QW,p0 UJ λh=>UO h,p0 qT λ_=>Il]
def R9:List Uq:=[⟨_,_,_,λa b c d e f g=>Bj a b c d e f g⟩,⟨_,_,_,λa b c d e f g=>Fv a b c d e f g⟩,⟨_,_,_,λa b c d e f g=>B5 a b c d e f g rr⟩]
def RA:List Mq:=[⟨_,_,λhu x y a b c=>IA hu x y ⟨gu a,eY b,c,by rw[aQ b];rfl⟩⟩,⟨_,_,λ_ x y a b c=>QN PySem.F.slot_str_join PySem.F.type_str_join QQ HP x y (gu a) (eY b) c (aQ b)⟩,⟨_,_,λ_ x y a b c=>Jd Zn x y (gu a) (eY b) c (aQ b)⟩,⟨_,_,λ_ x y a b c=>Jd okI x y (gu a) (eY b) c (aQ b)⟩]
structure Rj where
 E:∀S e,bA (rz S e)
 T:∀S e,bA (ze S e)
 W:∀S e,bA (OL S e)
noncomputable def Jh (o sc:Scope):Scope:={ sc with names:=sc.names.map λ(n,k)=>if(k == .free && o.kind == .function && o.names.lookup n == some .cell)then (n,.cell)else (n,k) }
noncomputable def Ji (sc:Scope):LS:=sc.names.filterMap λy=>if y.2=.free then some y.1 else none
def xh (S:Sq)(N:LS)(sc:Scope):Sq:=⟨S.g,N,Jh S.sc sc,Ji sc,S.k,false,S.q⟩
abbrev Vu (S:Sq)(N:LS)(sc M:Scope)(j i:Nat):Prop:=∃x∈N[j]?,S.N[i]? = some x/\(S.sc.names.lookup x=some .cell\/S.sc.names.lookup x=some .free)/\(M.names.lookup x=some .cell\/M.names.lookup x=some .free)/\(x,NameKind.free)∈sc.names/\x∈S.cl
noncomputable def rB (S:Sq)(N:LS)(sc M:Scope):Nat->LN->Bool
 |j,[]=>N.length=j
 |j,i::r=>Vu S N sc M j i && rB S N sc M (j+1) r
section
variable {S:Sq}{N:LS}{sc:Scope}
theorem ou (d:Yq S):∀ {cap:LN}{j:Nat},rB S N sc (Jh S.sc sc) j cap->ml (bV S d) N sc (dD sc.names d.env.cells []) j cap
 |[],_,h=>.nil (xQ h)
 |_::_,_,h=>let ⟨_,e,a,b,c,f,g⟩:=xQ (CM h);.cons e a b c (pT f (d.cl _ g)) (ou d (CN h))
abbrev Jj (S:Sq)(N:LS)(sc:Scope):Prop:=N.Nodup/\(∀y∈sc.names,y.2≠.cell)/\sc.kind=.function/\(∀y∈sc.names,y.2=.local->sc.names.lookup y.1=some .local)/\∀y∈sc.names,y.2=.free->y.1∈S.cl
def oy (d:Yq S)(h:∀z∈sc.names,z.2=.free->z.1∈S.cl):(sc.names.all λy=>!(y.2 == NameKind.free) || (d.env.cells.lookup y.1).isSome)=true:=by
 rw[all_eq_true];intro y hy;cases hk:y.2 == NameKind.free with
 |false=>rfl
 |true=>exact d.cl _ (h y hy (by simpa using hk))
def zg (d:Yq S)(h:∀z∈sc.names,z.2=.free->z.1∈S.cl):∀x∈Ji sc,((dD sc.names d.env.cells []).lookup x).isSome:=λx hx=>by
 obtain⟨⟨M,k⟩,hy,e⟩:=mem_filterMap.mp hx;split at e
 .rename_i hk;cases e
  cases hk
  rw[pT hy (d.cl _ (h _ hy rr))];exact d.cl _ (h _ hy rr)
 .cases e
def Yq.inn (d:Yq S)(h:Jj S N sc)(C:Addr)(s:Shared)(H:Hp)(fp:List Addr):Yq (xh S N sc):=⟨d.prog,d.w,d.K,d.mg,d.base,d.A,s,H,compEnvC sc (dD sc.names d.env.cells []) C { d.env with scope:=S.sc },d.stack,d.stack,fp,d.rm,zg d h.2.2.2.2,h.1,d.ok,d.ql⟩
end
section
variable (r:Rj) (S:Sq)
def rC:(es:QD)->bA λf=>∀d,JA (bV S d) es f
 |[]=>dY True ay λ_ _=>lH
 |e::es=>cr (br e) ak (λh _ _ x y d=>fM (x d) (y d) (aQ h)) (r.E S e) (rC es)
def OO:(e:Option Expr)->bA λf=>∀d,JO (bV S d) e f
 |none=>dY True lw λ_ _=>Mf
 |some e=>bU True jK (λ_ _ x d=>Mg (x d)) (r.E S e)
def Jk (i:Nat)(p:Pos):(a:Expr)->(ops:List CmpOp)->(bs:QD)->bA λf=>rz S (.Compare a ops bs p) f/\ze S (.Compare a ops bs p) (bP f)
 |a,[op],[b]=>cC B6 i λ⟨M,f,q⟩ _=>cr (op=M/\br b) (f2 f) (λ⟨h,k⟩ _ _ x y=>by
   subst h;exact⟨λd=>Qu (q (lg d.rm)) (x d) (y d) (jS k),λd=>Qv (q (lg d.rm)) (x d) (y d) (jS k)⟩) (r.E S a) (r.E S b)
 |a,[op,M],[b,c]=>ca λj=>cC B6 i λ⟨U,f,q⟩ _=>cC B6 j λ⟨e,g,O⟩ _=>zf (op=U/\M=e/\br c) (jG f g) (λ⟨h,h',k⟩ _ _ _ x y z=>by
   subst h h';have hm:lastMarks [op,M] [b,c]=false:=jS k;exact⟨λd=>Hq (q (lg d.rm)) (O (lg d.rm)) (x d) (y d) (z d) hm,λd=>Hr (q (lg d.rm)) (O (lg d.rm)) (x d) (y d) (z d) hm⟩) (r.E S a) (r.E S b) (r.E S c)
 |_,_,_=>λ_=>none
def OP (tg it:Expr):bA λf=>∀d,JI (bV S d) tg it f:=ca λi=>match i,tg,it with
  |0,_,e=>bU True c9 (λ_ _ x d=>QM (x d)) (r.E S e)
  |2,_,.Call (.Name x _) [a] [] _=>bU (gp S x "range"/\br a) lJ (λ⟨⟨⟨h,g⟩,m⟩,n⟩ _ x d=>by subst h;exact HI (d.ok.no _ m.1) (x d) g.1 (aQ n)) (r.E S a)
  |3,.Tuple ..,.Call (.Name x _) [a] [] _=>bU (gp S x "enumerate"/\br a) Ia (λ⟨⟨⟨h,g⟩,m⟩,n⟩ _ x d=>by subst h;exact Mw (d.ok.no _ m.1) (x d) g.1 (aQ n)) (r.E S a)
  |4,.Tuple ..,.Call (.Name x _) [a,b] [] _=>cr (gp S x "zip"/\br a/\br b) Fi (λ⟨⟨⟨h,g⟩,m⟩,n,k⟩ _ _ x y d=>by subst h;exact QT (d.ok.no _ m.1) (x d) (y d) g.1 (by rw[aQ n,aQ k];rfl) (aQ k)) (r.E S a) (r.E S b)
  |5,_,.Call (.Attribute e n ap) [] [] cp=>bU (n = "values"/\uG e/\ap.endLine == cp.line) xf (λ⟨h,n,l⟩ _ x d=>by subst h;exact MJ (x d) (gu n) l) (r.E S e)
  |6,.Tuple ..,.Call (.Attribute e n ap) [] [] cp=>bU (n = "items"/\uG e/\ap.endLine == cp.line) CJ (λ⟨h,n,l⟩ _ x d=>by subst h;exact IX (x d) (gu n) l) (r.E S e)
  |7,_,.Call (.Name x _) [a] [] _=>bU (gp S x "reversed"/\br a) MU (λ⟨⟨⟨h,g⟩,m⟩,n⟩ _ x d=>by subst h;exact Ry (d.ok.no _ m.1) (x d) g.1 (aQ n)) (r.E S a)
  |_,_,_=>λ_=>none
def Vv:(es:QD)->bA λf=>∀d,JC (bV S d) es f
 |[]=>dY True ym λ_ _=>Qo
 |[e]=>px (λ_ x d=>Qp (x d)) (r.T S e)
 |_=>λ_=>none
theorem CO (d:Yq S){i:Nat}{x:Str}{p:Pos}(h:gY S i x):PG (bV S d) (.Name x p) (iB i):=pgV i d.nd h.1 h.2.1 h.2.2
theorem OQ (d:Yq S){i j k:Nat}{x y:Str}{p q s:Pos}(h:gY S i x)(g:gY S j y):PG (bV S d) (.Tuple [.Name x p,.Name y q] k s) (GG d.K 2 (lK [i,j])):=AB rr (iC (CO S d h) (iC (CO S d g) wm))
def Vw:(tg:Expr)->Option ((N:LS) ×' (n:Nat) ×' (M:FG) ×' ∀S:Sq,(∀i (h:i<N.length),gY S i N[i])->∃t:Frag->TG,(∀d:Yq S,PG (bV S d) tg (t d.K))/\∀K,LP K n M (t K))
 |.Name x _=>some ⟨[x],1,eU 0,λ_ h=>⟨λ_=>iB 0,λd=>CO _ d (h 0 X9),λ_=>qF H9⟩⟩
 |.Tuple [.Name x _,.Name y _] _ _=>some ⟨[x,y],2,HQ [0,1],λ_ h=>⟨λK=>GG K 2 (lK [0,1]),λd=>OQ _ d (h 0 X9) (h 1 X9),λ_=>HS H9⟩⟩
 |_=>none
abbrev Vx (S:Sq)(e:Expr)(f:FE):Prop:=rz S e f/\∀y M sp i,gY S i y->(∀d:Yq S,swapsWith e (some (.Name y M)) sp.line (bV S d).env=pure true)->S.sc.names.lookup y=some .local->Je S (.Assign [.Name y M] e sp) (eM i f)
def Jl (U tg it:Expr)(e:QD)(f:Int)(sc:Scope)(p:Pos):bA (Vx S (.ListComp U [⟨tg,it,e,f⟩] sc p)):=ca λn=>CL n λcap=>match Vw tg with
 |none=>λ_=>none
 |some ⟨N,n,g,q⟩=>(λM h=>match OP r S tg it h with
  |none=>none
  |some (⟨fi,o,a⟩,h)=>cr (f=0/\br it/\o/\Jj S M sc/\rB S M sc (Jh S.sc sc) n cap/\∀i (h:i<N.length),gY (xh S M sc) i N[i]) (jw fi n cap g) (λ⟨h,hn,o,O,hc,j⟩ _ _ b c=>by
    subst h;obtain⟨t,pg,tg⟩:=q _ j;exact⟨λd=>Vo _ (a o d) (b (d.inn O _ _ _ _)) (c (d.inn O _ _ _ _)) (tg _) (pg (d.inn O _ _ _ _)) (ou d hc) (ML O.2.1 O.2.2.1 O.2.2.2.1 (oy d O.2.2.2.2)) rr λx=>mM hn x,
     λ_ _ _ _ hy hs hl d=>Vp _ d.nd (a o d) (b (d.inn O _ _ _ _)) (c (d.inn O _ _ _ _)) (tg _) (pg (d.inn O _ _ _ _)) (ou d hc) hy.1 hl (hs d) (ML O.2.1 O.2.2.1 O.2.2.2.1 (oy d O.2.2.2.2)) rr λx=>mM hn x⟩) (Vv r (xh S M sc) e) (r.E (xh S M sc) U) h) (N++cap.map (S.N.getD · ""))
end
section
variable (r:Rj) (S:Sq)
theorem Jm {q y:Str}{an:Option Expr}{ap:Pos}{b:Expr}{sc:Scope}{cl:List (Str×Addr)}{pm M u:Value}{c:Addr}:bindArgs (PySem.W.kla_fn "<lambda>" q ⟨[],[⟨y,an,ap⟩],none,[],[],none,[]⟩ b sc cl pm (.ref c) M) ⟨[u],[]⟩=pure [(y,u)]:=by
 have e:List.lookup y [(y,u)]=some u:=X9
 unfold bindArgs PySem.W.kla_fn;simp[e,seqItems?];rfl
theorem uH {S:Sq}{N:LS}{sc:Scope}(hn:∀z∈sc.names,z.2≠.cell)(d:Yq S):∀ {cap:LN}{j:Nat},rB S N sc sc j cap->kF (bV S d) N sc (dD sc.names d.env.cells []) j cap
 |[],_,h=>.nil (xQ h)
 |_::_,_,h=>let ⟨_,e,a,b,c,f,g⟩:=xQ (CM h);.cons e a b (c.resolve_left λz=>hn _ (PySem.mem_of_lookup z) rr) (pT f (d.cl _ g)) (uH hn d (CN h))
def Jn (S:Sq)(N:LS)(sc:Scope):Sq:=⟨S.g,N,sc,Ji sc,S.k - 3,false,none⟩
abbrev Jo (S:Sq)(N:LS)(sc:Scope)(y:Str)(cap:LN):Prop:=N.Nodup/\(∀z∈sc.names,z.2≠.cell)/\sc.kind=.function/\sc.isCoroutine=false/\sc.isGenerator=false/\sc.names.lookup y=some .local/\(∀z∈sc.names,z.2=.free->z.1∈S.cl)/\3<=S.k/\(∃x∈S.q,x∈jF/\x∈S.g.ls)/\rB S N sc sc 1 cap
theorem zh {S:Sq}{N:LS}{sc:Scope}{y:Str}{ap p:Pos}{an:Option Expr}{b:Expr}{U:FE}{cap:LN}(h:Jo S (y::N) sc y cap)(hb:rz (Jn S (y::N) sc) b U)(d:Yq S){A:Around}(e:A.frames=d.A.frames)(hr:dF (S.k - 3+1) A):
  JK (bV S d) A (.Lambda ⟨[],[⟨y,an,ap⟩],none,[],[],none,[]⟩ b sc p) (yW cap U):=
 let ⟨h1,h2,h3,h4,h5,g,a,_,⟨x,hx,i,M⟩,hc⟩:=h
 Rh i (d.ok.ls _ M) (d.ql x hx).2 (by show d.env.qual++_=_;rw[(d.ql x hx).1];rfl) rr (Vc h2 h3 h4 h5 g (oy d a)) rr (uH h2 d hc) e hr (λ_ _ _ _=>Jm) λf c s H O=>hb ⟨d.prog,d.w,d.K,d.mg,d.base,_,s,H,PySem.W.envX _ sc s.z f (.ref c) (dD sc.names d.env.cells []),d.stack,_,[],O,zg d a,h1,d.ok,λ_ z=>nomatch z⟩
def CP:(O:Expr)->bA λU=>∀d:Yq S,JK (bV S d) d.A.in1 O U/\JK (bV S d) d.A.in1.in1 O U
 |.Name x _=>ca λj=>cC S.g.fs j λ⟨y,k,F⟩ m=>dY (r6 S x y/\k+2<=S.k) (Fy F) λ⟨⟨e,h⟩,hk⟩ d=>by
   subst e;exact⟨OD (d.ok.fs _ m) ((d.rm.mono (vR (le_succ _) hk)).in1) rr h.1 h.2,OD (d.ok.fs _ m) ((d.rm.mono hk).in1.in1) rr h.1 h.2⟩
 |.Lambda ⟨[],[⟨y,an,ap⟩],none,[],[],none,[]⟩ b sc p=>ca λn=>CL n λcap=>bU (Jo S (y::cap.map (S.N.getD · "")) sc y cap) (yW cap) (λM _ q d=>by
    have hk:S.k - 3+2+1<=S.k:=by have:=M.2.2.2.2.2.2.2.1;lia
    exact⟨zh M q d rr ((d.rm.mono hk).in1.mono (le_succ _)),zh M q d rr (d.rm.mono hk).in1.in1⟩) (r.E (Jn S (y::cap.map (S.N.getD · "")) sc) b)
 |_=>λ_=>none
def RB (p:Pos):(f:Expr)->(as:QD)->(ks:List Keyword)->bA (rz S (.Call f as ks p))
 |.Name x _,e::es,[]=>ca λi=>
  if i<100 then cC S.g.fs i λ⟨y,k,F⟩ m=>bU (r6 S x y/\k<=S.k/\∀a∈e::es,br a) (fA F) (λ⟨⟨u,h⟩,hk,hn⟩ _ a d=>by
   subst u;exact Vl (d.ok.fs _ m) d.rm (a d) hk h.1 h.2 (aQ (hn e X9)) (ot λa m=>hn a (by simp[m]))) (rC r S (e::es))
  else if i<140 then cC R8 (i - 100) λ⟨y,f,c⟩ _=>bU (gp S x y/\∀a∈e::es,br a) (fA f) (λ⟨⟨⟨u,h⟩,k⟩,hn⟩ _ a d=>by
   subst u;exact c rr (d.ok.no _ k.1) (a d) h.1 k.2 h.2 (aQ (hn e X9)) (ot λa m=>hn a (by simp[m]))) (rC r S (e::es))
  else match e,es with
   |.Call (.Name y _) [e] [] _,[]=>cC R9 (i - 140) λ⟨O,U,f,q⟩ _=>bU (gp S x O/\gp S y U/\br e) (f1 f) (λ⟨⟨⟨u,h⟩,k⟩,⟨⟨v,g⟩,l⟩,n⟩ _ a d=>by
    subst u v;exact q rr (d.ok.no _ k.1) (d.ok.no _ l.1) (a d) h.1 g.1 (aQ n)) (r.E S e)
   |.Call (.Name y _) [a,b] [] _,[]=>cr (gp S x "list"/\gp S y "zip"/\br a/\br b) fLZ (λ⟨⟨⟨u,h⟩,k⟩,⟨⟨v,g⟩,l⟩,n,m⟩ _ _ a b d=>by
    subst u v;exact Bw rr (d.ok.no _ k.1) (d.ok.no _ l.1) (a d) (b d) h.1 g.1 (by rw[aQ n,aQ m];rfl) (aQ m) rr) (r.E S a) (r.E S b)
   |_,_=>λ_=>none
 |.Name x _,[e],[⟨some ka,M,_⟩]=>ca λi=>match i with
  |0=>cr (gp S x "max"/\ka = "key"/\br e) CB (λ⟨⟨⟨u,h⟩,k⟩,v,n⟩ _ _ a b d=>by
   subst u v;exact OG mmx (d.ok.no _ k.1) (a d) (b d).1 d.rm h.1 (aQ n)) (r.E S e) (CP r S M)
  |1=>cr (gp S x "min"/\ka = "key"/\br e) CC (λ⟨⟨⟨u,h⟩,k⟩,v,n⟩ _ _ a b d=>by
   subst u v;exact OG mmn (d.ok.no _ k.1) (a d) (b d).1 d.rm h.1 (aQ n)) (r.E S e) (CP r S M)
  |3=>cr (gp S x "sorted"/\ka = "key"/\br e) B1 (λ⟨⟨⟨u,h⟩,k⟩,v,n⟩ _ _ a b d=>by
   subst u v;exact OE (IU (lg d.rm)) (d.ok.no _ k.1) (a d) (b d).2 h.1 (aQ n)) (r.E S e) (CP r S M)
  |_=>cr (gp S x "sorted"/\ka = "key"/\br e) wZ (λ⟨⟨⟨u,h⟩,k⟩,v,n⟩ _ _ a b d=>by
   subst u v;exact OE Ri (d.ok.no _ k.1) (a d) (b d).2 h.1 (aQ n)) (r.E S e) (CP r S M)
 |.Attribute o n ap,[e],[]=>ca λi=>match i,o,e with
  |9,o,.Tuple es _ _=>cr (n = "get"/\uG o/\ap.endLine == p.line) IN (λ⟨u,a,l⟩ _ _ x y d=>by subst u;exact IP (OJ (lg d.rm)) (x d) (y d) ⟨gu a,rr,l,rr⟩) (r.E S o) (rC r S es)
  |i+10,.Subscript (.Name x _) b _,e=>cC S.g.ds i λ⟨y,c⟩ m=>cr (r6 S x y/\n = "index"/\br b/\br e/\ap.endLine == p.line) (f2 (lP c)) (λ⟨⟨u,h⟩,v,hb,he,hl⟩ _ _ a b d=>by
   subst u v;exact M4 (d.ok.ds _ m) (a d) (b d) h.1 h.2 (mN hb) rr (eY he) hl (aQ he)) (r.E S b) (r.E S e)
  |i,o,e=>cC RA i λ⟨j,f,q⟩ _=>cr (n=j/\uG o/\br e/\ap.endLine == p.line) (f2 f) (λ⟨u,a,b,l⟩ _ _ x y d=>by subst u;exact q (OJ (lg d.rm)) (x d) (y d) a b l) (r.E S o) (r.E S e)
 |_,_,_=>λ_=>none
def RC:(e:Expr)->bA (rz S e)
 |.Name x _=>ca λi=>
  if i<50 then dY (pz S i x) (am i) λh _=>Qq i h.1 h.2.1 h.2.2.1 h.2.2.2
  else if i<80 then cC S.g.cs (i - 50) λ⟨y,c⟩ m=>dY (r6 S x y) (fC c) λ⟨u,h⟩ d=>by subst u;exact Hz (d.ok.cs _ m) h.1 h.2
  else cC R7 (i - 80) λ⟨y,n,b⟩ _=>dY (gp S x y) (fC (.ty n)) λ⟨⟨u,h⟩,k⟩ d=>by subst u;exact UC (d.ok.no _ k.1) b h.1 k.2 h.2
 |.Constant (.int _) ..=>dY True _ λ_ _=>Qr
 |.Constant (.bool _) ..=>dY True _ λ_ _=>Uu
 |.Constant .none ..=>dY True _ λ_ _=>Qs
 |.Constant (.str _) ..=>dY True _ λ_ _=>Qt
 |.BoolOp _ [a] _=>px (λ_ x d=>Q2 (x d)) (r.E S a)
 |.BoolOp .And (a::b::t) p=>cr True Hs (λ_ _ _ x y d=>Q1 (x d) (y d)) (r.E S a) (r.E S (.BoolOp .And (b::t) p))
 |.BoolOp .Or (a::b::t) p=>cr True Uy (λ_ _ _ x y d=>Uz (x d) (y d)) (r.E S a) (r.E S (.BoolOp .Or (b::t) p))
 |.UnaryOp .Not a _=>bU True Ht (λ_ _ x d=>Q3 (x d)) (r.E S a)
 |.UnaryOp .USub a _=>bU True (f1 HA) (λ_ _ x d=>Uw UH (x d)) (r.E S a)
 |.BinOp a op b _=>ca λi=>cC R6 i λ⟨M,f,q⟩ _=>cr (op=M) (f2 f) (λh _ _ x y d=>by subst h;exact Uv q (x d) (y d)) (r.E S a) (r.E S b)
 |.Compare a ops bs p=>ca λi=>if i<20 then px (λ_ h=>h.1) (Jk r S i p a ops bs)else match ops,bs with
  |[.In],[b]=>cr (br b) (f2 Zi) (λh _ _ x y d=>Rw (OJ (lg d.rm)) (x d) (y d) (jS h)) (r.E S a) (r.E S b)
  |_,_=>λ_=>none
 |.Subscript a (.Slice lo hi none _) _=>zf True G6 (λ_ _ _ _ x y z d=>HM (x d) (y d) (z d)) (r.E S a) (OO r S lo) (OO r S hi)
 |.Subscript a b _=>ca λi=>match i,a with
  |0,a=>cr (br b) (f2 fu) (λh _ _ x y d=>UA (x d) (y d) (mN h)) (r.E S a) (r.E S b)
  |1,a=>cr (br b) (f2 SW) (λh _ _ x y d=>Rn (OJ (lg d.rm)) (x d) (y d) (mN h)) (r.E S a) (r.E S b)
  |i+2,.Name x _=>cC S.g.ds i λ⟨y,c⟩ m=>bU (r6 S x y/\br b) (f1 (y7 c)) (λ⟨⟨u,h⟩,n⟩ _ x d=>by subst u;exact Mr (d.ok.ds _ m) (x d) h.1 h.2 (mN n)) (r.E S b)
  |_,_=>λ_=>none
 |.Tuple es _ _=>bU True (fA dN) (λ_ _ x d=>Q4 (x d)) (rC r S es)
 |.List es _=>bU True (fA f6) (λ_ _ x d=>Q5 (x d)) (rC r S es)
 |.ListComp O [⟨tg,it,U,j⟩] sc p=>px (λ_ h=>h.1) (Jl r S O tg it U j sc p)
 |.Call f as ks p=>RB r S p f as ks
 |_=>λ_=>none
def RD:(e:Expr)->bA (ze S e)
 |.UnaryOp .Not a _=>bU True mz (λ_ _ x d=>Q0 (x d)) (r.T S a)
 |.BoolOp op es p=>px (λ_ x d=>YK (x d)) (r.W S (.BoolOp op es p))
 |.Compare a ops bs p=>ca λi=>if i<20 then bU True bP (λ_ _ h=>h.2) (Jk r S i p a ops bs)else match i,ops,bs with
  |20,[.NotIn],[b]=>bU True bP (λ_ _ x=>x) (cr (J2:=λf=>ze S (.Compare a [.NotIn] [b] p) (bP f)) (br b) (f2 Bu) (λh _ _ x y d=>F4 (OJ (lg d.rm)) (x d) (y d) (jS h)) (r.E S a) (r.E S b))
  |i,[.NotIn],[.Name x q]=>cC S.g.ds (i - 30) λ⟨y,c⟩ m=>bU True bP (λ_ _ x=>x) (bU (J1:=λf=>ze S (.Compare a [.NotIn] [.Name x q] p) (bP f)) (r6 S x y) (f1 (Bd c)) (λ⟨u,h⟩ _ x d=>by subst u;exact Fx (d.ok.ds _ m) (x d) h.1 h.2 rr) (r.E S a))
  |_,_,_=>λ_=>none
 |e=>bU (ON e) bP (λh _ x d=>Qw (x d) (Jf h)) (r.E S e)
def RE:(e:Expr)->bA (OL S e)
 |.BoolOp .Or [a] _=>px (λ_ x d=>Qy (x d)) (r.T S a)
 |.BoolOp .Or (a::b::t) p=>cr True lG (λ_ _ _ x y d=>Ux (x d) (y d)) (r.T S a) (r.W S (.BoolOp .Or (b::t) p))
 |.BoolOp .And [a] _=>px (λ_ x d=>LZ (x d)) (r.T S a)
 |.BoolOp .And (a::b::t) p=>cr True iE (λ_ _ _ x y d=>Qz (x d) (y d)) (r.T S a) (r.W S (.BoolOp .And (b::t) p))
 |_=>λ_=>none
end
def CQ:Nat->Rj
 |0=>⟨λ_ _ _=>none,λ_ _ _=>none,λ_ _ _=>none⟩
 |n+1=>⟨RC (CQ n),RD (CQ n),RE (CQ n)⟩
def OR (S:Sq):(tg:Expr)->bA λM=>∀d:Yq S,∃t,PG (bV S d) tg t/\KU d.K M t
 |.Name x _=>ca λi=>dY (gY S i x) (eU i) λh d=>⟨_,CO S d h,Hm⟩
 |.Tuple [.Name x _,.Name y _] _ _=>ca λi=>ca λj=>dY (gY S i x/\gY S j y) (HQ [i,j]) λh d=>⟨_,OQ S d h.1 h.2,UX⟩
 |_=>λ_=>none
section
variable (B:∀S b,bA (OM S b)) (S:Sq)
abbrev dP:Rj:=CQ 24
def Jp (p:Pos)(tg it:Expr)(b:List Stmt):bA (Je S (.For tg it b [] p)):=ca λi=>match i,it with
 |0,it=>zf (br it) EZ (λh _ _ _ x y z d=>let ⟨_,a,k⟩:=y d;Vq (x d) a k (z d) PassesOwn.never rr λx=>mM h x) (OP dP S tg it) (OR S tg) (B S b)
 |_,.Call (.Name x _) [a] [] _=>zf (gp S x "range"/\br a) ug (λ⟨⟨⟨u,h⟩,k⟩,n⟩ _ _ _ x y z d=>by
   subst u;obtain⟨t,a,l⟩:=y d;exact Vr (x d h.1 (d.ok.no _ k.1) (aQ n)) a l (z d) PassesOwn.never rr λx=>mM rr x)
   (bU (J1:=λf=>∀d:Yq S,Gl (bV S d) "range"->d.mg "range" = none->starEach [a] (bV S d).env=[(false,eval a (bV S d).env)]->∀ {p q:Pos},PI (bV S d) tg (.Call (.Name "range" q) [a] [] p) (Ut d.K f)) True lJ (λ_ _ x d h m n _ _=>yw m (x d) h n) (dP.E S a)) (OR S tg) (B S b)
 |_,_=>λ_=>none
def Jq:(st:Stmt)->bA (Je S st)
 |.Return (some e) _=>ca λi=>match i,e with
  |0,e=>bU True yg (λ_ _ x d=>Hu (x d)) (dP.E S e)
  |90,.Tuple [a,b] _ _=>bU True yg (λ_ _ x d=>Hu (x d)) (cr (J2:=rz S (.Tuple [a,b] _ _)) (br a/\br b) OK (λh _ _ x y d=>MT (x d) (y d) (aQ h.1) (aQ h.2)) (dP.E S a) (dP.E S b))
  |i+1,.Name x _=>dY (pz S i x) (oV i) λh _=>Mb i h.1 h.2.1 h.2.2.1 h.2.2.2
  |_,_=>λ_=>none
 |.If c a b _=>zf True AU (λ_ _ _ _ x y z d=>U8 (x d) (y d) (z d)) (dP.T S c) (B S a) (B S b)
 |.Assign [.Name x q] (.ListComp M [⟨tg,it,O,U⟩] sc p) sp=>ca λi=>if i<50 then bU (gY S i x/\S.sc.names.lookup x=some .local/\S.sc.kind=.function/\(q.line == p.line)/\(sc.names.any λ(n,k)=>n == x && (k == .local || k == .cell))=false) (eM i) (λh _ y=>y.2 _ _ _ _ h.1 (λd=>by
   show pure ((if S.sc.kind.isAnnotationScope then ScopeKind.function else S.sc.kind) == ScopeKind.function && S.sc.names.lookup x == some NameKind.local && q.line == p.line && !(sc.names.any λ(n,k)=>n == x && (k == .local || k == .cell)))=_;rw[h.2.2.2.2,h.2.2.2.1,h.2.1,h.2.2.1];rfl) h.2.1) (Jl dP S M tg it O U sc p)
  else λ_=>none
 |.Assign [.Name x _] (.Dict [] [] _) _=>ca λv=>ca λi=>match v with
  |0=>dY (gY S i x) (IB i) λh d=>MD d.nd h.1 h.2.1 rr h.2.2
  |1=>dY (gY S i x) (IC i) λh d=>ME d.nd h.1 h.2.1 rr h.2.2
  |_=>λ_=>none
 |.Assign [.Name x _] e _=>ca λv=>ca λi=>match v with
  |0=>bU (gY S i x/\rA e) (eM i) (λh _ x d=>QB d.nd (x d) h.1.1 h.1.2.1 (iL h.2) h.1.2.2) (dP.E S e)
  |1=>bU (gY S i x/\rA e) (Cn i) (λh _ x d=>Mc d.nd (x d) h.1.1 h.1.2.1 (iL h.2) h.1.2.2) (dP.E S e)
  |_=>λ_=>none
 |.Assign [.Subscript (.Name y _) k _] e _=>ca λv=>ca λi=>match v,k with
  |0,k=>cr (pz S i y/\br k/\rA e) (Mu i) (λh _ _ x z d=>QX (z d) (x d) h.1.1 h.1.2.1 h.1.2.2.1 h.1.2.2.2 (by have:=h.2.1;intro _;cases k<;>first|rfl|cases this) (by unfold swapsWithSole;exact iL h.2.2) rr rr) (dP.E S k) (dP.E S e)
  |1,k=>cr (pz S i y/\rA e) (yZ i) (λh _ _ x z d=>MF (OJ (lg d.rm)) (z d) (x d) h.1.1 h.1.2.1 h.1.2.2.1 h.1.2.2.2 (iL h.2)) (dP.E S k) (dP.E S e)
  |2,k=>cr (pz S i y/\rA e) (ro i) (λh _ _ x z d=>IY (OJ (lg d.rm)) (z d) (x d) h.1.1 h.1.2.1 h.1.2.2.1 h.1.2.2.2 (iL h.2)) (dP.E S k) (dP.E S e)
  |3,.Tuple es _ _=>cr (pz S i y/\rA e) (uC i) (λh _ _ x z d=>MG (OJ (lg d.rm)) (z d) (x d) h.1.1 h.1.2.1 h.1.2.2.1 h.1.2.2.2 (iL h.2)) (rC dP S es) (dP.E S e)
  |_,_=>λ_=>none
 |.For tg it b [] p=>ca λn=>match n with
  |0=>Jp B S p tg it b
  |n=>CL n λu=>bU True (UZ u) (λ_ _ x d=>Va u (x d)) (Jp B S p tg it b)
 |.While c b [] _=>ca λn h=>match dP.T S c h with
  |none=>none
  |some (⟨f,o,p⟩,h)=>match B S b h with
   |none=>none
   |some (⟨g,o',j⟩,h)=>some (⟨c6 f g n,o && o',λe d=>Hv n PassesOwn.never (p (CM e) d) (j (CN e) d)⟩,h)
 |.Expr (.Call (.Attribute (.Name x _) m ap) [e] [] cp) _=>ca λv=>ca λi=>match v with
  |0=>bU (pz S i x/\m = "append"/\br e/\ap.endLine == cp.line) (wB i) (λ⟨h,u,n,l⟩ _ x d=>by subst u;exact QE (x d) h.1 h.2.1 h.2.2.1 h.2.2.2 rr (eY n) l (aQ n) rr) (dP.E S e)
  |1=>bU (pz S i x/\m = "extend"/\br e/\ap.endLine == cp.line) (HY i) (λ⟨h,u,n,l⟩ _ x d=>by subst u;exact QY (x d) h.1 h.2.1 h.2.2.1 h.2.2.2 rr (eY n) l (aQ n) rr) (dP.E S e)
  |_=>λ_=>none
 |.Raise ..=>dY True qL λ_ _=>HW
 |.Continue _=>dY True HV λ_ _=>Mp
 |_=>λ_=>none
end
def rE:Nat->∀S b,bA (OM S b)
 |0,_,_=>λ_=>none
 |_+1,_,[]=>dY True qE λ_ _=>Q9
 |n+1,S,[st]=>px (λ_ x d=>QA (x d)) (Jq (rE n) S st)
 |n+1,S,st::t::l=>cr True ce (λ_ _ _ x y d=>Ma (x d) (y d)) (Jq (rE n) S st) (rE n S (t::l))
noncomputable def B7 {α:Type}{J:α->Prop}:Option (Oj J×LN)->Option α
 |some (⟨f,_,_⟩,_)=>some f
 |none=>none
noncomputable def B8 {α:Type}{J:α->Prop}:Option (Oj J×LN)->Bool
 |some (⟨_,o,_⟩,_)=>o
 |none=>false
theorem MX {α:Type}{J:α->Prop}{g:α}:∀ {o:Option (Oj J×LN)},B8 o=true->J ((B7 o).getD g)
 |some (⟨_,_,p⟩,_),k=>p k
@[simp] noncomputable abbrev aw (o:Option FS)(g:FS)(_:o=some g):FS:=g
noncomputable def Vy (n:Nat)(l:List Stmt):List Stmt:=
 match l[n / 2]?,n % 2 with
 |some (.For _ _ b _ _),_=>b
 |some (.While _ b _ _),_=>b
 |some (.If _ a _ _),0=>a
 |some (.If _ _ b _),_=>b
 |_,_=>[]
structure Wq where
 G:Gq
 x:Str
 st:Stmt
 N:List Str
 k:Nat
 h:List Nat
def Wq.S (w:Wq):Sq:=⟨w.G,w.N,aH w.st,(aH w.st).names.filterMap λy=>if(aH w.st).names.lookup y.1=some .cell then some y.1 else none,w.k,true,if w.x∈w.G.ls then some w.x else none⟩
def Wq.r (w:Wq):Option FS:=B7 (rE 40 w.S (bT w.st) w.h)
def Wq.b (w:Wq)(l h:LN):Option FS:=B7 (rE 40 w.S (l.foldl (λl n=>Vy n l) (bT w.st)) h)
noncomputable def Wq.gt (w:Wq)(F:LD->OB):Gq:=⟨(w.x,w.k+1,F)::w.G.fs,w.G.cs,w.G.ds,w.G.no,w.G.ls⟩
section
variable {P:Program}{w:World}{K:Frag}{mg:SV}{base:Heap}
abbrev a6 (w:World)(K:Frag)(mg:SV)(g:Gq):Prop:=∀ {P base},g.Ok P w K mg base
def Wq.js (W:Wq)(o:B8 (rE 40 W.S (bT W.st) W.h))(M:W.G.Ok P w K mg base)
  {f:Addr}{dR:Value}{A:Around}{outer:List PySem.Env}{s:Shared}{H:Hp}{E:XK}(nd:W.N.Nodup) (hr:dF W.k (A.deeper (envOfC W.x (aH W.st) s.z f dR))) (hc:W.x∈W.G.ls->∀c P,PySem.W.tabIn K W.x=some (c,P)->dR=.ref c):
  yj (qw A7 P w K mg base W.N W.x (aH W.st) f dR A outer s H E).nox (bT W.st) (W.r.getD qL):=by
 refine MX o ⟨P,w,K,mg,base,_,s,H,envOfC W.x (aH W.st) s.z f dR,outer,envOfC W.x (aH W.st) s.z f dR::outer,[],hr,λy hy=>?_,nd,M,λy e=>?_⟩
 .obtain⟨z,hz,e⟩:=mem_filterMap.mp hy;split at e
  .cases e;exact Option.isSome_iff_exists.mpr (qx ‹_›)
  .cases e
 .have e:(if W.x∈W.G.ls then some W.x else none)=some y:=e;split at e
  .cases e;exact⟨rr,hc ‹_›⟩
  .cases e
def Wq.o {O:LD->OB}(W:Wq)(F:bQ K W.x W.st)(U:a6 w K mg W.G)(n:Nat)
  (o:B8 (rE 40 W.S (bT W.st) W.h):=by decide +kernel)
  (S:FnScope W.N (W.N.take n) (aH W.st):=by refine⟨rr,rr,rr,?_,rr,?_,?_⟩<;>decide +kernel)
  (M:∀(kV doc pm:Value)(an:Option Addr)(dR ct:Value)(us:LU),us.length=(W.N.take n).length->bindArgs (fnOf W.x W.x (fL W.st) (bT W.st) (aH W.st) .none kV doc pm an dR ct) ⟨us,[]⟩=pure ((W.N.take n).zip us):=by
   exact λ_ _ _ _ _ _=>Rv _ _ (by(repeat intro);rfl))
  (e:ax (W.r.getD qL) (W.N.take n).length (W.N.length - (W.N.take n).length)=O:=by kernel_rfl):a6 w K mg (W.gt O):=λ{P base}=>
 have q:W.G.Ok P w K mg base:=U
 ⟨q.hx,λt h=>by
  rcases vP h with h|h
  .subst h;exact F.fqL q.hx _ W.N n (λnd hr _ hc=>W.js o q nd hr λ_=>hc) S M e
  .exact q.fs _ h,q.cs,q.ds,q.no,q.ls⟩
end
end DL
namespace DL
open PySem L2
def dZ (I:Nat->Env->Prop)(ds:LD)(O:Env)(h0:I 0 O)
  (step:∀i d ρ,ds[i]? = some d->I i ρ->∃M ρ',tg d ρ=some M/\(g M=some (.nx ρ')\/g M=some (.ct ρ'))/\I (i+1) ρ'):
  ∃ρ',fz tg g ds O=some (.nx ρ')/\I ds.length ρ':=by
 have U:∀(es:LD)(i:Nat)(ρ:Env),ds.drop i=es->i+es.length=ds.length->I i ρ->∃ρ',fz tg g es ρ=some (.nx ρ')/\I ds.length ρ':=by
  intro es;induction es with
  |nil=>simp_all
  |cons d es b=>
   intro i ρ e hl h;have hd:ds[i]? = some d:=by
    have:(ds.drop i)[0]? = some d:=by rw[e];rfl
    grind
   obtain⟨M,ρ',h1,h2,h3⟩:=step i d ρ hd h;have he:ds.drop (i+1)=es:=by rw[<-List.drop_drop,e];rfl
   obtain⟨a,k1,k2⟩:=b _ _ he (by simp at hl;lia) h3;refine⟨a,?_,k2⟩;simp_all<;>lia
 exact U ds 0 _ X9 X9 h0
def mO (n:Nat)(I:Nat->Env->Prop)(O:Env)(h0:I 0 O)
  (step:∀(i:Nat) ρ,i<n->I i ρ->∃M ρ',tg (.int (i:Int)) ρ=some M/\(g M=some (.nx ρ')\/g M=some (.ct ρ'))/\I (i+1) ρ'):
  ∃ρ',fz tg g (ge 0 n) O=some (.nx ρ')/\I n ρ':=by
 have hl:(ge 0 n).length=n:=by simp[ge]
 obtain⟨ρ',h1,h2⟩:=dZ I (ge 0 n) _ h0 λi d ρ hd h=>by
  unfold ge at hd;rw[vA]at hd;refine eR hd λk hk hd=>?_;obtain⟨U,hk⟩:=vV hk;rw[length_range]at U;rw[List.getElem_range]at hk;subst hk;rw[Int.zero_add]at hd;subst hd;exact step i ρ U h
 simp_all
def jd {α:Type}{xs:List α}{j:Nat}(h:j<xs.length):mq xs (j:Int)=some xs[j]:=L3 (by simp )
def xi {α:Type}{xs:List α}{i:Int}(h0:0<=i)(h:i.toNat<xs.length):mq xs i=some xs[i.toNat]:=by
 have:=jd h;rwa [Int.toNat_of_nonneg h0]at this
@[simp] def OS (xs:LI):aV (xs.map D.int)=true:=by
 induction xs with
 |nil=>simp
 |cons x xs M=>simp[M]
@[simp] def La (n:Nat)(xs:LI):(xs.map D.int).all (aK n)=true:=by
 simp
@[simp] def MY (xs:LI):(xs.map D.int).all gW=true:=by
 simp
def FK (n:Nat):ge 0 n=((List.range n).map λ(k:Nat)=>(k:Int)).map D.int:=by
 simp_all[ge]
mutual
noncomputable def mP:D->D->Bool
 |.non,.non=>true
 |.bl a,.bl b=>a == b
 |.int a,.int b=>decide (a=b)
 |.str a,.str b=>decide (a=b)
 |.ty a,.ty b=>decide (a=b)
 |.tup xs,.tup ys=>rF xs ys
 |.lst xs,.lst ys=>rF xs ys
 |_,_=>false
noncomputable def rF:LD->LD->Bool
 |[],[]=>true
 |x::xs,y::ys=>mP x y && rF xs ys
 |_,_=>false
end
mutual
theorem CS:∀ {x y:D},mP x y=true->x=y
 |.non,.non,_=>rr
 |.bl a,.bl b,h=>by rw[show a=b from eq_of_beq h]
 |.int a,.int b,h=>by rw[show a=b from of_decide_eq_true h]
 |.str a,.str b,h=>by rw[show a=b from of_decide_eq_true h]
 |.ty a,.ty b,h=>by rw[show a=b from of_decide_eq_true h]
 |.tup xs,.tup ys,h=>by rw[rG h]
 |.lst xs,.lst ys,h=>by rw[rG h]
theorem rG:∀ {xs ys:LD},rF xs ys=true->xs=ys
 |[],[],_=>rr
 |x::xs,y::ys,h=>by
  have h:=Bool.and_eq_true_iff.mp h;rw[CS h.1,rG h.2]
end
def XY (r:OB)(d:D)(b:Bool):Bool:=match r with
 |some (e,c)=>mP e d && c == b
 |none=>false
def xj (h:XY r d b=true):r=some (d,b):=by
 rcases r with _|⟨e,c⟩
 .cases h
 .have h:=Bool.and_eq_true_iff.mp h;rw[CS h.1,eq_of_beq h.2]
section
variable {f:FE}{c:FT}{g g' h:FS}{ρ ρ':Env}{i:Nat}{d:D}{b:Bool}{r:Option Res}{ds:LD}
def ah (hl:ds.length=n)(e:g (ds.map (λd=>some (d,false))++List.replicate k none)=some (.rt d b)):ax g n k ds=some (d,b):=by
 unfold ax;rw[if_pos hl,e]
def FL (n:aP d=true):setE ρ i d b=ρ.set i (some (d,false)):=by unfold setE;rw[if_pos n]
def Jr (n:aV ds=true):setE ρ i (.lst ds) true=ρ.set i (some (.lst ds,true)):=by
 simp_all
def MZ (n:aP d=false)(m:b=false\/yh d=false):setE ρ i d b=(unown ρ).set i (some (d,false)):=by
 unfold setE;have hz:¬(b=true/\yh d=true):=λz=>by
  lia
 rw[if_neg (by simp[n]),if_neg hz]
def Js (e:f ρ=some (d,b))(k:h (setE ρ i d b)=r):ce (eM i f) h ρ=r:=by simp[e];exact k
def xl (e:f ρ=some (d,b))(n:aP d=true)(k:h (ρ.set i (some (d,false)))=r):ce (eM i f) h ρ=r:=Js e (by rw[FL n];exact k)
def bx (e:f ρ=some (.lst ds,true))(n:aV ds=true)(k:h (ρ.set i (some (.lst ds,true)))=r):ce (eM i f) h ρ=r:=Js e (by rw[Jr n];exact k)
def RF (e:f ρ=some (d,b))(n:aP d=false)(m:b=false\/yh d=false)(k:h ((unown ρ).set i (some (d,false)))=r):ce (eM i f) h ρ=r:=Js e (by rw[MZ n m];exact k)
def c7 (e:g ρ=some (.nx ρ'))(k:h ρ'=r):ce g h ρ=r:=by unfold ce;rw[e];exact k
def Na (e:g ρ=some (.rt d b)):ce g h ρ=some (.rt d b):=by unfold ce;rw[e]
def Zp (e:g ρ=some (.ct ρ')):ce g h ρ=some (.ct ρ'):=by unfold ce;rw[e]
def pJ (e:c ρ=some true)(k:g ρ=r):AU c g g' ρ=r:=by unfold AU;rw[e];exact k
def je (e:c ρ=some false)(k:g' ρ=r):AU c g g' ρ=r:=by unfold AU;rw[e];exact k
def Vz (e:c ρ=some x)(M:x=true->g ρ=r)(O:x=false->g' ρ=r):AU c g g' ρ=r:=by
 cases x with
 |true=>exact pJ e (M rr)
 |false=>exact je e (O rr)
def aR (e:c ρ=some true)(k:g ρ=some (.rt d b)):ce (AU c g g') h ρ=some (.rt d b):=Na (pJ e k)
def ao (e:c ρ=some false)(k:h ρ=r):ce (AU c g qE) h ρ=r:=c7 (je e rr) k
def ai (e:f ρ=some (d,b)):yg f ρ=some (.rt d b):=by simp[e]
def kK (e:ρ[i]? = some (some (d,b)))(hb:Hi d=false:=by rfl):oV i ρ=some (.rt d b):=by simp only[oV,e,hb];simp
def iM (e:f ρ=some (d,b))(n:aP d=true):eM i f ρ=some (.nx (ρ.set i (some (d,false)))):=by
 simp_all
def xm (e:f ρ=some (.lst ds,true))(n:aV ds=true):eM i f ρ=some (.nx (ρ.set i (some (.lst ds,true)))):=by
 simp_all
def jT (e:ρ[i]? = some (some (.lst ds,true)))(M:f ρ=some (d,b))(n:aP d=true)(l:ds.length<sizeLine):wB i f ρ=some (.nx (ρ.set i (some (.lst (ds++[d]),true)))):=by
 simp[e,M,n,l]
def Jt (e:ρ[i]? = some (some (.lst ds,true)))(M:f ρ=some (d,b))(n:aP d=true)(l:ds.length<sizeLine)(k:h (ρ.set i (some (.lst (ds++[d]),true)))=r):ce (wB i f) h ρ=r:=c7 (jT e M n l) k
def mQ (e:fi ρ=some ds)(k:fz tg g ds ρ=some (.nx ρ')):ug fi tg g ρ=some (.nx ρ'):=by unfold ug;rw[e];exact k
def fP (e:fi (iF ρ)=some ds)(k:fz tg g ds ρ=some (.nx ρ')):EZ fi tg g ρ=some (.nx ρ'):=by unfold EZ;rw[e];exact k
def iN {f:FE}{j:Nat}(e:f ρ=some (.int j,b))(hj:j<=1000):lJ f ρ=some (ge 0 j):=by
 simp_all<;>lia
def bW (e:f ρ=some (.bl x,b)):bP f ρ=some x:=by unfold bP;rw[e]
def aI (e:fa ρ=some ds)(k:F ds=x):fA F fa ρ=x:=by simp_all
def iO {f1 g1:D->D->OB}{fa M O:FE}{x y z:D}{b1 b2 b3 b4 p q:Bool}(U:fa ρ=some (x,b1))(a:M ρ=some (y,b2))(e:O ρ=some (z,b3))(j:f1 x y=some (.bl p,b4))(e2:p=true->g1 y z=some (.bl q,false)):jG f1 g1 fa M O ρ=some (.bl (p && q),false):=by
 unfold jG;rw[U,a,e];simp [vJ,j];cases p
 .rfl
 .exact e2 rr
def cj {f1 f2:FE}{p q b1:Bool}(M:f1 ρ=some (.bl p,b1))(e2:p=true->f2 ρ=some (.bl q,false)):Hs f1 f2 ρ=some (.bl (p && q),false):=by
 unfold Hs;rw[M];cases p
 .rfl
 .exact e2 rr
def uI {f1 f2:FE}{p q b1:Bool}(M:f1 ρ=some (.bl p,b1))(e2:p=false->f2 ρ=some (.bl q,false)):Uy f1 f2 ρ=some (.bl (p || q),false):=by
 unfold Uy;rw[M];cases p
 .exact e2 rr
 .rfl
def Nb {f1:FE}{p b1:Bool}(M:f1 ρ=some (.bl p,b1)):Ht f1 ρ=some (.bl (!p),false):=by
 unfold Ht;rw[M]
def a7 (M:f ρ=some (d,b))(e2:O ρ=some xs):ak f O ρ=some (d::xs):=by
 simp_all
def eN (M:fa ρ=some (x,b1))(e2:U ρ=some (y,b2))(O:op x y=z):f2 op fa U ρ=z:=by
 simp_all
def cR (M:O ρ=some p)(e2:p=true->c2 ρ=some q):iE O c2 ρ=some (p && q):=by
 unfold iE;rw[M];cases p
 .rfl
 .exact e2 rr
def b7 (M:O ρ=some p)(e2:p=false->c2 ρ=some q):lG O c2 ρ=some (p || q):=by
 unfold lG;rw[M];cases p
 .exact e2 rr
 .rfl
def ba (M:O ρ=some p):mz O ρ=some (!p):=by
 unfold mz;rw[M];rfl
end
theorem V0 (a c:Nat):decide ([a]<[c])=decide (a<c):=by
 simp_all[cons_lt_cons_iff]
@[simp] def CT (a c:Nat):O5 (.str ⟨#[a]⟩) (.str ⟨#[c]⟩)=some (.bl (decide (a<=c)),false):=by
 grind[O5,V0]
def bw (h:n<=100000):n<sizeLine:=lt_of_le_of_lt h H9
def cf (h:n<=100000):n<=sizeLine:=le_of_lt (bw h)
def cS {α:Type}(l:List α)(g:α->D)(p:α->Bool)(h:α->D)(e:fi ρ=some (l.map g))(hl:l.length<=100000)
  (k:∀x∈l,∃M,tg (g x) (cx nT cap ρ)=some M/\c M=some (p x)/\(p x=true->∃b,fe M=some (h x,b))):jw fi nT cap tg c fe ρ=some (.lst ((l.filter p).map h),true):=by
 have U:∀O:List α,(∀x∈O,x∈l)->fJ tg c fe (cx nT cap ρ) (O.map g)=some ((O.filter p).map h):=by
  intro O;induction O with
  |nil=>simp
  |cons x O a=>
   grind[mX,AW]
 unfold jw;rw[e,vJ,if_pos (cf (by simpa using hl)),U l λ_ h=>h,Option.map_some]
def fK {α:Type}(l:List α)(g:α->D)(h:α->D)(e:fi ρ=some (l.map g))(hl:l.length<=100000)
  (k:∀x∈l,∃M,tg (g x) (cx nT cap ρ)=some M/\∃b,fe M=some (h x,b)):jw fi nT cap tg ym fe ρ=some (.lst (l.map h),true):=by
 have:=cS (c:=ym) l g _ h e hl λx hx=>by
  obtain⟨M,h1,h2⟩:=k x hx;exact⟨M,h1,rr,λ_=>h2⟩
 rw[List.filter_eq_self.mpr λ_ _=>rr]at this;exact this
@[simp] def zi {α:Type}(f:α->Bool)(l:List α):tK (l.map λx=>.bl (f x))=some (l.map f):=by
 induction l with
 |nil=>rfl
 |cons x l M=>simp[M]
def AM (h0:0<=i)(h:i.toNat<z.cps.size)(hz:z.length<=100000):fu (.str z) (.int i)=some (.str ⟨#[z.cps.toList.getD i.toNat 0]⟩,false):=by
 simp_all[cf,xi]
def RG (h0:0<=i)(h:i.toNat<ds.length):fu (.lst ds) (.int i)=some (ds.getD i.toNat .non,false):=by
 simp_all[xi]
def AL (h0:0<=i)(h:i.toNat<ds.length):fu (.tup ds) (.int i)=some (ds.getD i.toNat .non,false):=by
 simp_all[xi]
def CU {xs:LI}{i:Int}(h0:0<=i)(h:i.toNat<xs.length):fu (.lst (xs.map .int)) (.int i)=some (.int (xs.getD i.toNat 0),false):=by
 rw[RG h0 (by simpa using h)];simp[h]
def FM (z:Str):yz z=z.cps.toList.map λc=>.str ⟨#[c]⟩:=rfl
def mod_lt {x m:Int}(hm:0<m):0<=x % m/\x % m<m:=⟨Int.emod_nonneg _ N9,Int.emod_lt_of_pos _ hm⟩
def jf:lI [.lst ds]=some (.int ds.length,false):=rfl
def zj (h:0<=v):HT.df n d (some v)=min v.toNat n:=by
 show(if v<0 then (v+(n:Int)).toNat else min _ n)=_;rw[if_neg N9]
def aY (x y:D)(M:fa ρ=some (x,false))(e2:U ρ=some (y,false))(O:op x y=z):f2 op fa U ρ=z:=eN M e2 O
def cm (e:f ρ=some (.bl x,false)):bP f ρ=some x:=bW e
def aM (M:f ρ=some (d,false))(e2:O ρ=some xs):ak f O ρ=some (d::xs):=a7 M e2
def a0 (ds:LD)(e:fa ρ=some ds)(k:F ds=x):fA F fa ρ=x:=aI e k
def eQ (d:D)(e:f ρ=some (d,false))(n:aP d=true)(k:h (ρ.set i (some (d,false)))=r):ce (eM i f) h ρ=r:=xl e n k
end DL
set_option backward.eqns.nonrecursive true
namespace Lw
open PySem PySem.Spec PyProof.Rows L2 DL
def l7:D:=(.int 255)
def rH:D:=(.int 9999)
def jU:D:=(.int 9)
def jV:D:=(.int 8)
def l8:D:=(.int 20)
def ir:D:=(.int 8)
def jW:D:=(.int 60)
noncomputable def zk:D:=(.tup [(.str "paper"),(.str "like"),(.str "copy")])
noncomputable def bX:List (PySem.Str×D):=[(("root" : Str),(.tup [(.str "office"),(.str "matters"),(.str "further"),(.str "rule")])),(("named" : Str),(.tup [(.str "day"),(.str "office"),(.str "person")])),(("chosen" : Str),(.tup [(.str "day"),(.str "by"),(.str "office"),(.str "person"),(.str "since")])),(("heir" : Str),(.tup [(.str "day"),(.str "by"),(.str "office"),(.str "person")])),(("death" : Str),(.tup [(.str "day"),(.str "person")])),(("lost" : Str),(.tup [(.str "day"),(.str "person")])),(("found" : Str),(.tup [(.str "day"),(.str "person")])),(("leave" : Str),(.tup [(.str "day"),(.str "by"),(.str "person"),(.str "matters"),(.str "stretch"),(.str "further")])),(("paper" : Str),(.tup [(.str "day"),(.str "by"),(.str "matters"),(.str "stretch"),(.str "whom"),(.str "pieces")])),(("like" : Str),(.tup [(.str "day"),(.str "by"),(.str "matters"),(.str "stretch"),(.str "whom"),(.str "of"),(.str "changes")])),(("copy" : Str),(.tup [(.str "day"),(.str "by"),(.str "of")])),(("call" : Str),(.tup [(.str "day"),(.str "by"),(.str "of")]))]
noncomputable def gy:D:=(.tup [(.str "by"),(.str "person"),(.str "whom")])
noncomputable def CV:D:=(.tup [(.str "open"),(.str "first"),(.str "last")])
noncomputable def gz:D:=(.tup [(.str "chosen"),(.str "heir"),(.str "leave"),(.str "paper"),(.str "like"),(.str "copy"),(.str "call")])
noncomputable def aN (i:Nat):Stmt:=PySem.Challenge.pw_sealchain_k56_whole_one_row_more.main.body.getD i (.Pass ⟨0,0,0,0⟩)
noncomputable def FN:Gq:=⟨[],[("ALL_MATTERS",l7),("LAST_DAY",rH),("MOST_FURTHER",jU),("MOST_LETTERS",jV),("MOST_PEOPLE",l8),("MOST_PIECES",ir),("MOST_ROWS",jW),("PAPERS",zk),("PERSON_PARTS",gy),("RULES",CV),("SEALINGS",gz)],[("PARTS",bX)],["all","any","bool","dict","enumerate","int","isinstance","len","list","max","min","range","reversed","set","sorted","str","tuple","zip"],["in_order","has_seal","is_first_death","bases_by"]⟩
def Nc:Wq:=⟨FN,"is_whole",aN 6,["thing","least","most"],0,[0,100,0,80,100,0,81,0,0,1,0,2]⟩
def lR:=ax (aw Nc.r _ rr) 3 0
def Nd:Wq:=⟨Nc.gt lR,"is_day",aN 7,["thing"],1,[0,0,0,51]⟩
def rJ:=ax (aw Nd.r _ rr) 1 0
def Nf:Wq:=⟨Nd.gt rJ,"is_stretch",aN 8,["thing"],2,[100,0,82,1,101,0,0,0,0,0,0,2,0,0,0,0,0,3,0,0,0,0]⟩
def mR:=ax (aw Nf.r _ rr) 1 0
def Ng:Wq:=⟨Nf.gt mR,"is_matters",aN 12,["thing"],1,[0,2,0,50]⟩
def mS:=ax (aw Ng.r _ rr) 1 0
def Nh:Wq:=⟨Ng.gt mS,"is_name",aN 22,["thing"],0,[100,0,83,0,0,101,0,53,0,0,102,0,0,0,0,0,0]⟩
def kL:=ax (aw Nh.r _ rr) 1 0
def Ni:Wq:=⟨Nh.gt kL,"is_rule",aN 24,["thing"],0,[0,100,0,83,4,0,59]⟩
def uJ:=ax (aw Ni.r _ rr) 1 0
def Nj:Wq:=⟨Ni.gt uJ,"is_piece",aN 23,["thing"],1,[0,1,0]⟩
def lS:=ax (aw Nj.r _ rr) 1 0
def Nk:Wq:=⟨Nj.gt lS,"is_pieces",aN 25,["thing"],2,[100,0,82,0,0,101,0,55,0,0,102,0,0,0,0,0]⟩
def gZ:=ax (aw Nk.r _ rr) 1 0
def Nl:Wq:=⟨Nk.gt gZ,"is_change",aN 26,["thing"],2,[100,0,82,1,101,0,0,0,7,0,0,0,55,1,0,0]⟩
def hG:=ax (aw Nl.r _ rr) 1 0
def Nm:Wq:=⟨Nl.gt hG,"is_changes",aN 27,["thing","places"],3,[100,0,82,102,0,0,0,0,0,0,1,0,0,0,0,0,0,102,0,4,1,1,3,0,1]⟩
def jg:=ax (aw Nm.r _ rr) 1 1
def CW:Wq:=⟨Nm.gt jg,"is_part",aN 28,["part","thing"],4,[5,0,5,0,0,8,1,5,0,5,0,5,0,0,5,1,5,0,0,2,1,5,1,5,0,0,6,1,5,0,0,7,1,5,0,0,9,1,52,5,0,0,4,1,5,0,0,9,1,0,56,5,0,0,2,1,0,0,1]⟩
def di:=ax (aw CW.r _ rr) 2 0
def CY:Wq:=⟨CW.gt di,"is_deed",aN 29,["thing"],5,[100,0,82,5,101,0,100,0,0,83,0,30,0,0,1,101,0,1,101,2,0,0,0,0,102,0,4,2,0,0,0,0,0,1]⟩
def o0:=ax (aw CY.r _ rr) 1 0
def CZ:Wq:=⟨CY.gt o0,"word_of",aN 32,["row"],0,[0,0,0,0]⟩
def aZ:=ax (aw CZ.r _ rr) 1 0
def Db:Wq:=⟨CZ.gt aZ,"part_of",aN 33,["row","part"],1,[0,0,0,0,1,10,0,0,1]⟩
def av:=ax (aw Db.r _ rr) 2 0
def Dc:Wq:=⟨Db.gt av,"day_of",aN 34,["row"],2,[5,1,0,0,0,0,0]⟩
def bo:=ax (aw Dc.r _ rr) 1 0
def De:Wq:=⟨Dc.gt bo,"is_timely",aN 30,["row","day"],3,[0,1,0,0,2,1,0,5,2,0,3,1,0,1,0,0,0,1,0,0]⟩
def jX:=ax (aw De.r _ rr) 1 1
def Df:Wq:=⟨De.gt jX,"is_row",aN 31,["thing"],6,[100,0,82,1,101,0,0,0,14,0,0,4,0,0,0,0]⟩
def rK:=ax (aw Df.r _ rr) 1 0
def Dg:Wq:=⟨Df.gt rK,"root_offices",aN 39,["rows"],2,[0,0,0,0,5,4,0,3,0]⟩
def g9:=ax (aw Dg.r _ rr) 1 0
def Dh:Wq:=⟨Dg.gt g9,"is_second_root",aN 40,["ahead","row"],3,[0,5,5,1,4,4,1,0,0]⟩
def eZ:=ax (aw Dh.r _ rr) 2 0
def Di:Wq:=⟨Dh.gt eZ,"parts_in",aN 35,["row"],1,[0,150,2,6,0,0,0]⟩
def gD:=ax (aw Di.r _ rr) 1 0
def Dj:Wq:=⟨Di.gt gD,"people_in",aN 36,["row","names"],2,[1,0,0,0,0,4,0,58,6,1,1,0,140,1]⟩
def hJ:=ax (aw Dj.r _ rr) 1 1
def zm:Wq:=⟨Dj.gt hJ,"count_people",aN 41,["rows","names","row"],3,[0,1,0,0,0,0,2,1,1,0,2,0,141,1]⟩
abbrev pK:=aw (zm.b [2] [1,1,0,2]) _ rr
def gE:=ax (aw zm.r _ rr) 1 2
def Dk:Wq:=⟨zm.gt gE,"is_refused",aN 42,["book","place"],7,[7,1,56,5,0,0,1,0,0,3,0,1,0,0,1,8,0,0,1,1,54]⟩
def jh:=ax (aw Dk.r _ rr) 2 0
def zn:Wq:=⟨Dk.gt jh,"register_of",aN 43,["rows","book","place"],8,[103,0,84,82,0,1,104,0,0,1,101,1,2,0,1,2,2]⟩
abbrev rL:=aw (zn.b [4] [0,1,2]) _ rr
def fy:=ax (aw zn.r _ rr) 1 2
def Dl:Wq:=⟨zn.gt fy,"heard",aN 44,["book","known"],0,[0,1,1,3,0,0,0,1,2,0]⟩
def ej:=ax (aw Dl.r _ rr) 2 0
def Dm:Wq:=⟨Dl.gt ej,"rank",aN 46,["book","number"],3,[0,10,0,0,1,1]⟩
def gF:=ax (aw Dm.r _ rr) 2 0
def Dn:Wq:=⟨Dm.gt gF,"in_order",aN 48,["book","known","dated"],7,[2,1,0,0,1,0,1,6,11,0,1,0,0,0,2,2,1,0,0,1,0]⟩
def dJ:=ax (aw Dn.r _ rr) 2 1
def Dp:Wq:=⟨Dn.gt dJ,"by_office",aN 60,["claim"],0,[0,0,0,0,0,0,0]⟩
def jY:=ax (aw Dp.r _ rr) 1 0
def Dq:Wq:=⟨Dp.gt jY,"roots",aN 49,["book","known","known_rows"],2,[2,1,0,0,3,0,1,0,1,0,0,105,0,0,2,5,15,0,14,0,0]⟩
def hU:=ax (aw Dq.r _ rr) 2 1
def Dr:Wq:=⟨Dq.gt hU,"is_known",aN 45,["book","known","number"],0,[0,0,3,2,101,0,0,0,0,0,2,1]⟩
def cD:=ax (aw Dr.r _ rr) 3 0
def Ds:Wq:=⟨Dr.gt cD,"tells",aN 52,["row","words","person","day"],3,[0,4,17,0,1,5,16,0,2,0,15,0,3]⟩
def qg:=ax (aw Ds.r _ rr) 4 0
def Dt:Wq:=⟨Ds.gt qg,"told_of",aN 53,["book","known","words","person","day"],4,[0,4,2,3,4,0,0,6,0,1,0,0,4,0,1,2,3,0]⟩
def kM:=ax (aw Dt.r _ rr) 5 0
def Du:Wq:=⟨Dt.gt kM,"lives",aN 54,["book","known","person","day"],5,[0,5,101,0,0,1,2,3]⟩
def qh:=ax (aw Du.r _ rr) 4 0
def Dv:Wq:=⟨Du.gt qh,"has_seal",aN 55,["book","known","person","day","told"],7,[0,4,1,0,1,2,3,5,101,4,0,0,5,20,0,0,0,4,1,0,7,1,0]⟩
def lU:=ax (aw Dv.r _ rr) 4 1
def Dx:Wq:=⟨Dv.gt lU,"is_sound",aN 56,["book","known","number","sealer","day"],8,[4,0,1,2,9,21,0,0,2,60,0,0,3,20,0,0,2,0,4,19,0,0,2,0,1,0,1,3,4,0,0,1,3,4]⟩
def ji:=ax (aw Dx.r _ rr) 3 2
def Dy:Wq:=⟨Dx.gt ji,"lies_in",aN 9,["day","stretch"],0,[0,0,0,1,0,2,0,1,3,0,0,1]⟩
def kO:=ax (aw Dy.r _ rr) 2 0
def Dz:Wq:=⟨Dy.gt kO,"is_alive",aN 58,["claim","day"],1,[0,0,1,0,0,0,0]⟩
def dL:=ax (aw Dz.r _ rr) 2 0
def D0:Wq:=⟨Dz.gt dL,"by_since",aN 59,["claim"],0,[0,0,0,0,0]⟩
def gG:=ax (aw D0.r _ rr) 1 0
def D1:Wq:=⟨D0.gt gG,"chief_of",aN 61,["alive","rule"],4,[5,1,0,0,0,0,0,0,0,1,0,0]⟩
def lV:=ax (aw D1.r _ rr) 2 0
def D2:Wq:=⟨D1.gt lV,"holder_by",aN 62,["claimed","root","day","alive","people","person","oldest"],5,[3,2,2,1,0,0,5,0,0,25,2,2,0,1,0,0,4,140,0,0,3,0,0,5,101,4,0,8,101,4,5,25,1,0,4,0,5,0,3,25,1,0,6,1,1,5,0,3,5,0,0,1,0,1,0,5,0,6]⟩
def jZ:=ax (aw D2.r _ rr) 3 4
def D3:Wq:=⟨D2.gt jZ,"is_held_by",aN 63,["claimed","root","person","day"],6,[0,5,0,0,1,3,2]⟩
def dj:=ax (aw D3.r _ rr) 4 0
def D4:Wq:=⟨D3.gt dj,"is_first_death",aN 64,["book","known","number","row","deaths"],7,[0,3,0,0,2,0,4,9,0,1,27,3,26,3,0,5,1,4,1,0,15,1,0,2]⟩
def fg:=ax (aw D4.r _ rr) 3 2
def D5:Wq:=⟨D4.gt fg,"counts",aN 65,["book","known","so_far","number","row","root"],9,[0,4,0,0,3,5,29,4,0,0,0,1,3,9,29,4,0,0,5,0,13,0,1,28,4,2,5,0,5,29,4,0,0,7,0,1,3,1,2,5,28,4,27,4]⟩
def mT:=ax (aw D5.r _ rr) 4 2
def D6:Wq:=⟨D5.gt mT,"new_claim",aN 66,["row","since","number"],2,[0,29,0,29,0,1,2]⟩
def hV:=ax (aw D6.r _ rr) 3 0
def zo:Wq:=⟨D6.gt hV,"ended",aN 67,["so_far","offices","person","day","left","claim"],2,[0,4,0,0,0,0,5,9,0,5,1,1,0,5,2,7,5,3,8,0,5,3,0,4,5,3,0,5,3,0,4,0,5,2,0,5,3,0,5,5]⟩
abbrev zp:=aw (zo.b [2] [9,0,5,1,1,0,5,2,7,5,3,8,0,5,3,0,4,5,3,0,5,3,0,4,0,5,2,0,5,3,0,5]) _ rr
def xn:=ax (aw zo.r _ rr) 4 2
def D7:Wq:=⟨zo.gt xn,"after_choice",aN 68,["so_far","row","number","since","left"],3,[0,3,31,1,0,4,0,0,31,1,31,1,3,0,1,4,1,1,3,2]⟩
def gH:=ax (aw D7.r _ rr) 3 2
def zq:Wq:=⟨D7.gt gH,"inherited",aN 69,["book","known","so_far","heirs","number","person","day","told","office","heir"],6,[0,5,32,0,0,4,0,6,31,0,0,4,0,7,2,5,6,0,0,140,2,5,6,0,2,5,0,0,1,9,0,2,0,0,8,0,9,9,3,8,5,6,9,13,0,1,9,6,0,7,8,9,6,4,8]⟩
abbrev jj:=aw (zq.b [6] [0,9,9,3,8,5,6,9,13,0,1,9,6,0,7,8,9,6,4]) _ rr
def kg:=ax (aw zq.r _ rr) 5 5
def D8:Wq:=⟨zq.gt kg,"after_death",aN 70,["book","known","so_far","heirs","number","offices","left"],7,[5,0,0,2,0,0,0,6,2,2,5,33,0,0,4,32,0,0,4,0,1,6,0,0,1,2,3,4]⟩
def iu:=ax (aw D8.r _ rr) 5 2
def zr:Wq:=⟨D8.gt iu,"claims",aN 71,["book","known","so_far","heirs","number","row"],10,[0,2,1,3,0,0,0,21,0,1,4,0,5,0,0,4,5,0,1,2,4,5,35,5,0,2,1,2,4,5,33,5,4,5,35,5,0,2,2,2,5,4,5,35,5,3,3,34,5,34,5,34,5,0,2,0,0,1,2,3,4,0,2,2,20]⟩
abbrev o3:=aw (zr.b [4] [0,5,0,0,4,5,0,1,2,4,5,35,5,0,2,1,2,4,5,33,5,4,5,35,5,0,2,2,2,5,4,5,35,5,3,3,34,5,34,5,34,5,0,2,0,0,1,2,3,4]) _ rr
def mU:=ax (aw zr.r _ rr) 2 4
def D9:Wq:=⟨zr.gt mU,"is_paper",aN 74,["book","known","number"],1,[0,19,0,1,2,4,36,0,0,2,57]⟩
def cY:=ax (aw D9.r _ rr) 3 0
def DA:Wq:=⟨D9.gt cY,"is_leave",aN 75,["book","known","number"],1,[0,20,0,1,2,5,37,0,0,2]⟩
def gI:=ax (aw DA.r _ rr) 3 0
def DB:Wq:=⟨DA.gt gI,"is_borne",aN 76,["book","known","number"],2,[0,0,0,1,2,1,0,1,2]⟩
def fj:=ax (aw DB.r _ rr) 3 0
def DC:Wq:=⟨DB.gt fj,"covers",aN 13,["matters","some"],0,[0,5,2,0,1,1]⟩
def iP:=ax (aw DC.r _ rr) 2 0
def DD:Wq:=⟨DC.gt iP,"reach_bar",aN 80,["row","above"],2,[0,39,1,39,0,0,5,40,0,7,39,0,39,1,0,0]⟩
def kh:=ax (aw DD.r _ rr) 2 0
def DE:Wq:=⟨DD.gt kh,"office_bar",aN 81,["claimed","row","root"],7,[13,0,2,40,1,39,1,0,0,0,1,2]⟩
def fQ:=ax (aw DE.r _ rr) 3 0
def DF:Wq:=⟨DE.gt fQ,"office_bases",aN 84,["book","known","claimed","number","row","bearing"],8,[0,4,0,0,3,5,2,2,4,5,26,0,1,2,0,1,2,0,0,0,2,2,4,0,5,41,0,0,15,1,0,40,2]⟩
def gJ:=ax (aw DF.r _ rr) 4 2
def DG:Wq:=⟨DF.gt gJ,"ends_within",aN 11,["stop","bound"],0,[2,1,0,0,6,0,0,0,1]⟩
def iz:=ax (aw DG.r _ rr) 2 0
def DH:Wq:=⟨DG.gt iz,"is_within",aN 10,["one","other"],1,[0,0,0,1,0,0,0,0,0,0,1]⟩
def hW:=ax (aw DH.r _ rr) 2 0
def DI:Wq:=⟨DH.gt hW,"is_ahead",aN 47,["book","one","other"],4,[0,10,32,0,1,32,0,2]⟩
def gK:=ax (aw DI.r _ rr) 3 0
def DJ:Wq:=⟨DI.gt gK,"leave_bar",aN 82,["book","number","leave","row","stretch"],5,[0,3,0,0,1,0,4,45,0,0,2,0,0,2,1,0,23,44,3,4,1,45,3,4,0,0,5,3,0,0,2]⟩
def ki:=ax (aw DJ.r _ rr) 3 2
def DK:Wq:=⟨DJ.gt ki,"leaves_to",aN 83,["book","known","person","leaves"],2,[3,2,0,1,0,35,0,1,9,1,2,0,0,0,2,2,0,0,3,5,46,0,2,0,1,0]⟩
def kj:=ax (aw DK.r _ rr) 3 1
def DM:Wq:=⟨DK.gt kj,"leave_bases",aN 85,["book","known","number","leaves"],6,[0,3,0,0,1,47,0,0,2,0,2,0,2,0,3,2,1,1,2,0,0]⟩
def i6:=ax (aw DM.r _ rr) 3 1
def DN:Wq:=⟨DM.gt i6,"copy_bases",aN 86,["book","known","number","of"],5,[0,3,48,0,0,2,12,0,1,3,3,0,3,2,0,3,0]⟩
def jk:=ax (aw DN.r _ rr) 3 1
def DO:Wq:=⟨DN.gt jk,"bases_by",aN 87,["book","known","claimed","number","found"],9,[11,0,1,3,0,5,50,0,0,3,0,0,0,1,3,0,4,1,7,0,1,2,3,1,0,1,3,0,3,4,0,0,0,0]⟩
def dM:=ax (aw DO.r _ rr) 4 1
def DP:Wq:=⟨DO.gt dM,"may_call",aN 77,["book","known","claimed","call","number","row","caller","over"],7,[0,5,0,0,4,0,6,50,0,0,3,5,6,50,5,0,5,51,5,0,7,1,5,5,35,0,1,11,50,0,50,1,0,0,106,4,2,6,0,3,0,7,23,1,0,2,49,0,3,4]⟩
def lW:=ax (aw DP.r _ rr) 5 3
def DQ:Wq:=⟨DP.gt lW,"calls_in",aN 78,["book","known","claimed","call","number","day","row"],9,[0,6,0,0,3,1,52,6,1,51,6,4,8,50,6,5,0,0,30,0,1,3,0,0,1,2,3,4]⟩
def jl:=ax (aw DQ.r _ rr) 6 1
def DR:Wq:=⟨DQ.gt jl,"calls_by",aN 79,["book","known","claimed","number","day"],10,[14,0,1,3,0,0,5,0,1,2,3,4,0,41,0,1,0,1,2,3,0,4,5,0]⟩
def lX:=ax (aw DR.r _ rr) 5 0
def DS:Wq:=⟨DR.gt lX,"is_fit",aN 88,["book","known","claimed","number","day"],11,[32,0,1,3,8,52,0,0,3,4,0,0,5,101,0,0,1,2,3,4]⟩
def mV:=ax (aw DS.r _ rr) 5 0
def zt:Wq:=⟨DS.gt mV,"links",aN 89,["book","known","day","claimed","found","number"],12,[1,3,19,0,1,0,4,0,0,0,41,0,1,5,16,0,1,5,0,0,1,3,5,2,2,4,5,4,0,1,3,5,5]⟩
abbrev Ju:=aw (zt.b [4] [16,0,1,5,0,0,1,3,5,2,2,4,5,4,0,1,3,5]) _ rr
def mW:=ax (aw zt.r _ rr) 3 3
def DT:Wq:=⟨zt.gt mW,"bears",aN 90,["base","among"],0,[0,5,0,0,20,0,0,1]⟩
def qi:=ax (aw DT.r _ rr) 2 0
def zu:Wq:=⟨DT.gt qi,"stood",aN 91,["found","stands","number","resting"],1,[0,1,0,0,6,0,2,3,106,1,1,0,3,0,0,1,1,1,2,2]⟩
abbrev Jv:=aw (zu.b [2] [106,1,1,0,3,0,0,1,1,1,2]) _ rr
def qj:=ax (aw zu.r _ rr) 1 3
def DU:Wq:=⟨zu.gt qj,"standing",aN 92,["book","known","day"],13,[0,107,0,2,0,1,2]⟩
def cZ:=ax (aw DU.r _ rr) 3 0
def DV:Wq:=⟨DU.gt cZ,"_law_cell",aN 107,["_law_script","_law_k","_law_number"],0,[3,1,101,0,0,0,0,1,0,2,1,3,1,8,101,0,0,2,1,1,3,0,0,4,3,1,101,0,3,3,1,1,0,4,5,2,2]⟩
def nc:=ax (aw DV.r _ rr) 2 1
def zv:Wq:=⟨DV.gt nc,"_law_names",aN 108,["_law_cell_here","_law_letters","_law_base","_law_at","_law_names_here","_law_k","_law_name"],0,[0,1,2,2,1,0,2,1,4,0,0,1,4,6,2,1,3,0,0,3,4,6,0,101,2,0,4,0,1,5,0,6,108,2,0,6,3,0,1,4,1,6,0,3,5,0,4,1,6,5]⟩
abbrev B9:=aw (zv.b [8] [0,6,108,2,0,6,3,0,1,4,1,6,0,3,5,0,4,1,6]) _ rr
def o4:=ax (aw zv.r _ rr) 1 6
def DW:Wq:=⟨zv.gt o4,"_law_giver",aN 109,["_law_rows_here","_law_cell_here","_law_names_here","_law_some"],0,[3,0,0,0,4,0,0,0,0,0,0,8,4,1,0,0,3,4,6,1,101,3,0,0,2,4,6,1]⟩
def kP:=ax (aw DW.r _ rr) 3 1
def DX:Wq:=⟨DW.gt kP,"_law_sealed",aN 110,["_law_rows_here","_law_word","_law_day","_law_cell_here","_law_names_here","_law_by","_law_matters","_law_stretch","_law_person","_law_whom","_law_changes"],1,[0,5,0,0,3,4,0,6,0,4,6,3,0,7,0,2,1,2,1,2,4,6,3,5,1,0,8,0,4,4,1,1,2,4,5,4,6,3,0,2,5,8,6,7,0,4,6,3,5,1,0,9,0,0,4,4,6,3,0,2,5,6,7,9,0,4,0,4,5,1,0,10,4,6,3,0,4,0,2,5,6,7,4,6,3,101,0,10,0,1,2,5,4,6,3,101,0]⟩
def lY:=ax (aw DX.r _ rr) 5 6
def DY:Wq:=⟨DX.gt lY,"_law_row",aN 111,["_law_rows_here","_law_cell_here","_law_names_here","_law_sorts","_law_word","_law_day","_law_noted","_law_left","_law_by"],2,[0,3,0,3,1,3,0,4,0,3,4,1,0,5,1,6,101,0,4,6,1,0,6,1,5,0,4,6,1,0,7,6,1,4,4,0,6,0,0,4,5,7,2,5,4,0,8,1,0,7,2,0,6,5,8,0,2,0,2,4,6,7,1,5,4,6,7,5,4,0,6,5,1,0,7,2,0,2,0,2,4,6,7,5,4,0,6,5,0,2,1,4,6,7,0,2,4,6,7,0,6,4,5,0,2,4,6,7]⟩
def xo:=ax (aw DY.r _ rr) 3 6
def zw:Wq:=⟨DY.gt xo,"_law_rows",aN 112,["_law_script","_law_names_here","_law_cell_here","_law_rows_here","_law_k"],3,[0,2,4,0,0,3,0,1,0,4,2,0,4,6,2,0,3,0,1,0,1,5,4,6,2,0,3,0,1,0,1,0,109,1,6,101,0,4,6,2,4,0,3,0,3,4,4,0,1,4,7,1,4]⟩
abbrev uK:=aw (zw.b [8] [0,3,0,3,4,4,0,1,4,7,1]) _ rr
def rM:=ax (aw zw.r _ rr) 2 3
def DZ:Wq:=⟨zw.gt rM,"first_bearer",aN 93,["resting","stands"],1,[0,0,1,1,0,0,8,0,1,0]⟩
def eA:=ax (aw DZ.r _ rr) 2 0
def zx:Wq:=⟨DZ.gt eA,"chain",aN 94,["book","known","day","number","found","stands","told","bearer"],13,[0,4,10,0,1,2,0,5,8,4,20,3,5,0,0,6,3,0,7,0,1,4,3,5,1000,1,0,7,0,6,0,7,0,7,0,1,4,0,7,5,0,6,0,7,0,142,6]⟩
abbrev zy:=aw (zx.b [10] [0,6,0,7,0,7,0,1,4,0,7,5]) _ rr
def qk:=ax (aw zx.r _ rr) 4 4
def Ea:Wq:=⟨zx.gt qk,"is_begun",aN 95,["resting","first"],0,[0,4,1,0,0,0,5,0,0,0,0]⟩
def jm:=ax (aw Ea.r _ rr) 2 0
def Eb:Wq:=⟨Ea.gt jm,"is_linked",aN 96,["resting","ahead"],0,[0,4,1,0,0,0,1,0,0,0,0]⟩
def hZ:=ax (aw Eb.r _ rr) 2 0
def Ec:Wq:=⟨Eb.gt hZ,"is_chain",aN 97,["book","known","day","numbers","found"],13,[0,4,13,0,1,2,3,101,3,102,1,4,0,3,20,0,1,0,1,1,4,0,3,0,3,0,0,102,1,4,4,3,3,0,1,2,1,0]⟩
def jn:=ax (aw Ec.r _ rr) 4 1
def Ed:Wq:=⟨Ec.gt jn,"changed",aN 99,["pieces","place","piece"],0,[0,8,8,0,1,2,0,1,1]⟩
def o5:=ax (aw Ed.r _ rr) 3 0
def uL:Wq:=⟨Ed.gt o5,"put_together",aN 100,["book","path","pieces","number","place","piece"],2,[0,2,70,0,0,0,1,0,0,7,1,3,1,71,0,0,3,1,3,0,0,70,0,0,3,4,5,8,4,101,2,0,3,0,2,0,2,4,5,0,2]⟩
abbrev cJ:=aw (uL.b [2,2] [8,4,101,2,0,3,0,2,0,2,4,5]) _ rr
abbrev cc:=aw (uL.b [2] [1,71,0,0,3,1,3,0,0,70,0,0,3,4,5,8,4,101,2,0,3,0,2,0,2,4,5]) _ rr
def eB:=ax (aw uL.r _ rr) 2 4
def z4:Wq:=⟨uL.gt eB,"words",aN 101,["book","known","number","path","at"],3,[0,3,0,4,2,1000,9,4,3,35,0,1,4,0,4,0,3,4,5,72,0,0,4,0,0,0,3,0,4,71,0,0,4,90,110,3,3,3,4]⟩
abbrev eC:=aw (z4.b [4] [35,0,1,4,0,4,0,3,4,5,72,0,0,4,0,0,0,3,0,4,71,0,0,4]) _ rr
def jo:=ax (aw z4.r _ rr) 3 2
def z6:Wq:=⟨z4.gt jo,"paper_behind",aN 102,["book","number","row"],2,[0,2,0,0,1,1000,5,73,2,0,2,0,0,72,2,3]⟩
abbrev jy:=aw (z6.b [2] [0,2,0,0,72,2]) _ rr
def eD:=ax (aw z6.r _ rr) 2 1
def Ee:Wq:=⟨z6.gt eD,"holding",aN 103,["book","known","day","stands"],14,[3,2,0,1,0,15,0,1,2,37,1,2,0,0,0,2,2,0,0,3,51,1,73,0,2,0,0]⟩
def o6:=ax (aw Ee.r _ rr) 3 1
def Ef:Wq:=⟨Ee.gt o6,"whom_of",aN 104,["book","number"],3,[0,74,1,0,1]⟩
def o7:=ax (aw Ef.r _ rr) 2 0
def Eg:Wq:=⟨Ef.gt o7,"judged",aN 105,["book","known","day"],15,[0,2,0,1,0,1,0,1,2,0,0,1,0,3,1,2,0]⟩
def ng:=ax (aw Eg.r _ rr) 3 0
def uM:Wq:=⟨Eg.gt ng,"_law_alike",aN 113,["_law_one","_law_other","_law_day","_law_more","_law_some","_law_now","_law_number","_law_told"],16,[0,4,18,0,2,0,5,18,1,2,1,4,0,0,4,6,9,6,5,7,1,2,10,0,2,6,0,1,5,0,0,5,6,9,6,4,9,3,10,1,2,6,0,0,7,0,1,2,0,5,101,1,7,0,0,0,2,11,0,1,0]⟩
abbrev BA:=aw (uM.b [4] [9,6,5,7,1,2,10,0,2,6,0]) _ rr
abbrev BB:=aw (uM.b [6] [9,6,4,9,3,10,1,2,6,0]) _ rr
def o8:=ax (aw uM.r _ rr) 4 4
def Eh:Wq:=⟨uM.gt o8,"law",aN 114,["_law_script","_law_names_here","_law_rows_here","_law_cell_here","_law_word","_law_day","_law_more","_law_one","_law_other","_law_k","_law_later","_law_some"],17,[0,1,17,18,0,0,2,13,0,1,0,3,4,18,0,7,0,4,0,4,3,0,5,4,6,3,0,6,1,5,4,6,3,15,2,4,5,6,3,1,0,7,67,108,2,0,8,67,1,2,6,1,42,7,42,8,0,0,1,9,0,10,4,18,0,1,9,5,4,0,11,19,7,10,8,101,1,11,0,19,8,10,9,0,1,0,0,0,7,8,10,101,2,0,0]⟩
abbrev RH:=aw (Eh.b [18] [0,10,4,18,0,1,9,5,4,0,11,19,7,10,8,101,1,11,0,19,8,10,9,0,1,0,0,0,7,8,10,101,2,0]) _ rr
def F_law:=ax (aw Eh.r _ rr) 1 11
end Lw
namespace DL
open PySem L2
theorem jp:∀(n m:Nat)(d:D),n<=m->aK n d=true->aK m d=true
 |n,m,.non,_,_=>by simp
 |n,m,.bl _,_,_=>by simp
 |n,m,.int _,_,_=>by simp
 |n,m,.str _,_,_=>by simp
 |n,m,.ty _,_,h=>by cases n<;>simp at h
 |n,m,.dk _ _,_,h=>by simp at h
 |n,m,.dt _ _,_,h=>by simp at h
 |0,m,.tup _,_,h=>by simp at h
 |0,m,.lst _,_,h=>by simp at h
 |n+1,0,_,h,_=>by lia
 |n+1,m+1,.tup ds,hl,h=>by
  simp [aK,all_eq_true]at h |-;exact λd hd=>jp n m d N9 (h d hd)
 |n+1,m+1,.lst ds,hl,h=>by
  simp [aK,all_eq_true]at h |-;exact λd hd=>jp n m d N9 (h d hd)
theorem o9:∀(ds:LD),(∀d∈ds,gS d d=true)->jI ds ds=true
 |[],_=>by simp [jI]
 |d::ds,h=>by
  simp [jI,h d mX];exact o9 ds λe he=>h e (mZ _ he)
theorem nj:∀(n:Nat)(d:D),aK n d=true->gS d d=true
 |n,.non,_=>by simp
 |n,.bl _,_=>by simp
 |n,.int _,_=>by simp
 |n,.str _,_=>by simp
 |n,.ty _,h=>by cases n<;>simp at h
 |n,.dk _ _,h=>by simp at h
 |n,.dt _ _,h=>by simp at h
 |0,.tup _,h=>by simp at h
 |0,.lst _,h=>by simp at h
 |n+1,.tup ds,h=>by
  simp [aK,all_eq_true]at h;exact o9 ds λd hd=>nj n d (h d hd)
 |n+1,.lst ds,h=>by
  simp [aK,all_eq_true]at h;exact o9 ds λd hd=>nj n d (h d hd)
end DL
namespace DL
@[simp] abbrev sF (d:D):OB:=some (d,false)
@[simp] noncomputable abbrev lT (ds:LD):OB:=some (.lst ds,true)
@[simp] noncomputable abbrev sI (x:Int):OB:=some (.int x,false)
@[simp] noncomputable abbrev sS (x:PySem.Str):OB:=some (.str x,false)
@[simp] noncomputable abbrev sT (x:LD):OB:=some (.tup x,false)
@[simp] noncomputable abbrev sL (x:LD):OB:=some (.lst x,false)
@[simp] noncomputable abbrev sO (x:Bool):OB:=some (.bl x,false)
def bK {r:OB}{d:D}{b:Bool}(h:XY r d b=true:=by decide +kernel):r=some (d,b):=xj h
def cN {p q:Prop}[Decidable p](h:p)(n:decide p=false:=by decide +kernel):q:=absurd h (of_decide_eq_false n)
end DL
namespace Lw
open PySem DL L2
def BC (d:D)(r:LD):mq (d::r) 0=some d:=by have:=jd (xs:=d::r) (j:=0) X9;simpa using this
def G7 (d e:D)(r:LD):mq (d::e::r) 1=some e:=by have:=jd (xs:=d::e::r) (j:=1) X9;simpa using this
def at2 (d e f:D)(r:LD):mq (d::e::f::r) 2=some f:=by have:=jd (xs:=d::e::f::r) (j:=2) X9;simpa using this
noncomputable def bY (k:Str):Bool:=decide (k = "death") || decide (k = "lost") || decide (k = "found")
noncomputable def da (k:Str):Bool:=decide (k = "chosen") || decide (k = "heir") || decide (k = "leave") || decide (k = "paper") || decide (k = "like") || decide (k = "copy") || decide (k = "call")
structure DeedP (kind:Str)(aj:List D):Prop where
 flat:aV aj=true
 plain:aj.all (aK 5)=true
 three:bY kind=true->∃(day:Int)(p:Str),aj=[.int day,.str p]
 slg:da kind=true->∃(day:Int)(p:Str)(r:List D),aj=.int day::.str p::r
noncomputable def row (h:Int)(kind:Str)(aj:LD):D:=.tup [.int h,.tup (.str kind::aj)]
def rN (r:D):Prop:=∃h kind aj,r=row h kind aj/\DeedP kind aj
def rN.flat (h:rN r):aP r=true:=by obtain⟨a,k,aj,rfl,dp⟩:=h;simp[row,dp.flat]
theorem bq (h:∀d∈ds,aP d=true):aV ds=true:=by
 induction ds with
 |nil=>rfl
 |cons d r M=>simp_all
def bH (zs:LS):aV (zs.map D.str)=true:=by
 induction zs with
 |nil=>rfl
 |cons a l M=>simp[M]
def aF:D->Int
 |.tup (.int h::_)=>h
 |_=>0
noncomputable def kindOf:D->Str
 |.tup [_,.tup (.str k::_)]=>k
 |_=>("" : Str)
noncomputable def a9:D->Int
 |.tup [_,.tup (_::.int d::_)]=>d
 |_=>0
noncomputable def rO (p:Str)(day:Int):LD->Bool
 |[.int d,.str q]=>decide (q=p) && decide (d<=day)
 |_=>false
def told (ws:LS)(p:Str)(day:Int):D->Bool
 |.tup [_,.tup (.str kind::aj)]=>decide (kind∈ws) && rO p day aj
 |_=>false
def bD (h:Int)(kind:Str)(aj:LD):aZ [row h kind aj]=sS kind:=ah rr (ai (by simp[row,G7,BC]))
def km (h:bY k=true):k = "death" \/ k = "lost" \/ k = "found":=by
 unfold bY at h;lia
def lZ (h:da k=true):k = "chosen" \/ k = "heir" \/ k = "leave" \/ k = "paper" \/ k = "like" \/ k = "copy" \/ k = "call":=by
 unfold da at h;lia
def Nn (h:bY k=true\/da k=true):lP bX (.str k) (.str "day")=sI 0:=by
 rcases h with h|h
 .rcases km h with rfl|rfl|rfl<;>exact bK
 .rcases lZ h with rfl|rfl|rfl|rfl|rfl|rfl|rfl<;>exact bK
def BD (h:bY k=true):lP bX (.str k) (.str "person")=sI 1:=by
 rcases km h with rfl|rfl|rfl<;>exact bK
def Jw (h:bY k=true\/da k=true):lu (.str k) (.str "root")=sO false:=by
 rcases h with h|h
 .rcases km h with rfl|rfl|rfl<;>exact bK
 .rcases lZ h with rfl|rfl|rfl|rfl|rfl|rfl|rfl<;>exact bK
def aS {h:Int}{k:Str}{aj:LD}{part:Str}{i:Nat}{d:D}(hi:lP bX (.str k) (.str part)=sI i)(hd:aj[i]? = some d):av [row h k aj,.str part]=some (d,false):=by
 refine ah rr (ai ?_);refine aY (.tup (.str k::aj)) (.int (1+i)) (by simp[row,G7]) (aY _ _ rr (aY _ _ (a0 _ rr (bD _ _ _)) rr hi) X9) ?_;have M:=(vV hd).1;have:mq (.str k::aj) (1+(i:Int))=some d:=by
  have:=jd (xs:=(.str k:D)::aj) (j:=i+1) s9;grind
 simp[this]
def rP {h:Int}{k:Str}{aj:LD}{d:Int}{r:LD}(hk:bY k=true\/da k=true)(hr:aj=.int d::r):bo [row h k aj]=sI d:=by
 subst hr;refine ah rr (ao (cm (aY _ _ (a0 _ rr (bD _ _ _)) rr (Jw hk))) (ai (a0 _ rr (aS (Nn hk) rr))))
def nn (k:Str)(ws:LS):G5 (.str k) (ws.map .str)=decide (k∈ws):=by
 induction ws with
 |nil=>simp[G5]
 |cons w ws M=>
  grind[G5,yp]
def kQ (ws:LS):(ws.map D.str).all gW=true:=by
 simp
def iQ (k:Str)(ws:LS):HB (.str k) (.tup (ws.map .str))=sO (decide (k∈ws)):=by
 simp only[HB,f7,vJ,nn];rw[if_pos ⟨rr,kQ ws⟩]
def Jx (hr:rN r)(ws:LS)(hw:∀w∈ws,bY w=true)(p:Str)(day:Int):qg [r,.tup (ws.map .str),.str p,.int day]=sO (told ws p day r):=by
 obtain⟨h,kind,aj,rfl,dp⟩:=hr;have M:f2 _ (fA _ (fV 0 ay)) (am 1) [some (row h kind aj,false),sF _,sS p,sI day]=sF _:=
  aY _ _ (a0 _ rr (bD _ _ _)) rr (iQ _ ws)
 have O:told ws p day (row h kind _)=(decide _ && rO p _ aj):=rr;refine ah rr (ai (cj M λhk=>?_));have h3:=hw _ (xQ hk);obtain⟨d,q,rfl⟩:=dp.three h3;refine cj (b1:=false) ?_ λ_=>?_
 .exact aY _ _ (a0 _ rr (aS (BD h3) rr)) rr X9
 .exact aY _ _ (a0 _ rr (rP (.inl h3) rr)) rr X9
def Jy (ds:LD):um ds=ds.zipIdx.map λx=>.tup [.int x.2,x.1]:=by
 unfold um;apply ext_getElem?;intro i;simp;cases ds[i]?<;>simp
noncomputable def ag (aa:LD)(ae:Int):List (D×Nat):=aa.zipIdx.filter λx=>decide (aF x.1<=ae)
def kn (aa:LD)(hr:∀r∈aa,rN r)(hl:aa.length<=1000)(ae:Int):ej [.tup aa,.int ae]=lT ((ag aa ae).map λx=>.int x.2):=by
 have hc:=cS (fi:=Ia (am 0)) (nT:=2) (cap:=[1]) (tg:=HQ [0,1]) (c:=bP (f2 O5 (jx 1 0) (am 2))) (fe:=am 0) (ρ:=[sT aa,sI ae]) aa.zipIdx (λx=>.tup [.int x.2,x.1]) (λx=>decide (aF x.1<=ae)) (λx=>.int x.2)
  (by simp[Jy]) s9 λx hx=>by
   obtain⟨h,kind,aj,e,_⟩:=hr _ (List.fst_mem_of_mem_zipIdx hx);refine⟨_,rr,cm ?_,λ_=>⟨false,by simp[cx]⟩⟩;simp[cx,e,row,BC,aF]
 exact ah rr (ai hc)
def pL (aa:LD)(ae:Int)(ws:LS)(p:Str)(day:Int):List (D×Nat):=(ag aa ae).filter λx=>told ws p day x.1
def Ei (h:x∈pL aa ae ws p day):aa[x.2]? = some x.1/\told ws p day x.1=true:=by
 obtain⟨h1,h2⟩:=vN h;exact⟨(List.mk_mem_zipIdx_iff_getElem? ).mp (vN h1).1,h2⟩
def bg {aa:LD}{i:Nat}{r:D}(h:aa[i]? = some r):mq aa (i:Int)=some r:=by
 obtain⟨M,e⟩:=vV h;rw[jd M,e]
def No (aa:LD)(ae:Int)(ws:LS)(p:Str)(day:Int):(pL aa ae ws p day).length<=aa.length:=by
 have h1:=vM (λx=>told ws p day x.1) (ag aa ae);have h2:=vM (λx=>decide (aF x.1<=ae)) aa.zipIdx;rw[length_zipIdx]at h2;exact vR h1 h2
def xp (aa:LD)(hr:∀r∈aa,rN r)(hl:aa.length<=1000)(ae:Int)(ws:LS)(hw:∀w∈ws,bY w=true)(p:Str)(day:Int):
  kM [.tup aa,.int ae,.tup (ws.map .str),.str p,.int day]=lT ((pL aa ae ws p day).map λx=>.int x.2):=by
 have hc:=cS (fi:=c9 _) (nT:=1) (cap:=[2,3,4,0]) (tg:=eU 0) (c:=bP (fA qg (ak (f2 fu (am 4) (am 0)) (fV 1 (fV 2 (fV 3 ay)))))) (fe:=am 0)
  (ρ:=[sT aa,sF _,sT (ws.map .str),sS p,sI day]) (ag aa ae) _ _ (λx=>.int x.2)
  (by
   show(fA ej (fV 0 (fV 1 ay)) _).bind _=_;rw[a0 _ rr (kn aa hr hl ae)];rfl) (by have:=vM (λx:D×Nat=>decide (aF x.1<=ae)) aa.zipIdx;rw[length_zipIdx]at this;exact vR this N9) λx hx=>by
   have M:=(List.mk_mem_zipIdx_iff_getElem? (x:=x.1) (i:=x.2)).mp (vN hx).1;refine⟨_,rr,cm (a0 _ ?_ (Jx (hr _ (vL M)) ws hw p day)),λ_=>⟨false,by simp[cx]⟩⟩;have ha:=bg M;simp[cx,ha]
 exact ah rr (ai hc)
def kA (x:D×Nat):List At:=[.i (a9 x.1),.i x.2]
def bL (a b:D×Nat):Bool:=decide (a9 a.1<a9 b.1\/(a9 a.1=a9 b.1/\(a.2:Int)<b.2))
def gL:D×Nat->List (D×Nat)->D×Nat
 |b,[]=>b
 |b,x::r=>if bL b x=true then gL x r else gL b r
def OT:List (D×Nat)->Option (D×Nat)
 |[]=>none
 |x::r=>some (gL x r)
def RI (a b c d:Int):aX [.i a,.i b] [.i c,.i d]=some (decide (a<c\/(a=c/\b<d))):=by
 rw[aX];by_cases h:a=c
 .simp_all[aX]
 simp_all
def xq (a b:D×Nat):aX (kA a) (kA b)=some (bL a b):=RI _ _ _ _
def xr (l:List (D×Nat)):cI (l.map kA)=true:=by
 simp_all[cI,xq]
theorem oA:∀(r:List (D×Nat))(b:D×Nat),pj (kA b,.int b.2) (r.map λx=>(kA x,D.int x.2))=.int (gL b r).2
 |[],b=>rr
 |x::r,b=>by
  rw[uY,pj,gL];rw[xq];by_cases h:bL b x=true
  .rw[if_pos h,if_pos (by rw[h])];exact oA r x
  .rw[if_neg h,if_neg (by simpa using h)];exact oA r b
theorem rQ:∀(r:List (D×Nat))(b:D×Nat),gL b r∈b::r
 |[],b=>by simp[gL]
 |x::r,b=>by
  rw[gL];split
  .exact mZ _ (rQ r x)
  .rcases vP (rQ r b)with h|h
   .rw[h];exact mX
   simp_all
theorem gM {α:Type}{f:D->Option D}{g h:α->D}:∀(l:List α),(∀x∈l,f (g x)=some (h x))->iK f (l.map g)=some (l.map h)
 |[],_=>rr
 |x::l,hx=>by
  rw[uY,iK,hx x mX,gM l λy hy=>hx y (mZ _ hy)];rfl
theorem fX {α:Type}{g:α->D}{h:α->List At}:∀(l:List α),(∀x∈l,Bl (g x)=some (h x))->dO (l.map g)=some (l.map h)
 |[],_=>rr
 |x::l,hx=>by
  rw[uY,dO,hx x mX,fX l λy hy=>hx y (mZ _ hy)];rfl
def p4:LS:=[("lost" : Str),"found"]
def ko:∀w∈p4,bY w=true:=by
 intro w hw;rcases vP hw with rfl|hw
 .decide +kernel
 .rcases vP hw with rfl|hw
  .decide +kernel
  simp_all
def z8 (aa:LD)(ae:Int)(p:Str)(day:Int):Bool:=match OT (pL aa ae p4 p day) with
 |none=>true
 |some b=>decide (kindOf b.1 = "found")
def rR (hw:∀w∈ws,bY w=true)(hr:rN r)(O:told ws p day r=true):∃h k d,r=row h k [.int d,.str p]/\bY k=true/\k∈ws/\d<=day:=by
 obtain⟨h,kind,aj,rfl,dp⟩:=hr;have M:(decide _ && rO p _ _)=true:=O;rw[vC]at M;have hm:=xQ M.1;obtain⟨d,q,rfl⟩:=dp.three (hw _ hm);have hq:(decide _ && decide _)=true:=M.2;rw[vC]at hq;have:=xQ hq.1;subst this;exact⟨h,kind,d,rr,hw _ hm,hm,xQ hq.2⟩
def Ej {aa:LD}{i:Nat}{h d:Int}{k p:Str}(M:aa[i]? = some (row h k [.int d,.str p]))(h3:bY k=true):gF [.tup aa,.int i]=sT [.int d,.int i]:=by
 have ha:=bg M;refine ah rr (ai (a0 _ (a7 (a0 [row h k [.int d,.str p]] (by simp[ha]) (rP (.inl h3) rr)) rr) q9))
def Np (aa:LD)(hr:∀r∈aa,rN r)(hl:aa.length<=1000)(ae:Int)(p:Str)(day:Int):lU [.tup aa,.int ae,.str p,.int day]=sO (z8 aa ae p day):=by
 have g:=xp aa hr hl ae p4 ko p day;have c:=No aa ae p4 p day;have O:∀x∈pL aa ae p4 p day,∃h k d,aa[x.2]? = some (row h k [.int d,.str p])/\x.1=row h k [.int d,.str p]/\bY k=true:=λx hx=>by
  obtain⟨U,f⟩:=Ei hx;obtain⟨h,k,d,e,h3,_⟩:=rR ko (hr _ (vL U)) f;exact⟨h,k,d,by rw[U,e],e,h3⟩
 unfold z8;generalize i:pL aa ae p4 p day=sel at g O c |-;have M:fA kM (fV 0 (fV 1 (ak (fA dN (ak (fS "lost") (ak (fS "found") ay))) (fV 2 (fV 3 ay))))) [sT aa,sI ae,sS p,sI day,none]=lT (sel.map λx=>.int x.2):=
  a0 _ (by simp[p4,sizeLine]) g
 have a:aV (sel.map λx=>D.int x.2)=true:=bq λd hd=>by obtain⟨x,_,rfl⟩:=vO hd;rfl
 cases sel with
 |nil=>exact ah rr (bx M a (aR (cm X9) (ai rr)))
 |cons x r=>
  refine ah rr (bx M a (ao (cm s9) (ai ?_)));obtain⟨h,k,d,U,e,h3⟩:=O (gL x r) (rQ r x);have hb:kindOf (gL x r).1=k:=by rw[e];rfl
  show _=some (D.bl (decide _),false);rw[hb];refine aY (.str k) (.str "found") (a0 [row h k [.int d,.str p]] (a7 (d:=row h k [.int d,.str p]) (b:=false) (aY (.tup aa) (.int (gL x r).2) rr ?_ (by simp[bg U])) rr) (bD _ _ _)) rr X9;have hm:∀ρ:DL.Env,ρ[0]? = some (sT aa)->iK (yW [0] (fA gF (fV 1 (fV 0 ay))) ρ) ((x::r).map λx=>D.int x.2)=some ((x::r).map λx=>.tup [.int (a9 x.1),.int x.2]):=λρ h0=>
   gM (x::r) λy hy=>by
    obtain⟨h,k,d,U,e,h3⟩:=O y hy;have hd:a9 y.1=d:=by rw[e];rfl
    rw[hd];show(fA gF _ _).map _=_;rw[a0 [.tup aa,.int y.2] (by simp[cx,h0]) (Ej U h3)];rfl
  have hk:dO ((x::r).map λx=>D.tup [.int (a9 x.1),.int x.2])=some ((x::r).map kA):=fX (x::r) λy _=>rr;have hz:((x::r).map kA).zip ((x::r).map λx=>D.int x.2)=(kA x,.int x.2)::r.map λx=>(kA x,D.int x.2):=by
   rw[zip_map'];rfl
  unfold CB Rk;show((some _).bind _)=_;simp only[vJ];rw[hm _ rr];simp only[vJ];rw[hk];simp only[vJ];rw[if_pos (xr _),hz];simp only[oA]
def eE:LS:=[("death" : Str)]
def eF:∀w∈eE,bY w=true:=by
 intro w hw;rcases vP hw with rfl|hw
 .decide +kernel
 simp_all
def rS (aa:LD)(ae:Int)(p:Str)(day:Int):Bool:=(pL aa ae eE p day).isEmpty
def z9 (aa:LD)(hr:∀r∈aa,rN r)(hl:aa.length<=1000)(ae:Int)(p:Str)(day:Int):qh [.tup aa,.int ae,.str p,.int day]=sO (rS aa ae p day):=by
 have M:=xp _ hr hl ae _ eF p day;unfold rS;generalize pL _ _ _ p _=O at M |-;refine ah rr (ai (aY (.int ((O.map λx=>D.int x.2).length:Nat)) _ ?_ rr ?_))
 .exact a0 _ (a7 (a0 _ (by simp[sizeLine,eE]) M) rr) jf
 .cases O<;>simp
  lia
noncomputable def dm:D->Str
 |.tup [_,.tup (_::_::.str p::_)]=>p
 |_=>("" : Str)
noncomputable def zF:LS:=[("chosen" : Str),"heir","leave","paper","like","copy","call"]
theorem rT (k:Str):da k=decide (k∈zF):=by
 simp_all[da,zF,Bool.or_assoc]
def BE:gz=.tup (zF.map .str):=rfl
def p5 (k:Str)(ws:LS):dz (.str k) (.tup (ws.map .str))=sO (!decide (k∈ws)):=by
 simp only[dz,f7,vJ,nn];rw[if_pos ⟨rr,kQ ws⟩]
def Jz (h:da k=true):lP bX (.str k) (.str "by")=sI 1:=by
 rcases lZ h with rfl|rfl|rfl|rfl|rfl|rfl|rfl<;>exact bK
def fG (aa:LD)(ae:Int)(r:D):Bool:=(decide (aF r<=ae) && da (kindOf r)) && (rS aa ae (dm r) (a9 r) && z8 aa ae (dm r) (a9 r))
def kq {aa:LD}{i:Nat}{h:Int}{kind:Str}{aj:LD}(M:aa[i]? = some (row h kind aj))(ae:Int):cD [.tup aa,.int ae,.int i]=sO (decide (h<=ae)):=by
 have O:=(vV M).1;have ha:=bg M;refine ah rr (ai ?_);have:=cj (f1:=jG O5 UE (fI 0) (am 2) (fA lI (fV 0 ay))) (f2:=f2 O5 (f2 fu (f2 fu (am 0) (am 2)) (fI 0)) (am 1)) (ρ:=[sT aa,sI ae,sI i]) (q:=decide (h<=ae))
  (by
   refine(iO (z:=.int aa.length) (b3:=false) (b4:=false) (p:=true) (q:=true) rr rr X9 X9 λ_=>?_).trans rr;simp;lia) λ_=>by simp[ha,row,BC]
 exact this
def rV (aa:LD)(hr:∀r∈aa,rN r)(hl:aa.length<=1000)(ae:Int){i:Nat}{r:D}(U:aa[i]? = some r):ji [.tup aa,.int ae,.int i]=sO (fG aa ae r):=by
 obtain⟨h,kind,aj,rfl,dp⟩:=hr r (vL U);have hk:=kq U ae;have ha:=bg U;have O:∀(ρ:DL.Env),f2 fu (am 0) (am 2) ρ=some (row h kind aj,false)->fA aZ (ak _ ay) ρ=sS kind:=λρ e=>a0 [row h kind aj] (a7 e rr) (bD _ _ _);have M:f2 fu (am 0) (am 2) [sT aa,sI ae,sI i,none,none]=some (row h kind aj,false):=by simp[ha]
 have hc:(lG (mz (bP (fA cD (fV 0 (fV 1 (fV 2 ay)))))) (bP (f2 dz (fA aZ (ak (f2 fu (am 0) (am 2)) ay)) (fC gz)))) [sT aa,sI ae,sI i,none,none]=some (!decide (h<=ae) || !da kind):=by
  refine b7 (ba (cm (a0 _ rr hk))) λ_=>cm (aY (.str kind) gz (O _ M) rr ?_);rw[BE,rT];exact p5 kind zF
 have hs:fG aa ae (row h kind aj)=((decide (h<=ae) && da kind) && (rS aa ae (dm (row h kind aj)) (a9 (row h kind aj)) && z8 aa ae (dm (row h kind aj)) (a9 (row h kind aj)))):=rr;cases hb:(decide (h<=ae) && da kind) with
 |false=>
  rw[hs,hb];refine ah rr (aR (hc.trans ?_) (ai rr));rw[<-Bool.not_and,hb];rfl
 |true=>
  rw[hs,hb];rw[vC]at hb;obtain⟨day,p,a,rfl⟩:=dp.slg hb.2;rw[Bool.true_and];refine ah rr (ao (hc.trans (by rw[hb.1,hb.2];rfl)) (eQ (.str p) (a0 _ (a7 M rr) (aS (i:=1) (Jz hb.2) rr)) rr (eQ (.int day) (a0 [row h kind (.int day::.str p::a)] (a7 (b:=false) (by simp[ha]) rr) (rP (.inr hb.2) rr)) rr (ai ?_))));exact cj (b1:=false) (a0 _ X9 (z9 aa hr hl ae p day)) λ_=>a0 _ X9 (Np aa hr hl ae p day)
inductive Cd:Str->List D->Prop
 |root (o r:Str) (m f:Int):Cd ("root" : Str) [.str o,.int m,.int f,.str r]
 |named (d:Int) (o p:Str):Cd ("named" : Str) [.int d,.str o,.str p]
 |chosen (d:Int) (b o p:Str) (s:Int):Cd ("chosen" : Str) [.int d,.str b,.str o,.str p,.int s]
 |heir (d:Int) (b o p:Str):Cd ("heir" : Str) [.int d,.str b,.str o,.str p]
 |three (k:Str) (hk:k = "death" \/ k = "lost" \/ k = "found") (d:Int) (p:Str):Cd k [.int d,.str p]
 |other (k:Str) (hk:k = "leave" \/ k = "paper" \/ k = "like" \/ k = "copy" \/ k = "call") (d:Int) (b:Str) (r:List D) (hf:aV r=true) (hp:r.all (aK 5)=true):Cd k (.int d::.str b::r)
def Cd.deed (h:Cd k r):DeedP k r:=by
 cases h with
 |root o rl m f=>exact⟨rr,X9,λh=>cN h,λh=>cN h⟩
 |named d o p=>exact⟨rr,X9,λh=>cN h,λh=>cN h⟩
 |chosen d b o p s=>exact⟨rr,X9,λh=>cN h,λ_=>⟨d,b,_,rr⟩⟩
 |heir d b o p=>exact⟨rr,X9,λh=>cN h,λ_=>⟨d,b,_,rr⟩⟩
 |three k hk d p=>exact⟨rr,X9,λ_=>⟨d,p,rr⟩,λh=>by lia⟩
 |other k hk d b r hf hp=>exact⟨by simp[hf],by simp_all,λh=>by rcases hk with rfl|rfl|rfl|rfl|rfl<;>exact cN h,λ_=>⟨d,b,r,rr⟩⟩
def xu (r:D):Prop:=∃h k aj,r=row h k aj/\Cd k aj
def xu.rp (h:xu r):rN r:=by obtain⟨a,k,aj,rfl,d⟩:=h;exact⟨a,k,aj,rr,d.deed⟩
def aG (r:D):Bool:=decide (kindOf r = "root")
def Cd.day (h:Cd k r)(hk:k ≠ "root"):∃d q,r=.int d::q:=by
 cases h with
 |root=>exact absurd rr hk
 |named d=>exact⟨d,_,rr⟩
 |chosen d=>exact⟨d,_,rr⟩
 |heir d=>exact⟨d,_,rr⟩
 |three _ _ d=>exact⟨d,_,rr⟩
 |other _ _ d=>exact⟨d,_,rr⟩
def Cd.day_idx (h:Cd k r)(hk:k ≠ "root"):lP bX (.str k) (.str "day")=sI 0:=by
 cases h with
 |root=>exact absurd rr hk
 |named=>exact bK
 |chosen=>exact bK
 |heir=>exact bK
 |three _ hh=>rcases hh with rfl|rfl|rfl<;>exact bK
 |other _ hh=>rcases hh with rfl|rfl|rfl|rfl|rfl<;>exact bK
def bu (e:f ρ=some (.str a,bb))(h:decide (a=b)=x):bP (f2 lu f (fS b)) ρ=some x:=by simp_all
def tR (r:D):D:=if aG r=true then .non else .int (a9 r)
def gN (g:xu r):aZ [r]=sS (kindOf r):=by
 obtain⟨h,k,aj,rfl,_⟩:=g;exact bD h k _
def rW (g:xu r):bo [r]=some (tR r,false):=by
 obtain⟨h,k,aj,rfl,d⟩:=g;unfold tR;by_cases hk:k = "root"
 .have:aG (row h k aj)=true:=mi hk;rw[if_pos this];exact ah rr (aR (bu (a0 _ rr (bD _ _ _)) (mi hk)) (ai rr))
 .have:aG (row h k aj)=false:=oP hk;rw[if_neg (by rw[this];decide)];obtain⟨dd,q,rfl⟩:=d.day hk;exact ah rr (ao (bu (a0 _ rr (bD _ _ _)) (oP hk)) (ai (a0 _ rr (aS (d.day_idx hk) rr))))
def fD (aa:LD):Prop:=aa.length<=60/\∀r∈aa,xu r
def fD.rp (g:fD aa):∀r∈aa,rN r:=λr hr=>(g.2 r hr).rp
def fD.le (g:fD aa):aa.length<=1000:=vR g.1 H9
def aE (h:x∈ag aa ae):aa[x.2]? = some x.1:=by
 obtain⟨h1,_⟩:=vN h;exact List.mem_zipIdx_iff_getElem?.mp h1
theorem bN (aa:LD)(ae:Int):(ag aa ae).length<=aa.length:=by
 have:=vM (λx=>decide (aF x.1<=ae)) aa.zipIdx;rw[length_zipIdx]at this;exact this
theorem ci (aa:LD)(ae:Int):((ag aa ae).map (·.2)).Nodup:=by
 have h1:(aa.zipIdx.map (·.2)).Nodup:=by simp_all[List.nodup_range']
 exact List.Nodup.sublist (List.Sublist.map _ (filter_sublist)) h1
def cO (aa:LD)(ae:Int):List (D×Nat):=(ag aa ae).filter λx=>!aG x.1
def V1 (aa:LD)(ae:Int):List (D×Nat):=dr (λx=>bZ (kA x)) (cO aa ae)
def BF (h:bZ (kA a)=bZ (kA b)):a.2=b.2:=by
 have h:[a9 _,(a.2:Int)]=[a9 _,(b.2:Int)]:=h;lia
def Nq (ha:a∈ag aa ae)(hb:b∈ag aa ae)(h:a.2=b.2):a=b:=by
 have h1:=aE ha;have h2:=aE hb;rw[h,h2]at h1;exact Prod.ext (vK h1).symm h
def p6 (g:fD aa)(ae:Int):dJ [.tup aa,.int ae]=lT ((V1 aa ae).map λx=>.int x.2):=by
 have hl:=g.1;have m:=bN aa ae;have O:∀x∈ag aa ae,mq aa (x.2:Int)=some x.1/\xu x.1:=λx hx=>⟨bg (aE hx),g.2 _ (vL (aE hx))⟩;have hc:=cS (fi:=c9 (fA ej (fV 0 (fV 1 ay)))) (nT:=1) (cap:=[0]) (tg:=eU 0) (c:=bP (f2 qI (fA bo (ak (f2 fu (am 1) (am 0)) ay)) (fC .non))) (fe:=am 0) (ρ:=[sT aa,sI ae,none]) (ag aa ae) (λx=>.int x.2) (λx=>!aG x.1) (λx=>.int x.2)
  (by
   show(fA ej (fV 0 (fV 1 ay)) _).bind _=_;rw[a0 [.tup aa,.int ae] rr (kn aa g.rp g.le ae)];rfl) N9 λx hx=>by
   obtain⟨ha,f⟩:=O x hx;refine⟨_,rr,cm (aY (tR x.1) .non (a0 [x.1] (by simp[cx,ha]) (rW f)) rr ?_),λ_=>⟨false,by simp[cx]⟩⟩;unfold tR;split<;>simp_all
 have j:=hc;have k:aV ((cO aa ae).map λx=>D.int x.2)=true:=bq λd hd=>by obtain⟨x,_,rfl⟩:=vO hd;rfl
 have n:(cO aa ae).length<=60:=vR (vM _ _) N9;have M:∀x∈cO aa ae,x∈ag aa ae/\aG x.1=false:=λx hx=>by
  obtain⟨h1,h2⟩:=vN hx;lia
 have hm:∀ρ:DL.Env,ρ[0]? = some (sT aa)->iK (yW [0] (fA gF (fV 1 (fV 0 ay))) ρ) ((cO aa ae).map λx=>.int x.2)=some _:=λρ h0=>
  gM (cO aa ae) λx hx=>by
   obtain⟨h1,h2⟩:=M x hx;obtain⟨ha,f⟩:=O x h1;have hd:=rW f;unfold tR at hd;rw[h2,if_neg H9]at hd;have hr:gF [.tup aa,.int x.2]=sT [.int (a9 x.1),.int x.2]:=ah rr (ai (a0 [.int (a9 x.1),.int x.2] (a7 (d:=.int (a9 x.1)) (b:=false) (a0 [x.1] (by simp[ha]) hd) rr) q9));show(fA gF _ _).map _=_;rw[a0 [.tup aa,.int x.2] (by simp[cx,h0]) hr];rfl
 have hk:dO ((cO aa ae).map λx=>D.tup [.int (a9 x.1),.int x.2])=some ((cO aa ae).map kA):=fX _ λx _=>rr;have hz:((cO aa ae).map kA).zip ((cO aa ae).map λx=>D.int x.2)=(cO aa ae).map λx=>(kA x,D.int x.2):=by rw[zip_map']
 have l:((cO aa ae).map (·.2)).Nodup:=List.Nodup.sublist (List.Sublist.map _ (filter_sublist)) (ci aa ae);have U:((cO aa ae).map kA).length<64/\cI ((cO aa ae).map kA)=true/\dX ((cO aa ae).map kA)=true/\(((cO aa ae).map kA).map bZ).Nodup:=by
  refine⟨by rw[vI];lia,xr _,?_,?_⟩
  .unfold dX;rw[Bool.or_eq_true];left;simp[all_eq_true,kA]
  .rw[uP];exact List.Pairwise.map _ (λa b h e=>h (BF e)) (pairwise_map.mp l)
 refine ah rr (bx j k (ai ?_));show(wZ (am 2) _ _)=_;unfold wZ;show((some (D.lst ((cO aa ae).map λx=>D.int x.2),false)).bind _)=_;simp only[vJ];rw[hm _ rr];simp only[vJ];rw[hk];simp only[vJ];rw[if_pos U];unfold fB;rw[hz];have i:((V1 aa ae).map λx=>(kA x,D.int x.2))=dr (λp:List At×D=>bZ p.1) ((cO aa ae).map λx=>(kA x,D.int x.2)):=by
  refine iJ _ (λx hx y hy e=>?_) ((a5 _ _).map _) ?_
  .obtain⟨a,ha,rfl⟩:=vO hx;obtain⟨b,hb,rfl⟩:=vO hy;rw[Nq (M a ha).1 (M b hb).1 (BF e)]
  .exact pairwise_map.mpr (dH _ _)
 rw[<-i,uP];rfl
structure Cl where
 o:Str
 p:Str
 s:Int
 u:Option Int
 n:Nat
def uD:OI->D
 |none=>.non
 |some x=>.int x
noncomputable def aW (c:Cl):D:=.tup [.str c.o,.str c.p,.int c.s,uD c.u,.int c.n]
def Ek (u:OI):aP (uD u)=true:=by cases u<;>rfl
theorem np (c:Cl):aP (aW c)=true:=by simp[aW,Ek]
def iR (cs:List Cl):aV (cs.map aW)=true:=by grind[bq,np]
noncomputable def gO (c:Cl)(day:Int):Bool:=decide (c.s<=day) && (match c.u with|none=>true|some x=>decide (day<x))
def at3 (d e f g:D)(r:LD):mq (d::e::f::g::r) 3=some g:=by have:=jd (xs:=d::e::f::g::r) (j:=3) X9;simpa using this
def at4 (d e f g h:D)(r:LD):mq (d::e::f::g::h::r) 4=some h:=by have:=jd (xs:=d::e::f::g::h::r) (j:=4) X9;simpa using this
def XZ (c:Cl):fu (aW c) (.int 0)=sS c.o:=by simp[aW,BC]
def Ta (c:Cl):fu (aW c) (.int 1)=sS c.p:=by simp[aW,G7]
def cl2 (c:Cl):fu (aW c) (.int 2)=sI c.s:=by simp[aW,at2]
def cl3 (c:Cl):fu (aW c) (.int 3)=some (uD c.u,false):=by simp[aW,at3]
def cl4 (c:Cl):fu (aW c) (.int 4)=sI c.n:=by simp[aW,at4]
def bc (ds:LD)(h:ds.length<=100):dN ds=sT ds:=if_pos (cf N9)
def c8 (ds:LD)(h:ds.length<=100):f6 ds=lT ds:=if_pos (cf N9)
def xw (s day:Int)(u:OI):kO [.int day,.tup [.int s,uD u]]=sO (decide (s<=day) && (match u with|none=>true|some x=>decide (day<x))):=by
 refine ah rr (ai (cj (b1:=false) (by simp[BC]) λ_=>?_));cases u with
 |none=>rfl
 |some x=>rfl
def rX (c:Cl)(day:Int):dL [aW c,.int day]=sO (gO c day):=
 ah rr (ai (a0 _ (aM rr (aM (a0 _ (a7 (aY _ _ rr rr (cl2 c)) (a7 (aY _ _ rr rr (cl3 c)) rr)) (bc _ X9)) rr)) (xw _ _ _)))
def kS (c:Cl):List At:=[.i c.s,.i c.n]
def oB:Cl->List Cl->Cl
 |b,[]=>b
 |b,x::r=>if aX (kS x) (kS b)=some true then oB x r else oB b r
def xx:Cl->List Cl->Cl
 |b,[]=>b
 |b,x::r=>if aX (kS b) (kS x)=some true then xx x r else xx b r
theorem rY:∀(r:List Cl)(b:Cl),pq (kS b,aW b) (r.map λx=>(kS x,aW x))=aW (oB b r)
 |[],b=>rr
 |x::r,b=>by
  rw[uY,pq,oB];split
  .exact rY r x
  .exact rY r b
theorem rZ:∀(r:List Cl)(b:Cl),pj (kS b,aW b) (r.map λx=>(kS x,aW x))=aW (xx b r)
 |[],b=>rr
 |x::r,b=>by
  rw[uY,pj,xx];split
  .exact rZ r x
  .exact rZ r b
def El (cs:List Cl):cI (cs.map kS)=true:=by
 simp_all[cI,kS,RI]
def sd (ρ:DL.Env)(cs:List Cl):iK (Fy gG ρ) (cs.map aW)=some (cs.map λc=>.tup [.int c.s,.int c.n]):=gM cs λc _=>by
 rfl
def p7 (cs:List Cl):dO (cs.map λc=>D.tup [.int c.s,.int c.n])=some (cs.map kS):=fX cs λc _=>rr
def J0 (e:f ρ=some (.lst ((b::r).map aW),bb)):CC f (Fy gG) ρ=some (aW (oB b r),false):=by
 unfold CC Rk;rw[e,vJ];dsimp;rw[sd,vJ,p7,vJ,if_pos (El _)];have:((b::r).map kS).zip ((b::r).map aW)=(kS b,aW b)::r.map λx=>(kS x,aW x):=by rw[zip_map'];rfl
 rw[this];show some _=_;rw[rY]
def RJ (e:f ρ=some (.lst ((b::r).map aW),bb)):CB f (Fy gG) ρ=some (aW (xx b r),false):=by
 unfold CB Rk;rw[e,vJ];dsimp;rw[sd,vJ,p7,vJ,if_pos (El _)];have:((b::r).map kS).zip ((b::r).map aW)=(kS b,aW b)::r.map λx=>(kS x,aW x):=by rw[zip_map'];rfl
 rw[this];show some _=_;rw[rZ]
def jq (rl:Str)(b:Cl)(r:List Cl):Cl:=if rl = "last" then xx b r else oB b r
def J5 (rl:Str)(b:Cl)(r:List Cl):lV [.lst ((b::r).map aW),.str rl]=sS (jq rl b r).p:=by
 unfold jq;by_cases h:rl = "last"
 .rw[if_pos h];exact ah rr (aR (bu rr (mi h)) (ai (aY _ _ (RJ rr) rr (Ta _))))
 .rw[if_neg h];exact ah rr (ao (bu rr (oP h)) (ai (aY _ _ (J0 rr) rr (Ta _))))
theorem se:∀(r:List Cl)(b:Cl),oB b r∈b::r
 |[],b=>by simp[oB]
 |x::r,b=>by
  rw[oB];split
  .exact mZ _ (se r x)
  .rcases vP (se r b)with h|h
   .rw[h];exact mX
   simp_all
theorem sf:∀(r:List Cl)(b:Cl),xx b r∈b::r
 |[],b=>by simp[xx]
 |x::r,b=>by
  rw[xx];split
  .exact mZ _ (sf r x)
  .rcases vP (sf r b)with h|h
   .rw[h];exact mX
   simp_all
def FP (rl:Str)(b:Cl)(r:List Cl):jq rl b r∈b::r:=by
 grind[jq,sf,se]
noncomputable def V2 (cs:List Cl)(o:Str)(day:Int):List Cl:=cs.filter λc=>decide (c.o=o) && gO c day
def oC (cs:List Cl):LS:=mG (f9 (cs.map (·.p)))
def V3:List Cl->Nat
 |[]=>0
 |b::r=>(oB b r).n
def p8 (rl:Str):List Cl->D
 |[]=>.tup [.str "none"]
 |b::r=>if 1<(oC (b::r)).length/\rl = "open" then .tup [.str "parted",.lst ((oC (b::r)).map .str)]
  else .tup [.str "one",.str (jq rl b r).p,.int (V3 ((b::r).filter λc=>decide (c.p=(jq rl b r).p)))]
def jz (cs:List Cl)(o rl:Str)(day:Int):D:=p8 rl (V2 cs o day)
theorem Nr {z:Str}:f9 (z::zs)≠[]:=by
 have:∀(ss:List _)(M:List _),z∈M->z∈ss.foldl j4 M:=λss=>by
  induction ss with
  |nil=>intro M h;exact h
  |cons a l O=>intro M h;exact O _ (yD.mpr (.inl h))
 grind[j4,f9]
def p9:av [row h ("root" : Str) [.str o,.int m,.int f,.str rl],.str "office"]=sS o:=aS (i:=0) bK rr
def FQ:av [row h ("root" : Str) [.str o,.int m,.int f,.str rl],.str "rule"]=sS rl:=aS (i:=3) bK rr
def nu (zs:LS):eP (zs.map .str)=some zs:=by
 simp
def nv (cs:List Cl)(hl:cs.length<=60)(day:Int):jZ [.lst (cs.map aW),row h ("root" : Str) [.str o,.int m,.int f,.str rl],.int day]=some (jz cs o rl day,false):=by
 let rt:D:=row h ("root" : Str) [.str o,.int m,.int f,.str rl];have h1:=cS (fi:=c9 (am 0)) (nT:=1) (cap:=[2,1]) (tg:=eU 0) (c:=iE (bP (f2 lu (jx 0 0) (fA av (fV 2 (ak (fS "office") ay))))) (bP (fA dL (fV 0 (fV 1 ay))))) (fe:=am 0)
  (ρ:=[sL (cs.map aW),some (rt,false),sI day,none,none,none,none]) cs aW (λc=>decide (c.o=o) && gO c day) aW X9 N9 λc hc=>by
   refine⟨_,rr,cR (cm (aY (.str c.o) (.str o) (aY (aW c) (.int 0) (by simp[cx]) rr (XZ c)) (a0 [rt,.str "office"] (by simp[cx]) p9) X9)) λ_=>cm (a0 [aW c,.int day] (by simp[cx]) (rX c day)),λ_=>⟨false,by simp[cx]⟩⟩
 have d:jw (c9 (am 0)) 1 [2,1] (eU 0) _ (am 0) _=lT ((V2 cs o day).map aW):=h1;have a:(V2 cs o day).length<=60:=vR (vM _ _) hl;unfold jz;generalize V2 cs o day=al at d a;have h2:∀ρ:DL.Env,ρ[3]? = some (lT (al.map aW))->f1 jM (jw (c9 (am 3)) 1 [] (eU 0) ym (jx 0 1)) ρ=lT ((oC al).map .str):=λρ h3=>by
  have hc:=fK (fi:=c9 (am 3)) (nT:=1) (cap:=[]) (tg:=eU 0) (fe:=jx 0 1) (ρ:=ρ) al aW (λc=>.str c.p) (by simp[h3]) N9 λc hc=>⟨_,rr,false,aY (aW c) (.int 1) (by simp[cx]) rr (Ta c)⟩;have e2:al.map (λc=>D.str c.p)=(al.map (·.p)).map .str:=by rw[uP];rfl
  rw[e2]at hc;unfold f1;rw[hc,vJ];show(eP ((al.map (·.p)).map .str)).bind _=_;rw[nu,vJ,if_pos (by rw[vI];lia)];rfl
 have i:aV ((oC al).map D.str)=true:=bH _;refine ah rr (bx (ds:=al.map aW) d (iR al) (bx (ds:=(oC al).map .str) (h2 _ rr) i ?_));cases al with
 |nil=>rfl
 |cons b r=>
  have j:(oC (b::r)).length≠0:=by
   unfold oC;rw[(cW _).length_eq];grind[Nr]
  refine ao (cm (by simp[j])) ?_;have M:∀ρ:DL.Env,ρ[1]? = some (some (rt,false))->fA av (fV 1 (ak (fS "rule") ay)) ρ=sS rl:=λρ k=>a0 [rt,.str "rule"] (by simp[k]) FQ;by_cases hp:1<(oC (b::r)).length/\rl = "open"
  .have:p8 rl (b::r)=.tup [.str "parted",.lst ((oC (b::r)).map .str)]:=by rw[p8,if_pos hp]
   rw[this];exact aR (cR (p:=true) (q:=true) (cm s9) λ_=>bu (bb:=false) (M _ rr) (mi hp.2)) (ai (a0 [.str "parted",.lst ((oC (b::r)).map .str)] X9 (bc _ X9)))
  .have:p8 rl (b::r)=.tup [.str "one",.str (jq rl b r).p,.int (V3 ((b::r).filter λc=>decide (c.p=(jq rl b r).p)))]:=by rw[p8,if_neg hp]
   rw[this];have O:iE (bP (f2 Q6 (fA lI (fV 4 ay)) (fI 1))) (bP (f2 lu (fA av (fV 1 (ak (fS "rule") ay))) (fS "open"))) [sL (cs.map aW),some (rt,false),sI day,lT ((b::r).map aW),lT ((oC (b::r)).map .str),none,none]=some false:=by
    by_cases h5:1<(oC (b::r)).length
    .exact cR (p:=true) (q:=false) (cm s9) λ_=>bu (bb:=false) (M _ rr) (oP λe=>hp ⟨h5,e⟩)
    .exact cR (p:=false) (q:=false) (cm s9) X9
   have l:=FP rl b r;let ch:=jq rl b r;have g:=cS (fi:=c9 (am 3)) (nT:=1) (cap:=[5]) (tg:=eU 0) (c:=bP (f2 lu (jx 0 1) (am 1))) (fe:=am 0) (ρ:=[sL (cs.map aW),some (rt,false),sI day,lT ((b::r).map aW),lT ((oC (b::r)).map .str),sS ch.p,none]) (b::r) aW (λc=>decide (c.p=ch.p)) aW X9 N9 λc hc=>⟨_,rr,cm (aY (.str c.p) (.str ch.p) (aY (aW c) (.int 1) (by simp[cx]) rr (Ta c)) (by simp[cx]) X9),λ_=>⟨false,by simp[cx]⟩⟩;obtain⟨b2,U,hf⟩:∃b2 U,(b::r).filter (λc=>decide (c.p=ch.p))=b2::U:=by
    cases hq:(b::r).filter (λc=>decide (c.p=ch.p)) with
    |nil=>
     have:=List.filter_eq_nil_iff.mp hq _ l;simp[ch]at this
    |cons b2 U=>exact⟨b2,U,rr⟩
   rw[hf]at g |-;refine ao O (eQ (.str ch.p) (a0 [.lst ((b::r).map aW),.str rl] (aM X9 (a7 (M _ rr) rr)) (J5 rl b r)) rr (eQ (aW (oB b2 U)) (J0 (bb:=true) g) (np _) (ai (a0 [.str "one",.str ch.p,.int (oB b2 U).n] (aM rr (aM rr (a7 (aY (aW (oB b2 U)) (.int 4) rr rr (cl4 _)) rr))) (bc _ X9)))))
def OU:D->D
 |.tup ds=>.tup (gT ds none (some 2))
 |d=>d
def gP (cs:List Cl)(o rl p:Str)(day:Int):Bool:=gS (OU (jz cs o rl day)) (.tup [.str "one",.str p])
def FR (rl:Str)(M:List Cl):∃ds,p8 rl M=.tup ds/\ds.all (aK 5)=true:=by
 cases M with
 |nil=>exact⟨_,rr,X9⟩
 |cons b r=>
  rw[p8];split
  .simp
  .exact⟨_,rr,X9⟩
def J6 (h:ds.all (aK 5)=true):(gT ds lo hi).all (aK 5)=true:=by
 rw[all_eq_true]at h |-;exact λd hd=>h d (List.mem_of_mem_drop (mem_of_mem_take hd))
def uO (h:ds.all (aK 5)=true):aK 40 (.tup ds)=true:=jp 6 40 _ H9 (by simpa only[aK]using h)
def xy (cs:List Cl)(hl:cs.length<=60)(p:Str)(day:Int):dj [.lst (cs.map aW),row h ("root" : Str) [.str o,.int m,.int f,.str rl],.str p,.int day]=sO (gP cs o rl p day):=by
 have hb:=nv cs hl (h:=h) (o:=o) (rl:=rl) (m:=m) (f:=f) day;obtain⟨ds,e,hd⟩:=FR rl _;have M:jz cs o rl day=.tup ds:=e;refine ah rr (ai (aY (OU (jz cs o rl day)) (.tup [.str "one",.str p]) ?_ q9 ?_))
 .have hc:=aI (fa:=fV 0 (fV 1 (fV 3 ay))) (ρ:=[sF _,some (row h _ _,false),sS p,sF _]) rr hb;rw[M]at hc |-;unfold G6;rw[show(List.map _ _++List.replicate 0 _:DL.Env)=[sF _,some _,sF _,sF _]from rr,hc];rfl
 .unfold gP lu;rw[if_pos];rw[M];exact⟨uO (J6 hd),uO X9⟩
noncomputable def aq (j:Nat):D->Str
 |.tup [_,.tup (_::aj)]=>match aj[j]? with
  |some (.str s)=>s
  |_=>("" : Str)
 |_=>("" : Str)
noncomputable def eG (j:Nat):D->Int
 |.tup [_,.tup (_::aj)]=>match aj[j]? with
  |some (.int s)=>s
  |_=>0
 |_=>0
def Cd.root_of (h:Cd ("root" : Str) r):∃o rl,∃m f:Int,r=[.str o,.int m,.int f,.str rl]:=by
 generalize hk:("root" : Str)=k at h;cases h with
 |root o rl m f=>exact⟨o,rl,m,f,rr⟩
 |named=>exact cN hk
 |chosen=>exact cN hk
 |heir=>exact cN hk
 |three _ hh=>rcases hh with rfl|rfl|rfl<;>exact cN hk
 |other _ hh=>rcases hh with rfl|rfl|rfl|rfl|rfl<;>exact cN hk
def vc {κ α:Type}[DecidableEq κ]{ks:List κ}{k:κ}{x y:α}:∀ {xs:List α},y∈cQ ks xs k x->y=x\/y∈xs:=by
 intro xs h;unfold cQ at h;split at h
 .rename_i M;clear M;induction ks generalizing xs with
  |nil=>simp at h
  |cons a ks O=>
   cases xs with
   |nil=>simp at h
   |cons b xs=>
    grind[List.zipWith_cons_cons]
 grind
theorem ve:∀(l:List (dB×D))(a:LK×LD)(y:D),y∈(l.foldl rb a).2->y∈a.2\/∃p∈l,p.2=y
 |[],a,y,h=>.inl h
 |p::l,a,y,h=>by
  rcases ve l _ y h with h|⟨q,hq,e⟩
  .rcases vc (show y∈cQ _ _ _ _ from h)with h|h
   .exact .inr ⟨p,mX,h.symm⟩
   .exact .inl h
  .exact .inr ⟨q,mZ _ hq,e⟩
theorem vg {α:Type}(f:α->Str)(g:α->D):∀(l:List α),gn (l.map λx=>D.tup [.str (f x),g x])=some (l.map λx=>(.inr (f x),g x))
 |[]=>rr
 |x::l=>by
  show((jP _).bind _)=_;rw[vg f g l];rfl
theorem si {κ:Type}[DecidableEq κ]:∀ {ks:List κ}{vs:LD}{k:κ}{v:D},b9 ks vs k=some v->v∈vs
 |k'::ks,d::ds,k,v,h=>by
  unfold b9 at h;split at h
  .cases h;exact mX
  .exact mZ _ (si h)
 |[],_,_,_,h=>by simp[b9]at h
 |_::_,[],_,_,h=>by simp[b9]at h
noncomputable def lB (KL:List (D×Nat)):List (dB×D):=(KL.filter λx=>aG x.1).map λx=>(.inr (aq 0 x.1),x.1)
def zG (KL:List (D×Nat))(o:Str):Option D:=b9 (bG (lB KL)).1 (bG (lB KL)).2 (.inr o)
def sj (g:xu r)(h:aG r=true):∃a o rl,∃m f:Int,r=row a ("root" : Str) [.str o,.int m,.int f,.str rl]:=by
 obtain⟨a,k,aj,rfl,d⟩:=g;have hk:=xQ h;subst hk;obtain⟨o,rl,m,f,rfl⟩:=d.root_of;exact⟨a,o,rl,m,f,rr⟩
def cL (g:fD aa)(hx:x∈ag aa ae):mq aa (x.2:Int)=some x.1/\xu x.1:=⟨bg (aE hx),g.2 _ (vL (aE hx))⟩
def zH (g:fD aa)(h:zG (ag aa ae) o=some v):∃a M rl,∃m f:Int,v=row a ("root" : Str) [.str M,.int m,.int f,.str rl]:=by
 have hv:=si h;rcases ve _ _ v hv with h|⟨p,hp,e⟩
 .cases h
 .obtain⟨x,hx,rfl⟩:=vO hp;obtain⟨h1,h2⟩:=vN hx;rw[<-e];exact sj (cL g h1).2 h2
def sk (g:fD aa)(ae:Int):hU [.tup aa,.int ae]=sF (.dk (bG (lB (ag aa ae))).1 (bG (lB (ag aa ae))).2):=by
 have hl:=bN aa ae;have O:=g.1;have h1:=fK (fi:=c9 _) (nT:=1) (cap:=[0]) (tg:=eU 0) (fe:=f2 fu (am 1) (am 0)) (ρ:=[sT aa,sF _,none]) (ag aa ae) _ Prod.fst
  (by
   show(fA ej (fV 0 (fV 1 ay)) _).bind _=_;rw[a0 _ rr (kn aa g.rp g.le ae)];rfl) N9 λx hx=>by
   have ha:=(cL g hx).1;exact⟨_,rr,false,by simp[cx,ha]⟩
 have hn:aV ((ag aa ae).map Prod.fst)=true:=bq λd hd=>by
  obtain⟨x,hx,rfl⟩:=vO hd;exact(cL g hx).2.rp.flat
 have h2:=cS (fi:=c9 (am 2)) (nT:=1) (cap:=[]) (tg:=eU 0) (c:=bP (f2 lu (fA aZ (fV 0 ay)) (fS "root"))) (fe:=fA dN (ak (fA av (fV 0 (ak (fS "office") ay))) (fV 0 ay)))
  (ρ:=[sT aa,sI ae,lT ((ag aa ae).map Prod.fst)]) (ag aa ae) Prod.fst _ (λx=>.tup [.str (aq 0 x.1),x.1]) X9 N9 λx hx=>by
   have M:=(cL g hx).2;refine⟨_,rr,bu (a0 [x.1] rr (gN M)) rr,λhp=>⟨false,?_⟩⟩;obtain⟨a,o,rl,m,f,e⟩:=sj M hp;rw[e];rfl
 refine ah rr (bx h1 hn (ai (a0 _ (a7 h2 rr) ?_)));show(gn _).map _=_;rw[vg _ Prod.fst];rfl
def sn:D×Nat->List (D×Nat)->D×Nat
 |b,[]=>b
 |b,x::r=>if aX (kA x) (kA b)=some true then sn x r else sn b r
theorem xz:∀(r:List (D×Nat))(b:D×Nat),pq (kA b,.int b.2) (r.map λx=>(kA x,D.int x.2))=.int (sn b r).2
 |[],b=>rr
 |x::r,b=>by
  rw[uY,pq,sn];split
  .exact xz r x
  .exact xz r b
def fH (KL:List (D×Nat))(p:Str)(day:Int)(i:Nat):Bool:=match KL.filter (λx=>told eE p day x.1) with
 |[]=>false
 |b::r=>decide ((sn b r).2=i)
def J7 (g:fD aa)(ae:Int)(hx:x∈ag aa ae)(e:x.1=row a ("death" : Str) [.int d,.str p]):fg [.tup aa,.int ae,.int x.2]=sO (fH (ag aa ae) p d x.2):=by
 have ha:=(cL g hx).1;have n:=(cL g hx).2;have m:=xp aa g.rp g.le ae eE eF p d;have O:av [x.1,.str "person"]=sS p:=by rw[e];exact aS (i:=1) bK rr
 have U:bo [x.1]=sI d:=by rw[e];rfl
 have M:x∈pL aa ae eE p d:=mem_filter.mpr ⟨hx,by simp_all[told,row,eE,rO]⟩;have j:fH (ag aa ae) p d x.2=match pL aa ae eE p d with|[]=>false|b::r=>decide ((sn b r).2=x.2):=rr
 have c:∀y∈pL aa ae eE p d,∃h k dd,aa[y.2]? = some _/\y.1=row h k [.int dd,.str p]/\bY k=true:=λy hy=>by
  obtain⟨f,l⟩:=Ei hy;obtain⟨h,k,dd,e2,h3,_⟩:=rR eF (g.rp _ (vL f)) l;exact⟨h,k,dd,by rw[f,e2],e2,h3⟩
 rw[j];cases hs:pL aa ae eE p d with
 |nil=>rw[hs]at M;cases M
 |cons b r=>
  rw[hs]at m c;have hm:∀ρ:DL.Env,ρ[0]? = some (sT aa)->iK (yW [0] (fA gF (fV 1 (fV 0 ay))) ρ) ((b::r).map λy=>.int y.2)=some ((b::r).map λy=>.tup [.int (a9 y.1),.int y.2]):=λρ h0=>
   gM (b::r) λy hy=>by
    obtain⟨h,k,dd,f,e2,h3⟩:=c y hy;show(fA gF _ _).map _=_;rw[a0 [.tup aa,.int y.2] (by simp[cx,h0]) (Ej f h3),e2];rfl
  have hk:dO ((b::r).map λy=>D.tup [.int (a9 y.1),.int y.2])=some ((b::r).map kA):=fX _ λy _=>rr;have hz:((b::r).map kA).zip ((b::r).map λy=>D.int y.2)=(kA b,D.int b.2)::r.map λy=>(kA y,D.int y.2):=by rw[zip_map'];rfl
  have o:aV ((b::r).map λy=>D.int y.2)=true:=bq λd hd=>by obtain⟨y,_,rfl⟩:=vO hd;rfl
  refine ah rr (eQ x.1 (by simp[ha]) n.rp.flat (bx (a0 [.tup aa,.int ae,.tup (eE.map .str),.str p,.int d] (aM rr (aM rr (aM (a0 [.str "death"] rr (bc _ X9)) (a7 (a0 [x.1,.str "person"] rr O) (a7 (a0 [x.1] rr U) rr))))) m) o (ai (aY (.int (sn b r).2) (.int x.2) ?_ rr ?_))))
  .unfold CC Rk;show((some _).bind _)=_;rw[vJ];dsimp only;rw[hm _ rr,vJ,hk,vJ,if_pos (xr _),hz];simp_all[xz]
  simp_all<;>lia
abbrev KL:=List (D×Nat)
noncomputable def kx (K:KL)(p:Str)(day:Int):Bool:=(K.filter λx=>told eE p day x.1).isEmpty
def zI (K:KL)(p:Str)(day:Int):Bool:=match OT (K.filter λx=>told p4 p day x.1) with
 |none=>true
 |some x=>decide (kindOf x.1 = "found")
def ma (K:KL)(r:D):Bool:=da (kindOf r) && (kx K (dm r) (a9 r) && zI K (dm r) (a9 r))
def J8 (r:D):Str:=if kindOf r = "named" then aq 1 r else aq 2 r
noncomputable def sq:LS:=[("named" : Str),"chosen","heir"]
def bF (K:KL)(M:List Cl)(x:D×Nat):Bool:=
 if kindOf x.1 = "death" then fH K (aq 1 x.1) (a9 x.1) x.2
 else if kindOf x.1∈sq then match zG K (J8 x.1) with
  |none=>false
  |some v=>if kindOf x.1 = "named" then true else ma K x.1 && gP M (aq 0 v) (aq 3 v) (aq 1 x.1) (a9 x.1)
 else false
def x0 (aa:LD)(ae:Int)(p:Str)(day:Int):rS aa ae p day=kx (ag aa ae) p day:=rfl
def J9 (aa:LD)(ae:Int)(p:Str)(day:Int):z8 aa ae p day=zI (ag aa ae) p day:=rfl
def Nt (h:aF r<=ae):fG aa ae r=ma (ag aa ae) r:=by
 unfold fG ma;rw[mi h];rfl
def FU (g:fD aa)(ae:Int)(M:List Cl)(n:M.length<=60)(hx:x∈ag aa ae)(U:aG x.1=false):mT [.tup aa,.int ae,.lst (M.map aW),.int x.2]=sO (bF (ag aa ae) M x):=by
 obtain⟨ha,c⟩:=cL g hx;have hh:aF x.1<=ae:=xQ (vN hx).2;have hf:aP x.1=true:=c.rp.flat;have hw:∀ρ:DL.Env,ρ[4]? = some (some (x.1,false))->fA aZ (fV 4 ay) ρ=sS (kindOf x.1):=λρ h4=>a0 [x.1] (by simp[h4]) (gN c);have O:∀ρ:DL.Env,ρ[4]? = some (some (x.1,false))->bP (f2 dz (fA aZ (fV 4 ay)) (fA dN (ak (fS "named") (ak (fS "chosen") (ak (fS "heir") ay))))) ρ=some (!decide (kindOf x.1∈sq)):=λρ h4=>
  cm (aY (.str (kindOf x.1)) (.tup (sq.map .str)) (hw ρ h4) (by simp[sizeLine,sq]) (p5 _ _))
 by_cases hd:kindOf x.1 = "death"
 .obtain⟨a,k,aj,e,d⟩:=c;have hk:k = "death":=by rw[e]at hd;exact hd
  subst hk;obtain⟨dd,p,rfl⟩:=d.deed.three S9;have hc:bF (ag aa ae) M x=fH (ag aa ae) p dd x.2:=by
   unfold bF;rw[if_pos hd,e];rfl
  rw[hc];exact ah rr (eQ x.1 (by simp[ha]) hf (aR (bu (bb:=false) (hw _ rr) (mi hd)) (ai (a0 [.tup aa,.int ae,.int x.2] rr (J7 g ae hx e)))))
 .by_cases h3:kindOf x.1∈sq
  .have m:av [x.1,.str "office"]=sS (J8 x.1):=by
    obtain⟨a,k,aj,e,d⟩:=c;rw[e]at h3 hd U |-;replace h3:k∈sq:=h3;clear hd U;cases d with
    |root=>exact cN h3
    |named d o p=>exact aS (i:=1) bK rr
    |chosen d b o p s=>exact aS (i:=2) bK rr
    |heir d b o p=>exact aS (i:=2) bK rr
    |three _ hk=>rcases hk with rfl|rfl|rfl<;>exact cN h3
    |other _ hk=>rcases hk with rfl|rfl|rfl|rfl|rfl<;>exact cN h3
   have f:∀ρ:DL.Env,ρ[0]? = some (sT aa)->ρ[1]? = some (sI ae)->ρ[4]? = some (some (x.1,false))->f2 Vh (fA hU (fV 0 (fV 1 ay))) (fA av (fV 4 (ak (fS "office") ay))) ρ=some ((zG (ag aa ae) (J8 x.1)).getD .non,false):=λρ q r t=>
    aY (.dk (bG (lB (ag aa ae))).1 (bG (lB (ag aa ae))).2) (.str (J8 x.1)) (a0 [.tup aa,.int ae] (by simp[q,r]) (sk g ae)) (a0 [x.1,.str "office"] (by simp[t]) m) rr
   cases hr:zG (ag aa ae) (J8 x.1) with
   |none=>
    rw[hr]at f;have hc:bF (ag aa ae) M x=false:=by unfold bF;rw[if_neg hd,if_pos h3,hr]
    rw[hc];exact ah rr (eQ x.1 (by simp[ha]) hf (ao (bu (bb:=false) (hw _ rr) (oP hd)) (ao (by rw[O _ rr,mi h3];rfl) (eQ .non (f _ rr rr rr) rr (aR (cm (aY .non .non rr rr X9)) (ai rr))))))
   |some v=>
    rw[hr]at f;obtain⟨y,z,u,A,B,ev⟩:=zH g hr;have h:aP v=true:=by rw[ev];rfl
    have j:SO v .non=sO false:=by rw[ev];simp[row]
    by_cases hn:kindOf x.1 = "named"
    .have hc:bF (ag aa ae) M x=true:=by unfold bF;rw[if_neg hd,if_pos h3,hr];dsimp only;rw[if_pos hn]
     rw[hc];exact ah rr (eQ x.1 (by simp[ha]) hf (ao (bu (bb:=false) (hw _ rr) (oP hd)) (ao (by rw[O _ rr,mi h3];rfl) (eQ v (f _ rr rr rr) h (ao (cm (aY v .non rr rr j)) (aR (bu (bb:=false) (hw _ rr) (mi hn)) (ai rr)))))))
    .have hc:bF (ag aa ae) M x=(ma (ag aa ae) x.1 && gP M (aq 0 v) (aq 3 v) (aq 1 x.1) (a9 x.1)):=by unfold bF;rw[if_neg hd,if_pos h3,hr];dsimp only;rw[if_neg hn]
     have l:av [x.1,.str "by"]=sS (aq 1 x.1)/\bo [x.1]=sI (a9 x.1):=by
      refine⟨?_,by rw[rW c];unfold tR;rw[U];rfl⟩;obtain⟨a,k,aj,e,d⟩:=c;rw[e]at h3 hn |-;replace h3:k∈sq:=h3;cases d with
      |root=>exact cN h3
      |named=>exact absurd rr hn
      |chosen d b o p s=>exact aS (i:=1) bK rr
      |heir d b o p=>exact aS (i:=1) bK rr
      |three _ hk=>rcases hk with rfl|rfl|rfl<;>exact cN h3
      |other _ hk=>rcases hk with rfl|rfl|rfl|rfl|rfl<;>exact cN h3
     have hs:=rV aa g.rp g.le ae (aE hx);rw[Nt hh]at hs;have w:dj [.lst (M.map aW),v,.str (aq 1 x.1),.int (a9 x.1)]=sO (gP M (aq 0 v) (aq 3 v) (aq 1 x.1) (a9 x.1)):=by
      rw[ev];exact xy M n _ _
     rw[hc];refine ah rr (eQ x.1 (by simp[ha]) hf (ao (bu (bb:=false) (hw _ rr) (oP hd)) (ao (by rw[O _ rr,mi h3];rfl) (eQ v (f _ rr rr rr) h (ao (cm (aY v .non rr rr j)) (ao (bu (bb:=false) (hw _ rr) (oP hn)) (ai ?_)))))));exact cj (b1:=false) (a0 [.tup aa,.int ae,.int x.2] rr hs) λ_=>a0 [.lst (M.map aW),v,.str (aq 1 x.1),.int (a9 x.1)] (aM rr (aM rr (a7 (a0 [x.1,.str "by"] rr l.1) (a7 (a0 [x.1] rr l.2) rr)))) w
  .have hc:bF (ag aa ae) M x=false:=by unfold bF;rw[if_neg hd,if_neg h3]
   rw[hc];exact ah rr (eQ x.1 (by simp[ha]) hf (ao (bu (bb:=false) (hw _ rr) (oP hd)) (aR (by rw[O _ rr,oP h3];rfl) (ai rr))))
def fm (M:LS)(p:Str)(day:Int)(c:Cl):List Cl:=
 if(!decide (c.o∈M) || (!decide (c.p=p) || !(gO c day || decide (day<c.s))))=true then [c]else if c.s<day then [⟨c.o,p,c.s,some day,c.n⟩]else []
noncomputable def cb (O:List Cl)(M:LS)(p:Str)(day:Int):List Cl:=O.flatMap (fm M p day)
theorem fq (M:LS)(p:Str)(day:Int):∀O:List Cl,(cb O M p day).length<=O.length
 |[]=>vT _
 |c::O=>by
  unfold cb;rw[flatMap_cons,uZ,vE];have h1:=fq M p day O;have h2:(fm M p day c).length<=1:=by
   unfold fm;split
   .simp
   .split<;>simp
  unfold cb at h1;lia
def BG (k:Str)(ws:LS):dz (.str k) (.lst (ws.map .str))=sO (!decide (k∈ws)):=by
 simp only[dz,f7,vJ,nn];rw[if_pos ⟨rr,kQ ws⟩]
def zJ (U:List Cl)(r:U.length<=60)(M:LS)(p:Str)(day:Int):xn [.lst (U.map aW),.lst (M.map .str),.str p,.int day]=lT ((cb U M p day).map aW):=by
 obtain⟨ρ',e,h,rfl⟩:=dZ (tg:=eU 5) (g:=zp) (λj ρ=>∃h:OB,ρ=[sL (U.map aW),sL (M.map .str),sS p,sI day,lT ((cb (U.take j) M p day).map aW),h]) (U.map aW)
  [sL (U.map aW),sL (M.map .str),sS p,sI day,lT [],none] ⟨none,rr⟩ (by
   rintro j d ρ hd ⟨h,rfl⟩;rw[vA]at hd;obtain⟨c,hc,rfl⟩:=oY hd;have i:cb (U.take (j+1)) M p day=cb (U.take j) M p day++fm M p day c:=by
    simp_all[cb,take_add_one]
   have t:(cb (U.take j) M p day).length<=60:=vR (fq M p day _) (by rw[length_take];lia);let a:DL.Env:=[sL (U.map aW),sL (M.map .str),sS p,sI day,lT ((cb (U.take j) M p day).map aW),some (aW c,false)];have k:jx 5 0 a=sS c.o:=aY (aW c) (.int 0) rr rr (XZ c);have l:jx 5 1 a=sS c.p:=aY (aW c) (.int 1) rr rr (Ta c);have q2:jx 5 2 a=sI c.s:=aY (aW c) (.int 2) rr rr (cl2 c);have m:jx 5 4 a=sI c.n:=aY (aW c) (.int 4) rr rr (cl4 c);have O:lG (bP (f2 dz (jx 5 0) (am 1))) (lG (bP (f2 Hx (jx 5 1) (am 2))) (mz (lG (bP (fA dL (fV 5 (fV 3 ay)))) (bP (f2 Q6 (jx 5 2) (am 3)))))) a=some (!decide (c.o∈M) || (!decide (c.p=p) || !(gO c day || decide (day<c.s)))):=
    b7 (cm (aY (.str c.o) (.lst (M.map .str)) k rr (BG _ _))) λ_=>b7 (cm (aY (.str c.p) (.str p) l rr X9)) λ_=>ba (b7 (cm (a0 [aW c,.int day] rr (rX c day))) λ_=>cm (aY (.int c.s) (.int day) q2 rr X9))
   by_cases h1:(!decide (c.o∈M) || (!decide (c.p=p) || !(gO c day || decide (day<c.s))))=true
   .have f:fm M p day c=[c]:=by unfold fm;rw[if_pos h1]
    rw[h1]at O;refine⟨_,_,rr,.inl (pJ O (jT (ds:=(cb (U.take j) M p day).map aW) (d:=aW c) (b:=false) rr rr (np c) (bw s9))),some (aW c,false),?_⟩;rw[i,f,uW];rfl
   .rw[Bool.not_eq_true]at h1;rw[h1]at O;by_cases h2:c.s<day
    .have f:fm M p day c=[⟨c.o,p,c.s,some day,c.n⟩]:=by unfold fm;rw[if_neg (by rw[h1];decide),if_pos h2]
     refine⟨_,_,rr,.inl (je O (pJ (cm (aY (.int c.s) (.int day) q2 rr (by simp[h2]))) (jT (ds:=(cb (U.take j) M p day).map aW) (d:=aW ⟨c.o,p,c.s,some day,c.n⟩) (b:=false) rr (a0 [.str c.o,.str p,.int c.s,.int day,.int c.n] (a7 k (aM rr (a7 q2 (aM rr (a7 m rr))))) (bc _ X9)) (np _) (bw s9)))),some (aW c,false),?_⟩;rw[i,f,uW];rfl
    .have f:fm M p day c=[]:=by unfold fm;rw[if_neg (by rw[h1];decide),if_neg h2]
     refine⟨_,_,rr,.inl (je O (je (cm (aY (.int c.s) (.int day) q2 rr s9)) rr)),some (aW c,false),?_⟩;rw[i,f,uQ];rfl)
 have q:fz (eU 5) zp (U.map aW) [sL (U.map aW),sL (M.map .str),sS p,sI day,lT [],none]=some (.nx [sL (U.map aW),sL (M.map .str),sS p,sI day,lT ((cb U M p day).map aW),h]):=by
  simp_all
 exact ah rr (bx (ds:=[]) q9 rr (c7 (fP (ds:=U.map aW) (by simp[iF]) q) (kK rr)))
def V4 (ho:av [r,.str "office"]=sS o)(hp:av [r,.str "person"]=sS p)(s:Int)(n:Nat):hV [r,.int s,.int n]=some (aW ⟨o,p,s,none,n⟩,false):=
 ah rr (ai (a0 _ (a7 (a0 _ rr ho) (a7 (a0 _ rr hp) rr)) (bc _ X9)))
def FV (M:List Cl)(O:M.length<=60)(n:Nat):gH [.lst (M.map aW),row a ("chosen" : Str) [.int d,.str b,.str o,.str p,.int s],.int n]=lT ((cb M [o] b s++[(⟨o,p,s,none,n⟩:Cl)]).map aW):=by
 let r:D:=row a ("chosen" : Str) [.int d,.str b,.str o,.str p,.int s];have ho:av [r,.str "office"]=sS o:=aS (i:=2) bK rr;have hb:av [r,.str "by"]=sS b:=aS (i:=1) bK rr;have hs:av [r,.str "since"]=sI s:=aS (i:=4) bK rr;have hl:=fq [o] b s M;refine ah rr (eQ (.int s) (a0 _ rr hs) rr (bx (a0 _ (aM rr (a7 (a0 [.str o] (a7 (a0 _ rr ho) rr) (c8 _ X9)) (a7 (a0 _ rr hb) rr))) (zJ M O [o] b s)) (iR _) (ai ?_)));rw[uW];exact if_pos (cf (by rw[vI,length_singleton];lia))
noncomputable def zK (hk:List LK)(hv:LD)(o p:Str):Option Str:=match b9 hk hv [.inr o,.inr p] with
 |some (.str h)=>some h
 |_=>none
def cP (K:KL)(hk:List LK)(hv:LD)(p:Str)(day:Int)(n:Nat)(o:Str):List Cl:=match zK hk hv o p with
 |some h=>if kx K h day=true then [⟨o,h,day,none,n⟩]else []
 |none=>[]
def cF (M:List Cl)(p:Str)(day:Int):LS:=mG (f9 ((M.filter λc=>decide (c.p=p) && gO c day).map (·.o)))
def pM (K:KL)(M:List Cl)(hk:List LK)(hv:LD)(p:Str)(day:Int)(n:Nat):List Cl:=(cF M p day).flatMap (cP K hk hv p day n)
def md (K:KL)(hk:List LK)(hv:LD)(p:Str)(day:Int)(n:Nat)(o:Str):(cP K hk hv p day n o).length<=1:=by
 unfold cP;split
 .split<;>simp
 .simp
theorem sr {α M:Type}(f:α->List M)(h:∀a,(f a).length<=1):∀l:List α,(l.flatMap f).length<=l.length
 |[]=>vT _
 |a::l=>by
  rw[flatMap_cons,uZ,vE];have:=h a;have:=sr f h l;lia
def zL (M:List Cl)(p:Str)(day:Int):(cF M p day).length<=M.length:=by
 unfold cF;rw[(cW _).length_eq];refine vR (mE _) ?_;rw[vI];exact vM _ _
def xA (g:fD aa)(ae:Int)(M:List Cl)(K:M.length<=60)(hk:List LK)(hv:LD)(m:∀v∈hv,∃s,v=.str s)(hx:x∈ag aa ae)(e:x.1=row a ("death" : Str) [.int d,.str p]):
  kg [.tup aa,.int ae,.lst (M.map aW),.dt hk hv,.int x.2]=lT ((pM (ag aa ae) M hk hv p d x.2).map aW):=by
 have ha:=(cL g hx).1;have A:av [x.1,.str "person"]=sS p:=by rw[e];exact aS (i:=1) bK rr
 have B:bo [x.1]=sI d:=by rw[e];rfl
 have C:=zL M p d;have E:∀(o:Str)(l:List Cl)(O:OB),l.length<=60->jj _=some (.nx [sT aa,sI ae,sL (M.map aW),sF (.dt hk hv),sI x.2,sS p,sI d,lT ((l++cP (ag aa ae) hk hv p d x.2 o).map aW),sS o,some ((b9 hk hv [.inr o,.inr p]).getD .non,false)]):=λo l O hl=>by
  have f:IN (am 3) (fV 8 (fV 5 ay)) [sT aa,sI ae,sL (M.map aW),sF (.dt hk hv),sI x.2,sS p,sI d,lT (l.map aW),sS o,O]=some ((b9 hk hv [.inr o,.inr p]).getD .non,false):=by
   simp[jc,sizeLine]
  cases U:b9 hk hv [.inr o,.inr p] with
  |none=>
   rw[U]at f;have ei:cP (ag aa ae) hk hv p d x.2 o=[]:=by unfold cP zK;rw[U]
   rw[ei,uQ];exact eQ .non f rr (je (cR (p:=false) (q:=false) (cm X9) X9) rr)
  |some v=>
   obtain⟨h,rfl⟩:=m v (si U);rw[U]at f;have u:=z9 aa g.rp g.le ae h d;rw[x0]at u;have w:∀ρ:DL.Env,ρ[0]? = some (sT aa)->ρ[1]? = some (sI ae)->ρ[6]? = some (sI d)->ρ[9]? = some (sS h)->iE (bP (f2 qI (am 9) (fC .non))) (bP (fA qh (fV 0 (fV 1 (fV 9 (fV 6 ay)))))) ρ=some (true && kx (ag aa ae) h d):=λρ F G n y=>
    cR (cm (by simp[y])) λ_=>cm (a0 [.tup aa,.int ae,.str h,.int d] (by simp[F,G,n,y]) u)
   cases z:kx (ag aa ae) h d with
   |false=>
    have ei:cP (ag aa ae) hk hv p d x.2 o=[]:=by simp_all[cP,zK]
    rw[ei,uQ];exact eQ (.str h) f rr (je (by rw[w _ rr rr rr rr,z];rfl) rr)
   |true=>
    have ei:cP (ag aa ae) hk hv p d x.2 o=[⟨o,h,d,none,x.2⟩]:=by simp_all[cP,zK]
    rw[ei,uW];exact eQ (.str h) f rr (pJ (by rw[w _ rr rr rr rr,z];rfl) (jT (ds:=l.map aW) (d:=aW ⟨o,h,d,none,x.2⟩) (b:=false) rr (a0 [.str o,.str h,.int d,.non,.int x.2] rr (bc _ X9)) rr (bw s9)))
 obtain⟨ρ',H,k,O,rfl⟩:=dZ (tg:=eU 8) (g:=jj) (λj ρ=>∃k O:OB,ρ=[sT aa,sI ae,sL (M.map aW),sF (.dt hk hv),sI x.2,sS p,sI d,lT ((((cF M p d).take j).flatMap (cP (ag aa ae) hk hv p d x.2)).map aW),k,O]) ((cF M p d).map .str)
  [sT aa,sI ae,sL (M.map aW),sF (.dt hk hv),sI x.2,sS p,sI d,lT [],none,none] ⟨none,none,rr⟩ (by
   rintro j dd ρ hd ⟨k,O,rfl⟩;rw[vA]at hd;obtain⟨o,ho,rfl⟩:=oY hd;have hl:(((cF M p d).take j).flatMap (cP (ag aa ae) hk hv p d x.2)).length<=60:=vR (sr _ (md _ _ _ _ _ _) _) (by rw[length_take];lia);refine⟨_,_,rr,.inl (E o _ O hl),sS o,some ((b9 hk hv [.inr o,.inr p]).getD .non,false),?_⟩;rw[take_add_one,ho,Option.toList_some,List.flatMap_append,flatMap_cons,List.flatMap_nil,uQ])
 have I:fz (eU 8) jj ((cF M p d).map .str) [sT aa,sI ae,sL (M.map aW),sF (.dt hk hv),sI x.2,sS p,sI d,lT [],none,none]=some (.nx [sT aa,sI ae,sL (M.map aW),sF (.dt hk hv),sI x.2,sS p,sI d,lT ((pM (ag aa ae) M hk hv p d x.2).map aW),k,O]):=by
  rw[H];have:(cF M p d).take ((cF M p d).map D.str).length=cF M p d:=X9
  rw[this];rfl
 have r:∀ρ:DL.Env,ρ[2]? = some (sL (M.map aW))->ρ[5]? = some (sS p)->ρ[6]? = some (sI d)->c9 (f1 jM (jw (c9 (am 2)) 1 [5,6] (eU 0) (iE (bP (f2 lu (jx 0 1) (am 1))) (bP (fA dL (fV 0 (fV 2 ay))))) (jx 0 0))) ρ=some ((cF M p d).map .str):=λρ q2 J n=>by
  have hc:=cS (fi:=c9 (am 2)) (nT:=1) (cap:=[5,6]) (tg:=eU 0) (c:=iE (bP (f2 lu (jx 0 1) (am 1))) (bP (fA dL (fV 0 (fV 2 ay))))) (fe:=jx 0 0) (ρ:=ρ) M aW (λc=>decide (c.p=p) && gO c d) (λc=>.str c.o) (by simp[q2]) N9 λc hc=>
   ⟨_,rr,cR (cm (aY (.str c.p) (.str p) (aY (aW c) (.int 1) (by simp[cx]) rr (Ta c)) (by simp[cx,J]) X9)) λ_=>cm (a0 [aW c,.int d] (by simp[cx,n]) (rX c d)),λ_=>⟨false,aY (aW c) (.int 0) (by simp[cx]) rr (XZ c)⟩⟩
  have e2:(M.filter λc=>decide (c.p=p) && gO c d).map (λc=>D.str c.o)=((M.filter λc=>decide (c.p=p) && gO c d).map (·.o)).map .str:=by rw[uP];rfl
  rw[e2]at hc;show(f1 jM _ ρ).bind _=_;unfold f1;rw[hc,vJ];have t:((M.filter λc=>decide (c.p=p) && gO c d).map (·.o)).length<64:=by rw[vI];exact lt_of_le_of_lt (vM _ _) N9
  show((eP _).bind _).bind _=_;rw[nu,vJ,if_pos t];rfl
 refine ah rr (eQ (.str p) (a0 [x.1,.str "person"] (by simp[ha]) A) rr (eQ (.int d) (a0 [x.1] (by simp[ha]) B) rr (bx (ds:=[]) q9 rr (c7 (ρ':=[sT aa,sI ae,sL (M.map aW),sF (.dt hk hv),sI x.2,sS p,sI d,lT ((pM (ag aa ae) M hk hv p d x.2).map aW),k,O]) ?_ (kK rr)))));exact fP (r _ rr rr rr) I
def JB (g:fD aa)(ae:Int)(M:List Cl)(O:M.length<=60)(hk:List LK)(hv:LD)(b:∀v∈hv,∃s,v=.str s)(hx:x∈ag aa ae)(e:x.1=row a ("death" : Str) [.int d,.str p]):
  iu [.tup aa,.int ae,.lst (M.map aW),.dt hk hv,.int x.2]=lT ((cb M (M.map Cl.o) p d++pM (ag aa ae) M hk hv p d x.2).map aW):=by
 have ha:=(cL g hx).1;have U:av [x.1,.str "person"]=sS p:=by rw[e];exact aS (i:=1) bK rr
 have f:bo [x.1]=sI d:=by rw[e];rfl
 have h1:=fK (fi:=c9 (am 2)) (nT:=1) (cap:=[]) (tg:=eU 0) (fe:=jx 0 0) (ρ:=[sT aa,sI ae,sL (M.map aW),sF (.dt hk hv),sI x.2,none,none]) M aW _ X9 N9 λc hc=>⟨_,rr,false,aY (aW c) (.int 0) (by simp[cx]) rr (XZ c)⟩;have e2:M.map (λc=>D.str c.o)=(M.map Cl.o).map .str:=by rw[uP];rfl
 rw[e2]at h1;have h:=fq (M.map Cl.o) p d M;have j:(pM (ag aa ae) M hk hv p d x.2).length<=60:=vR (sr _ (md _ _ _ _ _ _) _) (vR (zL M p d) O);refine ah rr (bx h1 (bH _) (bx (a0 _ (aM rr (aM rr (aM (a0 _ (by simp[ha]) U) (aM (a0 [x.1] (by simp[ha]) f) rr)))) (zJ M O _ p d)) (iR _) (ai ?_)));refine eN rr (a0 _ rr (xA g ae M O hk hv b hx e)) ?_;rw[uW];exact if_pos (cf (by grind))
abbrev Tc:=List Cl×List LK×LD
def cK (K:KL)(st:Tc)(x:D×Nat):Tc:=
 if bF K st.1 x=true then
  if kindOf x.1 = "named" then (st.1++[⟨aq 1 x.1,aq 2 x.1,a9 x.1,none,x.2⟩],st.2)
  else if kindOf x.1 = "chosen" then (cb st.1 [aq 2 x.1] (aq 1 x.1) (eG 4 x.1)++[⟨aq 2 x.1,aq 3 x.1,eG 4 x.1,none,x.2⟩],st.2)
  else if kindOf x.1 = "heir" then (st.1,du st.2.1 [.inr (aq 2 x.1),.inr (aq 1 x.1)],cQ st.2.1 st.2.2 [.inr (aq 2 x.1),.inr (aq 1 x.1)] (.str (aq 3 x.1)))
  else (cb st.1 (st.1.map Cl.o) (aq 1 x.1) (a9 x.1)++pM K st.1 st.2.1 st.2.2 (aq 1 x.1) (a9 x.1) x.2,st.2)
 else st
def bB (K:KL):KL:=dr (λx=>bZ (kA x)) (K.filter λx=>!aG x.1)
noncomputable def lC (K:KL)(l:KL):Tc:=l.foldl (cK K) ([],[],[])
noncomputable def kC (c:Cl):List At:=[.s c.o,.i c.s,.i c.n]
def aU (K:KL):List Cl:=dr (λc=>bZ (kC c)) (lC K (bB K)).1
noncomputable def Nu:LK->Str
 |[_,.inr p]=>p
 |_=>("" : Str)
noncomputable def RK (dd:LS)(ks:List LK):Nat:=(ks.filter λk=>decide (Nu k∉dd)).length
structure A6 (K l:KL)(dd:List Str)(st:Tc):Prop where
 len:st.1.length+RK dd st.2.1<=l.length
 ded:∀q∈dd,∃y∈l,fH K q (a9 y.1) y.2=true
 nod:(st.1.map λc=>(c.o,c.n)).Nodup
 num:∀c∈st.1,c.n∈l.map (·.2)
 hs:∀v∈st.2.2,∃s,v=D.str s
 hk:st.2.1.length<=l.length
def Em (h:told ws p d r=true):a9 r<=d/\∀d',a9 r<=d'->told ws p d' r=true:=by
 unfold told at h;split at h
 .rw[vC]at h;obtain⟨h1,h2⟩:=h;unfold rO at h2;split at h2
  .rw[vC]at h2;refine⟨xQ h2.2,λd' hd=>?_⟩;unfold told;rw[vC];refine⟨h1,?_⟩;unfold rO;rw[vC];exact⟨h2.1,mi hd⟩
  simp_all
 simp_all
theorem su:∀(r:KL)(b:D×Nat),sn b r∈b::r/\∀y∈b::r,bL y (sn b r)=false
 |[],b=>by simp_all[sn,bL]
 |x::r,b=>by
  rw[sn,xq];by_cases h:bL x b=true
  .rw[if_pos (by rw[h])];obtain⟨h1,h2⟩:=su r x;refine⟨mZ _ h1,λy hy=>?_⟩;rcases vP hy with rfl|hy
   .grind[mX,bL]
   .exact h2 y hy
  .rw[if_neg (by simpa using h)];obtain⟨h1,h2⟩:=su r b;refine⟨?_,λy hy=>?_⟩
   .grind
   .grind[mX,bL]
def sv (h:fH K p d i=true):∃m∈K,told eE p d m.1=true/\m.2=i/\∀y∈K,told eE p d y.1=true->bL y m=false:=by
 unfold fH at h;split at h
 .cases h
 .rename_i b r e;obtain⟨h1,h2⟩:=su r b;grind
theorem BH (h1:fH K p d1 i1=true)(h2:fH K p d2 i2=true):i1=i2:=by
 obtain⟨m1,k1,M,U,a⟩:=sv h1;obtain⟨m2,k2,O,e2,q2⟩:=sv h2;have b:=Em M;have c:=Em O;grind[bL]
theorem zM {κ:Type}[DecidableEq κ]:∀ {ks:List κ}{vs:LD}{k:κ}{v:D},b9 ks vs k=some v->k∈ks
 |k'::ks,d::ds,k,v,h=>by
  unfold b9 at h;split at h
  .simp_all
  .exact mZ _ (zM h)
 |[],_,_,_,h=>by simp[b9]at h
 |_::_,[],_,_,h=>by simp[b9]at h
theorem sw (p:Str)(dd:LS)(hp:p∉dd):∀ks:List LK,RK dd ks=RK (p::dd) ks+(ks.filter λk=>decide (Nu k=p)).length
 |[]=>rr
 |k::ks=>by
  have M:=sw p dd hp ks;grind[RK]
theorem kR (M:LS)(p:Str)(day:Int):∀O:List Cl,((cb O M p day).map λc=>(c.o,c.n)).Sublist (O.map λc=>(c.o,c.n))
 |[]=>List.Sublist.slnil
 |c::O=>by
  have U:=kR M p day O;unfold cb at U |-;rw[flatMap_cons,uW];have:((fm M p day c).map λc=>(c.o,c.n))=[(c.o,c.n)]\/((fm M p day c).map λc=>(c.o,c.n))=[]:=by
   unfold fm;split
   .exact .inl rr
   .split
    .exact .inl rr
    .exact .inr rr
  rcases this with h|h
  .rw[h];exact U.cons₂ _
  .rw[h];exact U.cons _
def kT (h:c∈cb O U p day):∃M∈O,M.o=c.o/\M.n=c.n:=by
 have:=(kR _ p _ O).subset (uS ⟨c,h,rr⟩);simp_all
theorem iS:∀(ss M:LS),M.Nodup->(ss.foldl j4 M).Nodup
 |[],_,h=>h
 |s::ss,M,h=>iS ss _ (qN h s)
def sx (M:List Cl)(p:Str)(day:Int):(cF M p day).Nodup:=(cW _).nodup_iff.mpr (iS _ [] nodup_nil)
theorem zN (K:KL)(hk:List LK)(hv:LD)(p:Str)(day:Int)(n:Nat):∀os:LS,((os.flatMap (cP K hk hv p day n)).map λc=>(c.o,c.n)).Sublist (os.map λo=>(o,n))
 |[]=>List.Sublist.slnil
 |o::os=>by
  have M:=zN K hk hv p day n os;rw[flatMap_cons,uW];have:((cP K hk hv p day n o).map λc=>(c.o,c.n))=[(o,n)]\/((cP K hk hv p day n o).map λc=>(c.o,c.n))=[]:=by
   unfold cP;split
   .split
    .exact .inl rr
    .exact .inr rr
   .exact .inr rr
  rcases this with h|h
  .rw[h];exact M.cons₂ _
  .rw[h];exact M.cons _
theorem vh {α:Type}[DecidableEq α]:∀(l m:List α),l.Nodup->(∀x∈l,x∈m)->l.length<=m.length
 |[],_,_,_=>uN _
 |x::l,m,h,s=>by
  rw[nodup_cons]at h;have:=vh l _ h.2 λy hy=>(List.mem_erase_of_ne (b:=x) (λe=>h.1 (by rw[<-e];exact hy))).mpr (s y (mZ _ hy));grind
theorem vi {α M:Type}(f:α->List M)(q:α->Bool)(h:∀a,(f a).length<=1/\(q a=false->f a=[])):∀l:List α,(l.flatMap f).length<=(l.filter q).length
 |[]=>vT _
 |a::l=>by
  have O:=vi f q h l;grind
def Nv (K:KL)(M:List Cl)(hk:List LK)(hv:LD)(p:Str)(day:Int)(n:Nat):(pM K M hk hv p day n).length<=(hk.filter λk=>decide (Nu k=p)).length:=by
 refine vR (vi _ (λo=>(b9 hk hv [.inr o,.inr p]).isSome) (λo=>⟨md _ _ _ _ _ _ _,λh=>?_⟩) _) ?_
 .simp_all[cP,zK]
 .have O:(((cF M p day).filter λo=>(b9 hk hv [.inr o,.inr p]).isSome).map λo=>([.inr o,.inr p]:LK)).Nodup:=List.Pairwise.map _ (λa b U e=>U (by injection e with e _;injection e)) ((sx M p _).filter _);have:=vh _ (hk.filter λk=>decide (Nu k=p)) O λk hm=>by
   obtain⟨o,ho,rfl⟩:=vO hm;obtain⟨v,hv⟩:=uU (vN ho).2;exact mem_filter.mpr ⟨zM hv,mi rr⟩
  simp_all
def A6.step {K l:KL}{dd:LS}{st:Tc}(h:A6 K l dd st){x:D×Nat}(hx:x.2∉l.map (·.2)):∃i,A6 K (l++[x]) i (cK K st x):=by
 have g:∀ {n:Nat},n∈l.map (·.2)->n∈(l++[x]).map (·.2):=λh=>by grind
 have j:x.2∈(l++[x]).map (·.2):=X9
 have m:(l++[x]).length=l.length+1:=X9
 have O:∀q∈dd,∃y∈l++[x],fH K q (a9 y.1) y.2=true:=λq hq=>by
  obtain⟨y,h1,h2⟩:=h.ded q hq;exact⟨y,mem_append_left _ h1,h2⟩
 have p:A6 K (l++[x]) dd st:=⟨by have:=h.len;lia,O,h.nod,λc hc=>g (h.num c hc),h.hs,by have:=h.hk;lia⟩;have z:=h.len;unfold cK;split
 .rename_i M;split
  .refine⟨dd,s9,O,?_,λc hc=>?_,h.hs,by rw[m];exact le_succ_of_le h.hk⟩
   .rw[uW,nodup_append];refine⟨h.nod,X9,λa ha b hb e=>?_⟩;obtain⟨c,hc,rfl⟩:=vO ha;simp at hb;subst hb;injection e with _ e2;exact hx (e2 ▸ h.num c hc)
   .rcases mem_append.mp hc with hc|hc
    .exact g (h.num c hc)
    .rw[uT hc];exact j
  .split
   .have hl:=fq [aq 2 x.1] (aq 1 x.1) (eG 4 x.1) st.1;refine⟨dd,s9,O,?_,λc hc=>?_,h.hs,by rw[m];exact le_succ_of_le h.hk⟩
    .rw[uW,nodup_append];refine⟨h.nod.sublist (kR _ _ _ _),X9,λa ha b hb e=>?_⟩;obtain⟨c,hc,rfl⟩:=vO ha;simp at hb;subst hb;injection e with _ e2;obtain⟨U,h1,_,h3⟩:=kT hc;exact hx (e2 ▸ h3 ▸ h.num U h1)
    .rcases mem_append.mp hc with hc|hc
     .obtain⟨U,h1,_,h3⟩:=kT hc;rw[<-h3];exact g (h.num U h1)
     .rw[uT hc];exact j
   .split
    .have hp:∀k:LK,RK dd (du st.2.1 k)<=RK dd st.2.1+1/\(du st.2.1 k).length<=st.2.1.length+1:=λk=>by
      grind[du,RK]
     refine⟨dd,?_,O,p.nod,p.num,λv hv=>?_,?_⟩
     .grind
     .rcases vc hv with hv|hv
      .exact⟨_,hv⟩
      .exact h.hs v hv
     .have:=(hp [.inr (aq 2 x.1),.inr (aq 1 x.1)]).2;have:=h.hk;lia
    .rename_i n1 n2 n3;have hd:kindOf x.1 = "death":=by
      simp_all[bF,sq]
     have hf:fH K (aq 1 x.1) (a9 x.1) x.2=true:=by unfold bF at M;rwa [if_pos hd]at M
     have s:aq 1 x.1∉dd:=λhm=>by
      obtain⟨y,h1,h2⟩:=h.ded _ hm;grind[BH]
     have hl:=fq (st.1.map Cl.o) (aq 1 x.1) (a9 x.1) st.1;have t:=Nv K st.1 st.2.1 st.2.2 (aq 1 x.1) (a9 x.1) x.2;have u:=sw (aq 1 x.1) dd s st.2.1;have d:=zN K st.2.1 st.2.2 (aq 1 x.1) (a9 x.1) x.2 (cF st.1 (aq 1 x.1) (a9 x.1));have f:∀c∈pM K st.1 st.2.1 st.2.2 (aq 1 x.1) (a9 x.1) x.2,c.o∈cF st.1 (aq 1 x.1) (a9 x.1)/\c.n=x.2:=λc hc=>by
      have:=d.subset (uS ⟨c,hc,rr⟩);simp_all<;>lia
     refine⟨aq 1 x.1::dd,?_,λq hq=>?_,?_,λc hc=>?_,h.hs,by rw[m];exact le_succ_of_le h.hk⟩
     .grind
     .rcases vP hq with rfl|hq
      .exact⟨x,X9,hf⟩
      .exact O q hq
     .rw[uW,nodup_append];refine⟨h.nod.sublist (kR _ _ _ _),List.Nodup.sublist d (List.Pairwise.map _ (λa b r e=>r (by injection e)) (sx _ _ _)),λa ha b hb e=>?_⟩;obtain⟨c,hc,rfl⟩:=vO ha;obtain⟨c2,w,rfl⟩:=vO hb;injection e with _ e2;obtain⟨U,h1,_,h3⟩:=kT hc;exact hx ((f c2 w).2 ▸ e2 ▸ h3 ▸ h.num U h1)
     .rcases mem_append.mp hc with hc|hc
      .obtain⟨U,h1,_,h3⟩:=kT hc;rw[<-h3];exact g (h.num U h1)
      .rw[(f c hc).2];exact j
 .exact⟨dd,p⟩
def Nw (e:ρ[i]? = some (some (.dt ks vs,true)))(ev:O ρ=some (d,b))(ek:U ρ=some kd)(hk:jc kd=some M)(hf:aP d=true)(h1:ks.length<=1000)(h2:kd.length<=1000):uC i U O ρ=some (.nx (ρ.set i (some (.dt (du ks M) (cQ ks vs M d),true)))):=by
 unfold uC;rw[e];dsimp;rw[ev,vJ,ek,vJ,hk,vJ,if_pos ⟨hf,bw N9,cf N9⟩]
def Zq (a b:Cl):(aX (kC a) (kC b)).isSome=true:=by
 unfold kC;rw[aX];split
 .rw[aX];split
  .rw[aX];split
   .rfl
   .rfl
  .rfl
 .rfl
def En (cs:List Cl):cI (cs.map kC)=true:=by
 simp_all[cI,Zq]
theorem oD {α M:Type}(f:α->M):∀ {l:List α},(l.map f).Nodup->∀ {a b:α},a∈l->b∈l->f a=f b->a=b
 |[],_,_,_,ha,_,_=>by cases ha
 |c::l,h,a,b,ha,hb,e=>by
  rw[uY,nodup_cons]at h;rcases vP ha with O|ha1
  .grind
  .rcases vP hb with U|hb1
   .simp_all
   .exact oD f h.2 ha1 hb1 e
def RM {cs:List Cl}{a b:Cl}(ha:a∈cs)(hb:b∈cs)(e:bZ (kC a)=bZ (kC b)):(a.o,a.n)=(b.o,b.n):=by
 have h:=oh (En cs) (uS ⟨a,ha,rr⟩) (uS ⟨b,hb,rr⟩) e;grind[kC]
def Nx (g:fD aa)(ae:Int)(h:A6 (ag aa ae) l dd st)(hj:l.length<=60)(hx:x∈ag aa ae)(f:aG x.1=false)(m:OB):
  ∃n,(o3 [sT aa,sI ae,lT (st.1.map aW),some (.dt st.2.1 st.2.2,true),sI x.2,m]=some (.nx [sT aa,sI ae,lT ((cK (ag aa ae) st x).1.map aW),some (.dt (cK (ag aa ae) st x).2.1 (cK (ag aa ae) st x).2.2,true),sI x.2,n])
   \/ o3 [sT aa,sI ae,lT (st.1.map aW),some (.dt st.2.1 st.2.2,true),sI x.2,m]=some (.ct [sT aa,sI ae,lT ((cK (ag aa ae) st x).1.map aW),some (.dt (cK (ag aa ae) st x).2.1 (cK (ag aa ae) st x).2.2,true),sI x.2,n])):=by
 obtain⟨ha,c⟩:=cL g hx;have j:st.1.length<=60:=by have:=h.len;lia
 have hf:aP x.1=true:=c.rp.flat;have q:=FU g ae st.1 j hx f;have O:mz (bP (fA mT (fV 0 (fV 1 (fV 2 (fV 4 ay)))))) [sT aa,sI ae,lT (st.1.map aW),some (.dt st.2.1 st.2.2,true),sI x.2,some (x.1,false)]=some (!bF (ag aa ae) st.1 x):=
  ba (cm (a0 [.tup aa,.int ae,.lst (st.1.map aW),.int x.2] X9 q))
 have hw:fA aZ (fV 5 ay) [sT aa,sI ae,lT (st.1.map aW),some (.dt st.2.1 st.2.2,true),sI x.2,some (x.1,false)]=sS (kindOf x.1):=a0 [x.1] rr (gN c);refine⟨some (x.1,false),?_⟩;cases hc:bF (ag aa ae) st.1 x with
 |false=>
  rw[hc]at O;have es:cK (ag aa ae) st x=st:=by unfold cK;rw[hc];rfl
  rw[es];exact .inr (eQ x.1 (by simp[ha]) hf (Zp (pJ O rr)))
 |true=>
  rw[hc]at O;left;refine eQ x.1 (by simp[ha]) hf (c7 (je O rr) ?_);by_cases hn:kindOf x.1 = "named"
  .have es:cK (ag aa ae) st x=(st.1++[⟨aq 1 x.1,aq 2 x.1,a9 x.1,none,x.2⟩],st.2):=by unfold cK;rw[hc,if_pos rr,if_pos hn]
   rw[es];refine pJ (bu (bb:=false) hw (mi hn)) ?_;have U:av [x.1,.str "office"]=sS (aq 1 x.1)/\av [x.1,.str "person"]=sS (aq 2 x.1):=by
    obtain⟨a,k,aj,e,d⟩:=c;rw[e]at hn |-;replace hn:k = "named":=hn;cases d with
    |named d o p=>exact⟨aS (i:=1) bK rr,aS (i:=2) bK rr⟩
    |root=>exact cN hn
    |chosen=>exact cN hn
    |heir=>exact cN hn
    |three _ hk=>rcases hk with rfl|rfl|rfl<;>exact cN hn
    |other _ hk=>rcases hk with rfl|rfl|rfl|rfl|rfl<;>exact cN hn
   have r:bo [x.1]=sI (a9 x.1):=by simp_all[rW,tR]
   have e2:f2 j0 (am 2) (fA f6 (ak (fA hV (fV 5 (ak (fA bo (fV 5 ay)) (fV 4 ay)))) ay)) [sT aa,sI ae,lT (st.1.map aW),some (.dt st.2.1 st.2.2,true),sI x.2,some (x.1,false)]=lT (st.1.map aW++[aW ⟨aq 1 x.1,aq 2 x.1,a9 x.1,none,x.2⟩]):=by
    refine eN (x:=.lst (st.1.map aW)) (y:=.lst [aW ⟨aq 1 x.1,aq 2 x.1,a9 x.1,none,x.2⟩]) (b1:=false) (b2:=true) rr ?_ (if_pos (cf (by rw[vI,length_singleton];lia)));exact a0 [aW ⟨aq 1 x.1,aq 2 x.1,a9 x.1,none,x.2⟩] (a7 (a0 [x.1,.int (a9 x.1),.int x.2] (aM rr (aM (a0 [x.1] rr r) rr)) (V4 U.1 U.2 _ _)) rr) (c8 _ X9)
   have:=xm (i:=2) e2 (by have hq:=iR (st.1++[(⟨aq 1 x.1,aq 2 x.1,a9 x.1,none,x.2⟩:Cl)]);rwa [uW]at hq);rw[uW];exact this
  .refine je (bu (bb:=false) hw (oP hn)) ?_;by_cases M:kindOf x.1 = "chosen"
   .have es:cK (ag aa ae) st x=(cb st.1 [aq 2 x.1] (aq 1 x.1) (eG 4 x.1)++[⟨aq 2 x.1,aq 3 x.1,eG 4 x.1,none,x.2⟩],st.2):=by simp_all[cK]
    rw[es];refine pJ (bu (bb:=false) hw (mi M)) (xm (i:=2) (a0 [.lst (st.1.map aW),x.1,.int x.2] rr ?_) (iR _));obtain⟨a,k,aj,e,d⟩:=c;rw[e]at M |-;replace M:k = "chosen":=M;cases d with
    |chosen d b o p s=>exact FV st.1 j x.2
    |root=>exact cN M
    |named=>exact cN M
    |heir=>exact cN M
    |three _ hk=>rcases hk with rfl|rfl|rfl<;>exact cN M
    |other _ hk=>rcases hk with rfl|rfl|rfl|rfl|rfl<;>exact cN M
   .refine je (bu (bb:=false) hw (oP M)) ?_;by_cases hh:kindOf x.1 = "heir"
    .have es:cK (ag aa ae) st x=(st.1,du st.2.1 [.inr (aq 2 x.1),.inr (aq 1 x.1)],cQ st.2.1 st.2.2 [.inr (aq 2 x.1),.inr (aq 1 x.1)] (.str (aq 3 x.1))):=by simp_all[cK]
     rw[es];have U:av [x.1,.str "office"]=sS (aq 2 x.1)/\av [x.1,.str "by"]=sS (aq 1 x.1)/\av [x.1,.str "person"]=sS (aq 3 x.1):=by
      obtain⟨a,k,aj,e,d⟩:=c;rw[e]at hh |-;replace hh:k = "heir":=hh;cases d with
      |heir d b o p=>exact⟨aS (i:=2) bK rr,aS (i:=1) bK rr,aS (i:=3) bK rr⟩
      |root=>exact cN hh
      |named=>exact cN hh
      |chosen=>exact cN hh
      |three _ hk=>rcases hk with rfl|rfl|rfl<;>exact cN hh
      |other _ hk=>rcases hk with rfl|rfl|rfl|rfl|rfl<;>exact cN hh
     exact pJ (bu (bb:=false) hw (mi hh)) (Nw (ks:=st.2.1) (vs:=st.2.2) (kd:=[.str (aq 2 x.1),.str (aq 1 x.1)]) (b:=false) rr (a0 [x.1,.str "person"] rr U.2.2) (a7 (a0 [x.1,.str "office"] rr U.1) (a7 (a0 [x.1,.str "by"] rr U.2.1) rr)) rr rr (by have:=h.hk;lia) X9)
    .refine je (bu (bb:=false) hw (oP hh)) ?_;have es:cK (ag aa ae) st x=(cb st.1 (st.1.map Cl.o) (aq 1 x.1) (a9 x.1)++pM (ag aa ae) st.1 st.2.1 st.2.2 (aq 1 x.1) (a9 x.1) x.2,st.2):=by simp_all[cK]
     rw[es];have hd:kindOf x.1 = "death":=by
      unfold bF at hc;by_cases hd:kindOf x.1 = "death"
      .exact hd
      .rw[if_neg hd,if_neg (by simp[sq,hn,M,hh])]at hc;cases hc
     refine xm (i:=2) (a0 [.tup aa,.int ae,.lst (st.1.map aW),.dt st.2.1 st.2.2,.int x.2] X9 ?_) (iR _);obtain⟨a,k,aj,e,d⟩:=c;have hk:k = "death":=by rw[e]at hd;exact hd
     subst hk;obtain⟨dd,p,rfl⟩:=d.deed.three S9;have:=JB g ae st.1 j st.2.1 st.2.2 h.hs hx e;rw[this,e];rfl
theorem Eo (K:KL):∀(l M:KL)(st:Tc)(dd:LS),A6 K M dd st->((M++l).map (·.2)).Nodup->∃O,A6 K (M++l) O (l.foldl (cK K) st)
 |[],M,st,dd,h,_=>⟨dd,by rw[uQ];exact h⟩
 |x::l,M,st,dd,h,hn=>by
  have hx:x.2∉M.map (·.2):=λhm=>by
   grind
  obtain⟨O,h'⟩:=h.step hx;have e:M++x::l=(M++[x])++l:=X9
  rw[e]at hn |-;exact Eo K l _ _ _ h' hn
def Ep (K l:KL)(h:(l.map (·.2)).Nodup):∃dd,A6 K l dd (lC K l):=by
 have:=Eo K l [] ([],[],[]) [] ⟨uN _,X9,X9,X9,X9,uN _⟩ h;exact this
def kU (h:(K.map (·.2)).Nodup):((bB K).map (·.2)).Nodup:=((a5 _ _).map _).nodup_iff.mpr (List.Nodup.sublist (List.Sublist.map _ filter_sublist) h)
def vj {aa:LD}(g:fD aa)(ae:Int)(v:(bB (ag aa ae)).length<=60):mU [.tup aa,.int ae]=lT ((aU (ag aa ae)).map aW)/\(aU (ag aa ae)).length<=60:=by
 have t:dJ [.tup aa,.int ae]=lT ((bB (ag aa ae)).map λx=>.int x.2):=p6 g ae;generalize i:ag aa ae=K at v t |-;have w:∀x∈bB K,x∈K/\aG x.1=false:=λx hx=>by
  obtain⟨h1,h2⟩:=vN ((a5 _ _).mem_iff.mp hx);simp_all
 have u:((bB K).map (·.2)).Nodup:=kU (by grind[ci]);obtain⟨ρ',e,l,k,rfl⟩:=dZ (tg:=eU 4) (g:=o3) (λj ρ=>∃l k:OB,ρ=[sT aa,sI ae,lT ((lC K ((bB K).take j)).1.map aW),some (.dt (lC K ((bB K).take j)).2.1 (lC K ((bB K).take j)).2.2,true),l,k]) ((bB K).map λx=>.int x.2)
  _ ⟨none,none,rr⟩ (by
   rintro j d ρ hd ⟨l,k,rfl⟩;rw[vA]at hd;obtain⟨x,hx,rfl⟩:=oY hd;have G:(bB K).take (j+1)=(bB K).take j++[x]:=by rw[take_add_one,hx];rfl
   have z:lC K ((bB K).take (j+1))=cK K (lC K ((bB K).take j)) x:=by simp_all[lC]
   obtain⟨A,m⟩:=w x (vL hx);obtain⟨dd,h⟩:=Ep K ((bB K).take j) (List.Nodup.sublist (List.Sublist.map _ (take_sublist _ _)) u);rw[<-i]at h;have M:=Nx g ae h (by rw[i,length_take];lia) (x:=x) (by rw[i];exact A) m k;rw[i]at M;obtain⟨B,M⟩:=M;exact⟨_,_,rr,M,sI x.2,B,by rw[z]⟩)
 have q:(bB K).take ((bB K).map λx=>D.int x.2).length=bB K:=X9
 rw[q]at e;obtain⟨dd,O⟩:=Ep K (bB K) u;generalize C:(lC K (bB K))=st at e O;have E:st.1.length<=60:=by have:=O.len;lia
 have f:aU K=dr (λc=>bZ (kC c)) st.1:=by unfold aU;rw[C]
 have hm:∀ρ:DL.Env,iK (Fy jY ρ) (st.1.map aW)=some (st.1.map λc=>.tup [.str c.o,.int c.s,.int c.n]):=λρ=>gM st.1 λc _=>by
  rfl
 have hk:dO (st.1.map λc=>D.tup [.str c.o,.int c.s,.int c.n])=some (st.1.map kC):=fX st.1 λc _=>rr;have U:(st.1.map kC).length<64/\cI (st.1.map kC)=true/\dX (st.1.map kC)=true/\((st.1.map kC).map bZ).Nodup:=by
  refine⟨by rw[vI];lia,En _,?_,?_⟩
  .simp_all[dX,kC]
  .rw[uP];have h1:st.1.Pairwise λa b=>(a.o,a.n)≠(b.o,b.n):=pairwise_map.mp O.nod;have h2:st.1.Pairwise λa b=>bZ (kC a)≠bZ (kC b):=by
    refine List.Pairwise.imp_of_mem ?_ h1;intro a b ha hb F e;exact F (RM ha hb e)
   exact pairwise_map.mpr h2
 have hz:(st.1.map kC).zip (st.1.map aW)=st.1.map λc=>(kC c,aW c):=by rw[zip_map']
 have r:((aU K).map λc=>(kC c,aW c))=dr (λp:List At×D=>bZ p.1) (st.1.map λc=>(kC c,aW c)):=by
  rw[f];refine iJ _ (λx hx y hy e=>?_) ((a5 _ _).map _) ?_
  .grind[oD]
  .exact pairwise_map.mpr (dH _ _)
 refine⟨ah rr (bx (ds:=[]) q9 rr (c7 rr (c7 (fP (ds:=(bB K).map λx=>.int x.2) ?_ e) (ai ?_)))),by rw[f,(a5 _ _).length_eq];exact E⟩
 .show(fA dJ (fV 0 (fV 1 ay)) _).bind _=_;rw[a0 [.tup aa,.int ae] rr t];rfl
 .unfold wZ;show((some (D.lst (st.1.map aW),false)).bind _)=_;simp only[vJ];rw[hm];simp only[vJ];rw[hk];simp only[vJ];rw[if_pos U];unfold fB;rw[hz,<-r,uP];rfl
end Lw
namespace Lw
open PySem PySem.Spec DL L2
def iT (x:Int×OI):D:=.tup [.int x.1,uD x.2]
def ky (x:Int×OI):aP (iT x)=true:=by simp[iT,Ek]
def vk (x:Int×OI):aK 5 (iT x)=true:=by obtain⟨s,u⟩:=x;cases u<;>simp[iT,uD]
def RN {zs:LS}{i:Int}(h1 : -(zs.length:Int)<=i)(h2:i<zs.length):∃z∈zs,fu (.lst (zs.map .str)) (.int i)=sS z:=by
 obtain⟨j,hj,hl⟩:∃j,G4 (zs.map D.str).length i=some j/\j<zs.length:=by
  unfold G4;rw[vI];by_cases h0:0<=i
  .simp_all
  .rw[if_neg h0,if_pos N9];exact⟨_,rr,N9⟩
 simp_all[mq]
def MR:LN:=[7,255,3,15]
noncomputable def MS:LN:=[1,2,3,4,5,7,128,255]
inductive Dd:Str->List D->Prop
 |root (o r:Str) (m:Nat) (hm:m∈MR) (f:Int):Dd ("root" : Str) [.str o,.int m,.int f,.str r]
 |named (d:Int) (o p:Str):Dd ("named" : Str) [.int d,.str o,.str p]
 |chosen (d:Int) (b o p:Str) (s:Int):Dd ("chosen" : Str) [.int d,.str b,.str o,.str p,.int s]
 |heir (d:Int) (b o p:Str):Dd ("heir" : Str) [.int d,.str b,.str o,.str p]
 |three (k:Str) (hk:k = "death" \/ k = "lost" \/ k = "found") (d:Int) (p:Str):Dd k [.int d,.str p]
 |leave (d:Int) (b p:Str) (m:Nat) (hm:m∈MS) (x:Int×Option Int) (f:Int):Dd ("leave" : Str) [.int d,.str b,.str p,.int m,iT x,.int f]
 |paper (k:Str) (hk:k = "paper" \/ k = "like") (d:Int) (b:Str) (m:Nat) (hm:m∈MS) (x:Int×Option Int) (r:List D) (hf:aV r=true) (hp:r.all (aK 5)=true):Dd k (.int d::.str b::.int m::iT x::r)
 |copy (k:Str) (hk:k = "copy" \/ k = "call") (d:Int) (b:Str) (n:Nat):Dd k [.int d,.str b,.int n]
def Dd.cd (h:Dd k r):Cd k r:=by
 cases h with
 |root o r m hm f=>exact .root _ _ _ _
 |named d o p=>exact .named _ _ _
 |chosen d b o p s=>exact .chosen _ _ _ _ _
 |heir d b o p=>exact .heir _ _ _ _
 |three k hk d p=>exact .three _ hk _ _
 |leave d b p m hm x f=>exact .other _ (.inl rr) _ _ _ (by simp[ky]) (by simp_all[vk])
 |paper k hk d b m hm x r hf hp=>exact .other _ (hk.elim (λh=>.inr (.inl h)) λh=>.inr (.inr (.inl h))) _ _ _ (by simp[hf,ky]) (by simp_all[vk])
 |copy k hk d b n=>exact .other _ (hk.elim (λh=>.inr (.inr (.inr (.inl h)))) λh=>.inr (.inr (.inr (.inr h)))) _ _ _ rr X9
def bi (r:D):Prop:=∃h k aj,r=row h k aj/\Dd k aj
def bi.c (g:bi r):xu r:=by obtain⟨h,k,aj,e,d⟩:=g;exact⟨h,k,aj,e,d.cd⟩
def bi.flat (g:bi r):aP r=true:=g.c.rp.flat
noncomputable def nw (aa:LD):LS:=(aa.filter aG).map (aq 0)
def vn (aa:LD)(r:D):nw (aa++[r])=nw aa++if aG r=true then [aq 0 r]else []:=by
 grind[nw]
def vp (a b:Nat):iP [.int a,.int b]=sO (decide (a &&& b=b)):=by
 have:Builtin.bitAnd (a:Int) (b:Int)=((a &&& b:Nat):Int):=by simp[Builtin.bitAnd]
 simp[iP,this];lia
def li (r:D):Nat:=(if kindOf r = "root" then eG 1 r else if kindOf r = "leave" then eG 3 r else eG 2 r).toNat
def kB (a:Int)(k:Str)(aj:LD):kindOf (row a k aj)=k:=rfl
noncomputable def dE:LS:=[("leave" : Str),"paper","like"]
def sy (g:bi r)(h:aG r=true):∃a o rl,∃m:Nat,∃f:Int,r=row a ("root" : Str) [.str o,.int m,.int f,.str rl]/\m∈MR/\li r=m:=by
 obtain⟨a,k,aj,rfl,d⟩:=g;have hk:k = "root":=xQ h;clear h;cases d with
 |root o rl m hm f=>exact⟨a,o,rl,m,f,rr,hm,I9⟩
 |named=>exact cN hk
 |chosen=>exact cN hk
 |heir=>exact cN hk
 |three k M=>rcases M with rfl|rfl|rfl<;>exact cN hk
 |leave=>exact cN hk
 |paper k M=>rcases M with rfl|rfl<;>exact cN hk
 |copy k M=>rcases M with rfl|rfl<;>exact cN hk
def Er (g:bi r)(h:aG r=true):av [r,.str "matters"]=sI (li r):=by
 obtain⟨a,o,rl,m,f,rfl,_,e⟩:=sy g h;rfl
def RO {a:Int}{k:Str}{aj:LD}(d:Dd k aj)(h:k∈dE):li (row a k aj)∈MS/\(∃i:Nat,lP bX (.str k) (.str "matters")=sI i/\aj[i]? = some (.int (li (row a k aj))))/\(D.str k::aj).getD (3+if k = "leave" then 1 else 0) .non=.int (li (row a k aj))/\(3+if k = "leave" then 1 else 0)<(D.str k::aj).length:=by
 cases d with
 |leave d b p m hm x f=>
  have e:li (row a ("leave" : Str) [.int d,.str b,.str p,.int m,iT x,.int f])=m:=I9
  refine⟨hm,⟨3,bK,rr⟩,?_,?_⟩
  .rfl
  simp
 |paper k hk d b m hm x r hf hp=>
  have hl:k ≠ "leave":=by rcases hk with rfl|rfl<;>decide +kernel
  have hr:k ≠ "root":=by rcases hk with rfl|rfl<;>decide +kernel
  have e:li (row a k (.int d::.str b::.int m::iT x::r))=m:=by unfold li;rw[kB,if_neg hr,if_neg hl];rfl
  rw[e];refine⟨hm,⟨2,by rcases hk with rfl|rfl<;>exact bK,rr⟩,?_,?_⟩
  .rw[if_neg hl];rfl
  simp_all
 |root=>exact cN h
 |named=>exact cN h
 |chosen=>exact cN h
 |heir=>exact cN h
 |three k M=>rcases M with rfl|rfl|rfl<;>exact cN h
 |copy k M=>rcases M with rfl|rfl<;>exact cN h
def xB (g:bi r)(h:kindOf r∈dE):av [r,.str "matters"]=sI (li r):=by
 obtain⟨a,k,aj,rfl,d⟩:=g;obtain⟨_,⟨i,h1,h2⟩,_⟩:=RO d h;exact aS h1 h2
noncomputable def be:LS:=[("leave" : Str),"paper","like","copy"]
def jr (h:k∈be\/k = "call"):da k=true:=by
 grind[rT,be,zF]
def Ny {k:Str}{aj:LD}(d:Dd k aj)(h:da k=true):∃(dd:Int)(b:Str)(r:LD),aj=.int dd::.str b::r:=d.cd.deed.slg h
def Es (g:bi r)(h:da (kindOf r)=true):av [r,.str "by"]=sS (dm r):=by
 obtain⟨a,k,aj,rfl,d⟩:=g;obtain⟨dd,b,q,rfl⟩:=Ny d h;exact aS (Jz h) rr
noncomputable def bp (K:KL):LD:=(K.filter λx=>aG x.1).map (·.1)
theorem zO:∀(l:List (dB×D))(a:LK×LD),(a.1++l.map (·.1)).Nodup->l.foldl rb a=(a.1++l.map (·.1),a.2++l.map (·.2))
 |[],a,_=>by simp
 |p::l,a,h=>by
  have hn:p.1∉a.1:=by
   grind
  have e:rb a p=(a.1++[p.1],a.2++[p.2]):=by simp_all[rb,du,cQ]
  rw[foldl_cons,e,zO l _ (by rw[append_assoc];exact h)];simp
section
variable {K:KL}(hn:((bp K).map (aq 0)).Nodup)
include hn
theorem sA:bG (lB K)=((bp K).map λv=>(.inr (aq 0 v):dB),bp K):=by
 have e:lB K=(bp K).map λv=>((.inr (aq 0 v):dB),v):=by unfold lB bp;rw[uP];rfl
 have M:((bp K).map λv=>(.inr (aq 0 v):dB)).Nodup:=by
  refine pairwise_map.mpr ((pairwise_map.mp hn).imp λh z=>h (Sum.inr.inj z))
 rw[e];unfold bG;rw[zO _ _ (by rw[uP];exact M),uP,uP];congr 1;exact map_id _
end
noncomputable def Nz (j:Nat):D->Int×OI
 |.tup [_,.tup (_::aj)]=>match aj[j]? with
  |some (.tup [.int s,.int u])=>(s,some u)
  |some (.tup [.int s,.non])=>(s,none)
  |_=>(0,none)
 |_=>(0,none)
def qm {h:Int}{k:Str}{aj:LD}{j:Nat}{x:Int×OI}(e:aj[j]? = some (iT x)):Nz j (row h k aj)=x:=by
 unfold Nz row;dsimp only;rw[e];obtain⟨s,u⟩:=x;cases u<;>rfl
def eI (r:D):Int×OI:=if kindOf r = "leave" then Nz 4 r else Nz 3 r
def lD (r:D):Int:=if kindOf r = "root" then eG 2 r else eG 5 r
def ny (r:D):Bool:=decide (kindOf r = "leave")
def pC {r:D}(g:bi r)(h:kindOf r = "leave"):∃a d b p,∃m:Nat,∃x f,r=row a ("leave" : Str) [.int d,.str b,.str p,.int m,iT x,.int f]/\m∈MS/\li r=m/\eI r=x/\lD r=f:=by
 obtain⟨a,k,aj,rfl,d⟩:=g;have hk:k = "leave":=h;clear h;cases d with
 |leave d b p m hm x f=>exact⟨a,d,b,p,m,x,f,rr,hm,I9,by unfold eI;rw[kB,if_pos rr];exact qm rr,I9⟩
 |root=>exact cN hk
 |named=>exact cN hk
 |chosen=>exact cN hk
 |heir=>exact cN hk
 |three k M=>rcases M with rfl|rfl|rfl<;>exact cN hk
 |paper k M=>rcases M with rfl|rfl<;>exact cN hk
 |copy k M=>rcases M with rfl|rfl<;>exact cN hk
def N6 {a:Int}{k:Str}{aj:LD}(d:Dd k aj)(h:k∈dE):(∃i:Nat,lP bX (.str k) (.str "stretch")=sI i/\aj[i]? = some (iT (eI (row a k aj))))/\(D.str k::aj).getD (4+if k = "leave" then 1 else 0) .non=iT (eI (row a k aj))/\(4+if k = "leave" then 1 else 0)<(D.str k::aj).length:=by
 cases d with
 |leave d b p m hm x f=>
  have e:eI (row a ("leave" : Str) [.int d,.str b,.str p,.int m,iT x,.int f])=x:=by unfold eI;rw[kB,if_pos rr];exact qm rr
  rw[e];exact⟨⟨4,bK,rr⟩,rr,X9⟩
 |paper k hk d b m hm x r hf hp=>
  have hl:k ≠ "leave":=by rcases hk with rfl|rfl<;>decide +kernel
  have e:eI (row a k (.int d::.str b::.int m::iT x::r))=x:=by unfold eI;rw[kB,if_neg hl];exact qm rr
  rw[e,if_neg hl];exact⟨⟨3,by rcases hk with rfl|rfl<;>exact bK,rr⟩,rr,X9⟩
 |root=>exact cN h
 |named=>exact cN h
 |chosen=>exact cN h
 |heir=>exact cN h
 |three k M=>rcases M with rfl|rfl|rfl<;>exact cN h
 |copy k M=>rcases M with rfl|rfl<;>exact cN h
def Et (g:bi r)(h:kindOf r∈dE):av [r,.str "stretch"]=some (iT (eI r),false):=by
 obtain⟨a,k,aj,rfl,d⟩:=g;obtain⟨⟨i,h1,h2⟩,_⟩:=N6 d h;exact aS h1 h2
def xC (h:kindOf r = "leave"):kindOf r∈dE:=by rw[h];decide +kernel
def OV (g:bi r)(h:aG r=true\/kindOf r = "leave"):av [r,.str "further"]=sI (lD r):=by
 rcases h with h|h
 .obtain⟨a,o,rl,m,f,rfl,_,_⟩:=sy g h;rfl
 .obtain⟨a,d,b,p,m,x,f,e,_,_,_,M⟩:=pC g h;rw[e];rfl
def sC (r v:D):Bool:=decide (li v &&& li r=li r) && !(ny r && decide (lD v<=lD r))
def oE (r v:D):D:=if decide (li v &&& li r=li r)=true then (if(ny r && decide (lD v<=lD r))=true then .str "further" else .non)else .str "matters"
def zP (U:bi r)(gv:bi v)(g:kindOf r∈dE)(kv:aG v=true\/kindOf v = "leave"):∃d,kh [r,v]=some (d,false)/\SO d .non=sO (sC r v)/\d=oE r v:=by
 have b:=kv.elim (Er gv) λh=>xB gv (xC h);have e:bP (fA iP (ak (fA av (fV 1 (ak (fS "matters") ay))) (ak (fA av (fV 0 (ak (fS "matters") ay))) ay))) [some (r,false),some (v,false)]=some _:=cm (a0 _ (a7 (a0 [v,.str "matters"] rr b) (a7 (a0 [r,.str "matters"] rr (xB U g)) rr)) (vp _ _));have i:bP (f2 lu (fA aZ (fV 0 ay)) (fS "leave")) [some (r,false),some (v,false)]=some (ny r):=bu (a:=kindOf r) (bb:=false) (a0 [r] rr (gN U.c)) rr;have j:ny r=true->bP (f2 iGe (fA av (fV 0 (ak (fS "further") ay))) (fA av (fV 1 (ak (fS "further") ay)))) [some (r,false),some (v,false)]=some _:=λh=>cm (aY (.int (lD r)) (.int (lD v)) (a0 [r,.str "further"] rr (OV U (.inr (xQ h)))) (a0 [v,.str "further"] rr (OV gv kv)) rr);have f:=cR i j;unfold sC;cases M:decide (li v &&& li r=li r) with
 |false=>exact⟨.str "matters",ah rr (aR (ba (p:=false) (e.trans (by rw[M]))) (ai rr)),rr,by simp only[oE,M];rfl⟩
 |true=>
  cases O:(ny r && decide (lD v<=lD r)) with
  |true=>exact⟨.str "further",ah rr (ao (ba (p:=true) (e.trans (by rw[M]))) (aR (f.trans (by rw[O])) (ai rr))),rr,by simp only[oE,M,O];rfl⟩
  |false=>exact⟨.non,ah rr (ao (ba (p:=true) (e.trans (by rw[M]))) (ao (f.trans (by rw[O])) (ai rr))),rr,by simp only[oE,M,O];rfl⟩
def sD (h:k∈dE):k∈be:=by
 have:∀k∈dE,k∈be:=S9
 exact this k h
def ib (h:kindOf r∈dE):aG r=false:=by
 have:∀k∈dE,decide (k = "root")=false:=S9
 exact this _ h
def sE (g:bi r)(h:aG r=false):bo [r]=sI (a9 r):=by
 have:=rW g.c;simp_all[tR]
def zQ (cs:List Cl)(r v:D):Bool:=gP cs (aq 0 v) (aq 3 v) (dm r) (a9 r) && sC r v
def JD (cs:List Cl)(r v:D):D:=if gP cs (aq 0 v) (aq 3 v) (dm r) (a9 r)=true then oE r v else .str "holder"
def N7 (cs:List Cl)(M:cs.length<=60)(O:bi r)(gv:bi v)(U:kindOf r∈dE)(hv:aG v=true):∃d,fQ [.lst (cs.map aW),r,v]=some (d,false)/\SO d .non=sO (zQ cs r v)/\d=JD cs r v:=by
 obtain⟨d,e,e2,g⟩:=zP O gv U (.inl hv);have c:bP (fA dj (fV 0 (fV 2 (ak (fA av (fV 1 (ak (fS "by") ay))) (ak (fA bo (fV 1 ay)) ay))))) [sL (cs.map aW),some (r,false),some (v,false)]=some (gP cs (aq 0 v) (aq 3 v) (dm r) (a9 r)):=by
  refine cm (a0 _ (aM rr (aM rr (a7 (a0 _ rr (Es O (jr (.inl (sD U))))) (a7 (a0 [r] rr (sE O (ib U))) rr)))) ?_);obtain⟨a,o,rl,m,f,rfl,_,_⟩:=sy gv hv;exact xy cs M _ _
 unfold zQ;cases b:gP cs (aq 0 v) (aq 3 v) (dm r) (a9 r) with
 |false=>exact⟨.str "holder",ah rr (aR (ba (p:=false) (c.trans (by rw[b]))) (ai rr)),rr,by simp only[JD,b];rfl⟩
 |true=>exact⟨d,ah rr (ao (ba (p:=true) (c.trans (by rw[b]))) (ai (a0 [r,v] rr e))),e2,by grind[JD]⟩
def JF (cs:List Cl)(r v:D):Int:=match jz cs (aq 0 v) (aq 3 v) (a9 r) with
 |.tup [_,_,.int n]=>n
 |_=>0
def JG (h:gP cs o rl p day=true):∃n:Int,jz cs o rl day=.tup [.str "one",.str p,.int n]:=by
 unfold gP jz at h;unfold jz;generalize V2 cs o _=M at h |-;cases M with
 |nil=>
  have h:gS (.tup [.str _]) _=true:=h;simp_all
 |cons b r=>
  rw[p8]at h |-;split at h
  .have h:gS (.tup [.str _,.lst _]) _=true:=h;simp_all
  .rename_i hn;rw[if_neg hn];have h:gS (.tup [.str _,.str _]) _=true:=h;simp_all
def NA (h:gP cs (aq 0 v) (aq 3 v) (dm r) (a9 r)=true):jz cs (aq 0 v) (aq 3 v) (a9 r)=.tup [.str "one",.str (dm r),.int (JF cs r v)]:=by
 obtain⟨n,e⟩:=JG h;unfold JF;rw[e]
def V5 (cs:List Cl)(r v:D):D:=.tup [.str "office",.str (aq 0 v),.int (JF cs r v)]
def sG (g:∀r∈aa,bi r)(hv:v∈bp (ag aa ae)):bi v/\aG v=true:=by
 obtain⟨x,hx,rfl⟩:=vO hv;obtain⟨h1,h2⟩:=vN hx;exact⟨g _ (vL (aE h1)),h2⟩
def JH (hl:aa.length<=60)(ae:Int):(bp (ag aa ae)).length<=60:=by
 unfold bp;rw[vI];exact vR (vM _ _) (vR (bN _ _) hl)
def FW {aa:LD}(g:∀r∈aa,bi r)(hl:aa.length<=60)(ae:Int)(hn:((bp (ag aa ae)).map (aq 0)).Nodup)(cs:List Cl)(O:cs.length<=60){b:Nat}{r:D}(hr:aa[b]? = some r)(j:kindOf r∈dE):
    gJ [.tup aa,.int ae,.lst (cs.map aW),.int b]=lT (((bp (ag aa ae)).filter (zQ cs r)).map (V5 cs r)):=by
  have k:fD aa:=⟨hl,λr hr=>(g r hr).c⟩;have e:=g r (vL hr);have p:=JH hl ae;have h1:=cS (fi:=xf (fA hU (fV 0 (fV 1 ay)))) (nT:=1) (cap:=[2,4]) (tg:=eU 0) (c:=bP (f2 SO (fA fQ (fV 1 (fV 2 (fV 0 ay)))) (fC .non))) (fe:=am 0)
    (ρ:=[sT aa,sI ae,sL (cs.map aW),sI b,some (r,false),none]) (bp (ag aa ae)) id (zQ cs r) id
    (by show(fA hU _ _).bind _=_;rw[a0 [.tup aa,.int ae] rr (sk k ae),sA hn];simp) N9 λv hv=>by
      obtain⟨gv,M⟩:=sG g hv;obtain⟨d,l,e2,_⟩:=N7 cs O e gv j M;exact⟨[some (v,false),sL (cs.map aW),some (r,false)],rr,cm (aY d .non (a0 [.lst (cs.map aW),r,v] rr l) rr e2),λ_=>⟨false,rr⟩⟩
  rw[map_id]at h1;have n:aV ((bp (ag aa ae)).filter (zQ cs r))=true:=bq λv hv=>(sG g (vN hv).1).1.flat;refine ah rr (eQ r (aY (.tup aa) (.int b) rr rr (by simp[bg hr])) e.flat (bx h1 n (ai ?_)));refine fK (fi:=c9 (am 5)) (nT:=1) (cap:=[2,4]) (tg:=eU 0)
     ((bp (ag aa ae)).filter (zQ cs r)) id (V5 cs r) X9 (vR (vM _ _) N9) λv hv=>?_
  obtain⟨h,i⟩:=vN hv;obtain⟨gv,M⟩:=sG g h;have U:(gP cs (aq 0 v) (aq 3 v) (dm r) (a9 r) && sC r v)=true:=i;rw[vC]at U;have hh:=NA U.1;refine⟨[some (v,false),sL (cs.map aW),some (r,false)],rr,false,?_⟩;obtain⟨a,o,rl,m,f,rfl,_,_⟩:=sy gv M;refine a0 [.str "office",.str o,.int (JF cs r _)] (aM rr (a7 (a0 _ rr p9) (aM (aY (jz cs o rl (a9 r)) (.int 2) (a0 _ (aM rr (aM rr (a7 (a0 [r] rr (sE e (ib j))) rr))) (nv cs O _)) rr ?_) rr))) (bc _ X9);have hh:jz cs o rl (a9 r)=_:=hh;rw[hh];rfl
noncomputable def vq (day:Int)(x:Int×OI):Bool:=decide (x.1<=day) && (match x.2 with|none=>true|some u=>decide (day<u))
noncomputable def V6:OI->OI->Bool
 |_,none=>true
 |none,some _=>false
 |some x,some y=>decide (x<=y)
def NB (a b:OI):iz [uD a,uD b]=sO (V6 a b):=by
 cases b with
 |none=>rfl
 |some y=>
  cases a with
  |none=>rfl
  |some x=>rfl
def JJ (a b:Int×OI):Bool:=decide (b.1<=a.1) && V6 a.2 b.2
def RP (a b:Int×OI):hW [iT a,iT b]=sO (JJ a b):=
 ah rr (ai (cj (b1:=false) (by simp[iT,BC]) λ_=>a0 _ (aM (by simp[iT,G7]) (aM (by simp[iT,G7]) rr)) (NB _ _)))
def OW {aa:LD}{i:Nat}{r:D}(hr:aa[i]? = some r)(g:bi r)(h:aG r=false):gF [.tup aa,.int i]=sT [.int (a9 r),.int i]:=
 ah rr (ai (a0 _ (aM (a0 _ (by simp[bg hr]) (sE g h)) rr) q9))
def Zr (a b c d:Int):Y2 (.tup [.int a,.int b]) (.tup [.int c,.int d])=sO (decide (a<c\/(a=c/\b<d))):=by
 show(aX _ _).map _=_;rw[RI];rfl
def zR {aa:LD}{i j:Nat}{x y:D}(hx:aa[i]? = some x)(hy:aa[j]? = some y)(M:bi x)(O:bi y)(nx:aG x=false)(U:aG y=false):gK [.tup aa,.int i,.int j]=sO (bL (x,i) (y,j)):=
 ah rr (ai (aY _ _ (a0 _ rr (OW hx M nx)) (a0 _ rr (OW hy O U)) (Zr _ _ _ _)))
def JL (r:D)(M:Nat)(x:D×Nat):Bool:=bL x (r,M) && ((vq (a9 r) (eI x.1) && JJ (eI r) (eI x.1)) && sC r x.1)
def Eu (r:D)(M:Nat)(x:D×Nat):D:=if bL x (r,M)=true then (if(vq (a9 r) (eI x.1) && JJ (eI r) (eI x.1))=true then oE r x.1 else .str "days")else .str "order"
def NC {aa:LD}{O M:Nat}{r l:D}(hr:aa[O]? = some r)(hl:aa[M]? = some l)(a:bi r)(c:bi l)(e:kindOf r∈dE)(f:kindOf l = "leave"):∃d,ki [.tup aa,.int O,.int M]=some (d,false)/\SO d .non=sO (JL r O (l,M))/\d=Eu r O (l,M):=by
 have i:=ib e;have n:=ib (xC f);obtain⟨d,o,e2,q⟩:=zP a c e (.inr f);let E:DL.Env:=[sT aa,sI O,sI M,some (r,false),some (iT (eI l),false)];have j:∀ρ:DL.Env,ρ[0]? = some (sT aa)->ρ[2]? = some (sI M)->f2 fu (am 0) (am 2) ρ=some (l,false):=λρ h0 h2=>aY (.tup aa) (.int M) (by simp[h0]) (by simp[h2]) (by simp[bg hl]);have g:bP (fA gK (fV 0 (fV 2 (fV 1 ay)))) E=some (bL (l,M) (r,O)):=cm (a0 [.tup aa,.int M,.int O] rr (zR hl hr c a n i));have s:bP (fA kO (ak (fA bo (fV 3 ay)) (fV 4 ay))) E=some (vq (a9 r) (eI l)):=cm (a0 [.int (a9 r),iT (eI l)] (a7 (a0 [r] rr (sE a i)) (aM rr rr)) (xw _ _ _));have t:bP (fA hW (ak (fA av (fV 3 (ak (fS "stretch") ay))) (fV 4 ay))) E=some (JJ (eI r) (eI l)):=cm (a0 [iT (eI r),iT (eI l)] (a7 (a0 [r,.str "stretch"] rr (Et a e)) (aM rr rr)) (RP _ _));have m:=b7 (ba s) λ_=>ba t;have go:∀(h:FS)(res:Option Res),h E=res->ce (eM 3 (f2 fu (am 0) (am 1))) (ce (eM 4 (fA av (ak (f2 fu (am 0) (am 2)) (ak (fS "stretch") ay)))) h) [sT aa,sI O,sI M,none,none]=res:=λh res k=>
  eQ r (aY (.tup aa) (.int O) rr rr (by simp[bg hr])) a.flat (eQ (iT (eI l)) (a0 [l,.str "stretch"] (a7 (j _ rr rr) rr) (Et c (xC f))) (ky _) k)
 unfold JL;cases U:bL (l,M) (r,O) with
 |false=>exact⟨.str "order",ah rr (go _ _ (aR (ba (p:=false) (g.trans (by rw[U]))) (ai rr))),rr,by simp only[Eu,U];rfl⟩
 |true=>
  cases b:(vq (a9 r) (eI l) && JJ (eI r) (eI l)) with
  |false=>exact⟨.str "days",ah rr (go _ _ (ao (ba (p:=true) (g.trans (by rw[U]))) (aR (m.trans (by rw[<-Bool.not_and,b];rfl)) (ai rr)))),rr,by simp only[Eu,U,b];rfl⟩
  |true=>exact⟨d,ah rr (go _ _ (ao (ba (p:=true) (g.trans (by rw[U]))) (ao (m.trans (by rw[<-Bool.not_and,b];rfl)) (ai (a0 [r,l] (aM rr (a7 (j _ rr rr) rr)) o))))),e2,by rw[q];simp only[Eu,U,b];rfl⟩
def mf {aa:LD}{ae:Int}{i:Nat}{r:D}(hr:aa[i]? = some r)(g:bi r):gI [.tup aa,.int ae,.int i]=sO (decide (aF r<=ae) && ny r):=by
 have M:cD [.tup aa,.int ae,.int i]=sO (decide (aF r<=ae)):=by
  obtain⟨a,k,aj,rfl,d⟩:=g;exact kq hr _
 exact ah rr (ai (cj (a0 _ rr M) λ_=>aY _ _ (a0 _ (aM (aY _ _ rr rr (by simp[bg hr])) rr) (gN g.c)) rr (by simp[ny])))
noncomputable def zS (K:KL)(p:Str):KL:=(K.filter λx=>ny x.1).filter λx=>decide (aq 2 x.1=p)
def zU (g:∀r∈aa,bi r)(h:x∈zS (ag aa ae) p):aa[x.2]? = some x.1/\bi x.1/\kindOf x.1 = "leave":=by
 obtain⟨h1,_⟩:=vN h;obtain⟨h2,h3⟩:=vN h1;exact⟨aE h2,g _ (vL (aE h2)),xQ h3⟩
def FX {aa:LD}(g:∀r∈aa,bi r)(hl:aa.length<=60)(ae:Int)(p:Str):kj [.tup aa,.int ae,.str p]=lT ((zS (ag aa ae) p).map λx=>.int x.2):=by
 have O:=bN aa ae;have h1:=cS (fi:=c9 (fA ej (fV 0 (fV 1 ay)))) (nT:=1) (cap:=[0,1]) (tg:=eU 0) (c:=bP (fA gI (fV 1 (fV 2 (fV 0 ay))))) (fe:=am 0)
  (ρ:=[sT aa,sI ae,sS p,none]) _ _ _ _
  (by show(fA ej _ _).bind _=_;rw[a0 _ rr (kn aa (λr hr=>(g r hr).c.rp) N9 ae)];rfl) N9 λx hx=>by
   have hk:=(vN hx).2;have:=mf (ae:=ae) (aE hx) (g _ (vL (aE hx)));rw[hk,Bool.true_and]at this;exact⟨_,rr,cm (a0 _ rr this),λ_=>⟨false,rr⟩⟩
 have M:aV (((ag aa ae).filter λx=>ny x.1).map λx=>D.int x.2)=true:=bq λd hd=>by obtain⟨x,_,rfl⟩:=vO hd;rfl
 refine ah rr (bx h1 M (ai ?_));refine cS (fi:=c9 (am 3)) (nT:=1) (cap:=[2,0]) (tg:=eU 0) (fe:=am 0)
  (ρ:=[sT aa,sI ae,sS p,lT (((ag aa ae).filter λx=>ny x.1).map λx=>.int x.2)]) ((ag aa ae).filter λx=>ny x.1) (λx=>.int x.2) _ _ X9 (vR (vM _ _) N9) λx hx=>?_
 obtain⟨h2,h3⟩:=vN hx;obtain⟨a,d,b,q,m,st,f,e,_⟩:=pC (g _ (vL (aE h2))) (xQ h3);refine⟨[sI x.2,sS p,sT aa],rr,cm (aY (.str (aq 2 x.1)) (.str p) (a0 [x.1,.str "person"] (aM (aY (.tup aa) (.int x.2) rr rr (by simp[bg (aE h2)])) rr) ?_) rr X9),λ_=>⟨false,rr⟩⟩;rw[e];rfl
def FY {aa:LD}(g:∀r∈aa,bi r)(hl:aa.length<=60)(ae:Int){M:Nat}{r:D}(hr:aa[M]? = some r)(U:kindOf r∈dE):
    i6 [.tup aa,.int ae,.int M]=lT (((zS (ag aa ae) (dm r)).filter (JL r M)).map λx=>.tup [.str "leave",.int x.2]):=by
  have a:=g r (vL hr);have c:=bN aa ae;have e:(zS (ag aa ae) (dm r)).length<=60:=vR (vM _ _) (vR (vM _ _) N9);have O:aV ((zS (ag aa ae) (dm r)).map λx=>D.int x.2)=true:=bq λd hd=>by obtain⟨x,_,rfl⟩:=vO hd;rfl
  refine ah rr (bx (a0 _ (aM rr (aM rr (a7 (a0 _ (aM (aY _ _ rr rr (by simp[bg hr])) rr) (Es a (jr (.inl (sD U))))) rr))) (FX g hl _ _)) O (ai ?_));refine cS
     _ (λx=>.int x.2) _ _ X9 N9 λx hx=>?_
  obtain⟨h1,h2,h3⟩:=zU g hx;obtain⟨d,b,e2,_⟩:=NC hr h1 a h2 U h3;exact⟨[sF _,sF _,sF _],rr,cm (aY d _ (a0 _ rr b) rr e2),λ_=>⟨false,a0 _ rr (bc _ X9)⟩⟩
abbrev Bs:=Option Str×Int
noncomputable def Lb:Bs->D
 | (some o,n)=>.tup [.str "office",.str o,.int n]
 | (none,n)=>.tup [.str "leave",.int n]
noncomputable def zV:Bs->List At
 | (some o,n)=>[.i n,.s ("office" : Str),.s o,.i n]
 | (none,n)=>[.i n,.s ("leave" : Str),.i n]
def JM (b:Bs):aP (Lb b)=true:=by rcases b with⟨_|o,n⟩<;>rfl
def ND (b:Bs):fu (Lb b) (.int (-1))=sI b.2:=by rcases b with⟨_|o,n⟩<;>rfl
def JN (a b:Bs):(aX (zV a) (zV b)).isSome=true:=by
 have O:("office" : Str) ≠ "leave":=S9
 rcases a with⟨_|o,n⟩<;>rcases b with⟨_|o',M⟩
 .show(aX [.i n,.s _,.i n] [.i M,.s _,.i M]).isSome=true;rw[aX];split
  .simp_all[aX]
  .rfl
 .show(aX [.i n,.s _,.i n] [.i M,.s _,.s o',.i M]).isSome=true;rw[aX];split
  .rfl
  .rfl
 .show(aX [.i n,.s _,.s o,.i n] [.i M,.s _,.i M]).isSome=true;rw[aX];split
  .rfl
  .rfl
 .show(aX [.i n,.s _,.s o,.i n] [.i M,.s _,.s o',.i M]).isSome=true;rw[aX];split
  .rw[aX,if_pos rr,aX];split
   .simp_all[aX]
   .rfl
  .rfl
def NE (h:zV a=zV b):a=b:=by
 rcases a with⟨_|o,n⟩<;>rcases b with⟨_|o',M⟩<;>simp[zV]at h
 .rw[h]
 simp_all
def Ev (l:List Bs):cI (l.map zV)=true:=by
 simp_all[cI,JN]
theorem JP (e:bZ (zV a)=bZ (zV b)):a=b:=NE (oh (Ev [a,b]) X9 X9 e)
def toB (cs:List Cl)(r v:D):Bs:=(some (aq 0 v),JF cs r v)
def zW (K:KL)(cs:List Cl)(r:D)(M:Nat):List Bs:=((bp K).filter (zQ cs r)).map (toB cs r)++((zS K (dm r)).filter (JL r M)).map λx=>(none,(x.2:Int))
def NF (K:KL)(cs:List Cl)(r:D)(M:Nat):List Bs:=dr (λb=>bZ (zV b)) (zW K cs r M)
def FZ (hn:((bp (ag aa ae)).map (aq 0)).Nodup)(cs:List Cl)(r:D)(M:Nat):(zW (ag aa ae) cs r M).Nodup:=by
 unfold zW;rw[nodup_append];refine⟨?_,?_,?_⟩
 .exact pairwise_map.mpr ((List.Pairwise.sublist filter_sublist (pairwise_map.mp hn)).imp λh e=>h (vK (Prod.mk.inj e).1))
 .refine pairwise_map.mpr ((List.Pairwise.sublist (filter_sublist.trans (filter_sublist.trans filter_sublist)) (pairwise_map.mp (ci _ _))).imp λh e=>h ?_);lia
 .intro a ha b hb e;obtain⟨v,_,rfl⟩:=vO ha;obtain⟨x,_,rfl⟩:=vO hb;cases (Prod.mk.inj e).1
theorem vt {α:Type}{g:α->D}{h:α->List At}:∀(l:List α),(∀x∈l,Ru (g x)=some (h x))->l5 (l.map g)=some (l.map h)
 |[],_=>rr
 |x::l,k=>by
  rw[uY,l5,k x mX,vt l λy hy=>k y (mZ _ hy)];rfl
def Ew (hl:aa.length<=30)(ae:Int)(cs:List Cl)(r:D)(M:Nat):(zW (ag aa ae) cs r M).length<=60:=by
 have h1:((bp (ag aa ae)).filter (zQ cs r)).length<=30:=by
  grind[bp,bN]
 grind[bN,zS,zW]
def JQ {f:FE}{ρ:DL.Env}{b:Bool}(l:List Bs)(hl:l.length<=60)(hn:l.Nodup)(e:f ρ=some (.lst (l.map Lb),b)):B1 f (yW [] (fA dN (ak (f2 fu (am 0) (f1 HA (fI 1))) (fV 0 ay)))) ρ=lT ((dr (λb=>bZ (zV b)) l).map Lb):=by
 have hm:iK (yW [] (fA dN (ak (f2 fu (am 0) (f1 HA (fI 1))) (fV 0 ay))) ρ) _=some _:=gM l λb _=>by
  show(fA dN _ _).map _=_;rw[a0 _ (aM (aY (Lb b) _ rr rr (ND b)) (aM rr rr)) (bc _ X9)];rfl
 have hk:l5 (l.map λb=>D.tup [.int b.2,Lb b])=some (l.map zV):=vt l λb _=>by rcases b with⟨_|o,n⟩<;>rfl
 have M:(l.map zV).length<64/\cI (l.map zV)=true/\True/\((l.map zV).map bZ).Nodup:=by
  refine⟨by rw[vI];lia,Ev l,trivial,?_⟩;rw[uP];exact pairwise_map.mpr (List.Pairwise.imp (λh e=>h (JP e)) hn)
 unfold B1 wW;rw[e];simp only[vJ];rw[hm];simp only[vJ];rw[hk];simp only[vJ];rw[if_pos M];unfold fB;have O:((dr (λb=>bZ (zV b)) l).map λb=>(zV b,Lb b))=dr (λp=>bZ p.1) (l.map λb=>(zV b,Lb b)):=by
  refine iJ _ (λx hx y hy e=>?_) ((a5 _ _).map _) ?_
  .grind[JP]
  .exact pairwise_map.mpr (dH _ _)
 rw[zip_map',<-O,uP];rfl
section
variable {aa:LD}(g:∀r∈aa,bi r) (hl:aa.length<=30) (ae:Int) (hn:((bp (ag aa ae)).map (aq 0)).Nodup)
include g hl hn
theorem zX (cs:List Cl)(n:cs.length<=60){M:Nat}{r:D}(hr:aa[M]? = some r)(e:kindOf r∈dE)(hk:aF r<=ae):dM [.tup aa,.int ae,.lst (cs.map aW),.int M]=lT ((NF (ag aa ae) cs r M).map Lb):=by
 have f:=g r (vL hr);have m:∀(ρ:DL.Env)(j:Nat),ρ[0]? = some (sT aa)->ρ[j]? = some (sI M)->fA aZ (ak (f2 fu (am 0) (am j)) ay) ρ=sS (kindOf r):=λρ j h0 h2=>a0 [r] (aM (aY (.tup aa) (.int M) (by simp[h0]) (by simp[h2]) (by simp[bg hr])) rr) (gN f.c);have h:cD [.tup aa,.int ae,.int M]=sO true:=by
  obtain⟨a,k,aj,rfl,d⟩:=id f;rw[kq hr ae,mi (show a<=ae from hk)]
 have i:cY [.tup aa,.int ae,.int M]=sO (decide _):=ah rr (ai (cj (p:=true) (a0 [.tup aa,.int ae,.int M] rr h) λ_=>aY (.str (kindOf r)) (.tup ([("paper" : Str),"like","copy"].map .str)) (m _ 2 rr rr) rr (iQ _ _)));have hb:fj [.tup aa,.int ae,.int M]=sO true:=by
  refine(ah rr (ai (uI (a0 [.tup aa,.int ae,.int M] rr (mf hr f)) λ_=>a0 [.tup aa,.int ae,.int M] rr i))).trans ?_;rw[mi hk,Bool.true_and];have:∀k∈dE,(decide (k = "leave") || decide (k∈[("paper" : Str),"like","copy"]))=true:=S9
  unfold ny;rw[this _ e]
 have l:decide (kindOf r = "copy")=false:=by
  have:∀k∈dE,decide (k = "copy")=false:=S9
  exact this _ e
 have U:=Ew hl ae cs r M;have o:aV ((zW (ag aa ae) cs r M).map Lb)=true:=bq λd hd=>by obtain⟨b,_,rfl⟩:=vO hd;exact JM b
 refine ah rr (ao (ba (p:=true) (cm (a0 [.tup aa,.int ae,.int M] rr hb))) (ao (bu (a:=kindOf r) (bb:=false) (m _ 3 rr rr) l) (bx ?_ o (ai (JQ (b:=false) _ U (FZ hn cs r M) rr)))));have ho:=FW g N9 ae hn cs n hr e;have hv:=FY g N9 ae hr e;refine eN (b1:=true) (b2:=true) (a0 _ rr ho) (a0 [.tup aa,.int ae,.int M] rr hv) ?_;have O:=U;unfold zW at O |-;rw[uZ,vI,vI]at O;refine(if_pos (cf (by grind))).trans ?_;rw[uW,uP,uP];rfl
end
def Ga (K:KL)(c r:D):Bool:=decide (dm c=dm r) || (!decide (kindOf r = "copy") && (bp K).any λv=>decide (li v &&& li r=li r) && gP (aU K) (aq 0 v) (aq 3 v) (dm c) (a9 c))
def any_filter {α:Type}(l:List α)(p f:α->Bool):((l.filter p).map f).any id=l.any λx=>p x && f x:=by
 simp
def RQ {aa:LD}(g:∀r∈aa,bi r)(hl:aa.length<=60)(ae:Int)(s:(aU (ag aa ae)).length<=60)(hn:((bp (ag aa ae)).map (aq 0)).Nodup){O U:Nat}{c r:D}(hc:aa[O]? = some c)(hr:aa[U]? = some r)(l:kindOf c = "call")(n:kindOf r∈be):
  lW [.tup aa,.int ae,.lst ((aU (ag aa ae)).map aW),.int O,.int U]=sO (Ga (ag aa ae) c r):=by
 have t:fD aa:=⟨hl,λr hr=>(g r hr).c⟩;have p:=g c (vL hc);have i:=g r (vL hr);have q:=bg hc;have u:=bg hr;have w:=Es p (jr (.inr l));have y:=Es i (jr (.inl n));have j:∀v∈bp (ag aa ae),bi v/\aG v=true:=λv hv=>by
  obtain⟨x,hx,rfl⟩:=vO hv;obtain⟨h1,h2⟩:=vN hx;exact⟨g _ (vL (aE h1)),h2⟩
 have z:(bp (ag aa ae)).length<=60:=by
  unfold bp;rw[vI];exact vR (vM _ _) (vR (bN aa ae) hl)
 have A:bo [c]=sI (a9 c):=by
  have:=rW p.c;unfold tR at this;rwa [if_neg (by unfold aG;rw[l];decide +kernel)]at this
 have d:∀(e:OB),bP (f2 lu (am 6) (fA av (fV 5 (ak (fS "by") ay)))) [sT aa,sI ae,sL ((aU (ag aa ae)).map aW),sI O,sI U,some (r,false),sS (dm c),e]=some (decide (dm c=dm r)):=λe=>cm (aY (.str (dm c)) (.str (dm r)) rr (a0 [r,.str "by"] rr y) X9);have h:∀(e:OB),bP (f2 lu (fA aZ (fV 5 ay)) (fS "copy")) [sT aa,sI ae,sL ((aU (ag aa ae)).map aW),sI O,sI U,some (r,false),sS (dm c),e]=some (decide (kindOf r = "copy")):=λe=>bu (a:=kindOf r) (bb:=false) (a0 [r] rr (gN i.c)) rr;refine ah rr (eQ r (aY (.tup aa) (.int U) rr rr (by simp[u])) i.flat (eQ (.str (dm c)) (a0 [c,.str "by"] (aM (aY (.tup aa) (.int O) rr rr (by simp[q])) rr) w) rr ?_));unfold Ga;cases h1:decide (dm c=dm r) with
 |true=>exact aR ((d none).trans (by rw[h1])) (ai rr)
 |false=>
  refine ao ((d none).trans (by rw[h1])) ?_;cases h2:decide (kindOf r = "copy") with
  |true=>exact aR ((h none).trans (by rw[h2])) (ai rr)
  |false=>
   have B:kindOf r∈dE:=by
    have C:=of_decide_eq_false h2;have:∀k∈be,k ≠ "copy"->k∈dE:=S9
    exact this _ n C
   have pm:=xB i B;refine ao ((h none).trans (by rw[h2])) ?_;have M:=cS (fi:=xf (fA hU (fV 0 (fV 1 ay)))) (nT:=1) (cap:=[5]) (tg:=eU 0) (c:=bP (fA iP (ak (fA av (fV 0 (ak (fS "matters") ay))) (ak (fA av (fV 1 (ak (fS "matters") ay))) ay)))) (fe:=am 0)
    (ρ:=[sT aa,sI ae,sL ((aU (ag aa ae)).map aW),sI O,sI U,some (r,false),sS (dm c),none]) (bp (ag aa ae)) id (λv=>decide (li v &&& li r=li r)) id
    (by show(fA hU _ _).bind _=_;rw[a0 [.tup aa,.int ae] rr (sk t ae),sA hn];simp) N9 λv hv=>by
     obtain⟨gv,b⟩:=j v hv;exact⟨[some (v,false),some (r,false)],rr,cm (a0 [.int (li v),.int (li r)] (a7 (a0 [v,.str "matters"] rr (Er gv b)) (a7 (a0 [r,.str "matters"] rr pm) rr)) (vp _ _)),λ_=>⟨false,rr⟩⟩
   rw[map_id]at M;refine bx M (bq λv hv=>(j v (vN hv).1).1.flat) (ai ?_);have E:=fK (fi:=c9 (am 7)) (nT:=1) (cap:=[2,6,0,3]) (tg:=eU 0) (fe:=fA dj (fV 1 (fV 0 (fV 2 (ak (fA bo (ak (f2 fu (am 3) (am 4)) ay)) ay)))))
    (ρ:=[sT aa,sI ae,sL ((aU (ag aa ae)).map aW),sI O,sI U,some (r,false),sS (dm c),lT ((bp (ag aa ae)).filter λv=>decide (li v &&& li r=li r))]) ((bp (ag aa ae)).filter λv=>decide (li v &&& li r=li r)) id (λv=>.bl (gP (aU (ag aa ae)) (aq 0 v) (aq 3 v) (dm c) (a9 c)))
    X9 (vR (vM _ _) N9) λv hv=>by
     obtain⟨gv,b⟩:=j v (vN hv).1;obtain⟨a,o,rl,m,f,rfl,_,_⟩:=sy gv b;exact⟨[some (row a ("root" : Str) [.str o,.int m,.int f,.str rl],false),sL ((aU (ag aa ae)).map aW),sS (dm c),sT aa,sI O],rr,false,a0 _ (aM rr (aM rr (aM rr (a7 (a0 [c] (aM (aY (.tup aa) (.int O) rr rr (by simp[q])) rr) A) rr)))) (xy _ s _ _)⟩
   refine(a0 [_] (a7 E rr) ?_);show(tK _).map _=_;rw[zi,Option.map_some,any_filter];rfl
def BI (g:bi r)(h:kindOf r = "call"):∃a d b,∃n:Nat,r=row a ("call" : Str) [.int d,.str b,.int n]:=by
 obtain⟨a,k,aj,rfl,d⟩:=g;have hk:k = "call":=h;clear h;cases d with
 |copy k M d b n=>subst hk;exact⟨a,d,b,n,rr⟩
 |root=>exact cN hk
 |named=>exact cN hk
 |chosen=>exact cN hk
 |heir=>exact cN hk
 |three k M=>rcases M with rfl|rfl|rfl<;>exact cN hk
 |leave=>exact cN hk
 |paper k M=>rcases M with rfl|rfl<;>exact cN hk
def lm (aa:LD)(ae:Int)(M:Nat)(r:D)(day:Int)(c:D):Bool:=decide (kindOf c = "call") && (decide (eG 2 c=M) && (decide (a9 c<=day) && (fG aa ae c && Ga (ag aa ae) c r)))
def sJ (e:f ρ=some (.str a,bb)):bP (f2 Hx f (fS b)) ρ=some (!decide (a=b)):=by simp_all
section
variable {aa:LD}(g:∀r∈aa,bi r) (hl:aa.length<=60) (ae:Int) (j6:(aU (ag aa ae)).length<=60) (hn:((bp (ag aa ae)).map (aq 0)).Nodup)
include g hl j6 hn
theorem zY {O M:Nat}{c r:D}(hc:aa[O]? = some c)(hr:aa[M]? = some r)(j:kindOf r∈be)(day:Int):jl [.tup aa,.int ae,.lst ((aU (ag aa ae)).map aW),.int O,.int M,.int day]=sO (lm aa ae M r day c):=by
 have e:=g c (vL hc);have k:=bg hc;have i:bP (f2 Hx (fA aZ (fV 6 ay)) (fS "call")) [sT aa,sI ae,sL ((aU (ag aa ae)).map aW),sI O,sI M,sI day,some (c,false)]=some (!decide (kindOf c = "call")):=sJ (a:=kindOf c) (bb:=false) (a0 [c] rr (gN e.c));refine ah rr (eQ c (aY (.tup aa) (.int O) rr rr (by simp[k])) e.flat ?_);unfold lm;by_cases hk:kindOf c = "call"
 .obtain⟨a,d,b,n,f⟩:=BI e hk;have l:eG 2 c=(n:Int):=by rw[f];rfl
  have e2:a9 c=d:=by rw[f];rfl
  have po:av [c,.str "of"]=sI n:=by rw[f];rfl
  have m:bo [c]=sI d:=by
   have:=rW e.c;unfold tR at this;rwa [if_neg (by unfold aG;rw[hk];decide +kernel),e2]at this
  have o:bP (f2 Hx (fA av (fV 6 (ak (fS "of") ay))) (am 4)) [sT aa,sI ae,sL ((aU (ag aa ae)).map aW),sI O,sI M,sI day,some (c,false)]=some (!decide ((n:Int)=M)):=cm (aY (.int n) (.int M) (a0 [c,.str "of"] rr po) rr X9);have s:bP (f2 Q6 (fA bo (fV 6 ay)) (am 5)) [sT aa,sI ae,sL ((aU (ag aa ae)).map aW),sI O,sI M,sI day,some (c,false)]=some (decide (day<d)):=cm (aY (.int d) (.int day) (a0 [c] rr m) rr rr);have U:=b7 i λ_=>b7 o λ_=>s;rw[l,e2,mi hk,Bool.true_and];rw[mi hk]at U;by_cases h1:(n:Int)=M
  .by_cases h2:d<=day
   .rw[mi h1,mi h2,Bool.true_and,Bool.true_and];rw[mi h1,oP N9]at U;exact ao U (ai (cj (a0 [.tup aa,.int ae,.int O] rr (rV aa (λr hr=>(g r hr).c.rp) N9 ae hc)) λ_=>a0 _ rr (RQ g hl ae j6 hn hc hr hk j)))
   .rw[oP h2,Bool.false_and,Bool.and_false];rw[mi h1,mi (show day<d by lia)]at U;exact aR U (ai rr)
  .rw[oP h1,Bool.false_and];rw[oP h1]at U;exact aR U (ai rr)
 .rw[oP hk,Bool.false_and];refine aR (b7 (p:=true) (q:=false) (i.trans (by rw[oP hk];rfl)) λh=>by cases h) (ai rr)
def oF (aa:LD)(ae:Int)(M:Nat)(r:D)(day:Int):LN:=if aF r<=ae/\kindOf r∈be then ((ag aa ae).filter λx=>lm aa ae M r day x.1).map (·.2)else []
theorem zZ {M:Nat}{r:D}(hr:aa[M]? = some r)(day:Int):lX [.tup aa,.int ae,.lst ((aU (ag aa ae)).map aW),.int M,.int day]=lT ((oF aa ae M r day).map λn:Nat=>.int n):=by
 have h:=g r (vL hr);have j:=bg hr;have U:cD [.tup aa,.int ae,.int M]=sO (decide (aF r<=ae)):=by
  obtain⟨a,k,aj,e,d⟩:=h;rw[e]at hr;rw[show aF r=a by rw[e];rfl];exact kq hr ae
 have i:∀ρ:DL.Env,ρ[0]? = some (sT aa)->ρ[2]? = some (sI M)->fA aZ (ak (f2 fu (am 0) (am 2)) ay) ρ=sS (kindOf r):=λρ h0 h2=>a0 [r] (aM (aY (.tup aa) (.int M) (by simp[h0]) (by simp[h2]) (by simp[j])) rr) (gN h.c);have l:gI [.tup aa,.int ae,.int M]=sO (decide (aF r<=ae) && decide (kindOf r = "leave")):=ah rr (ai (cj (a0 [.tup aa,.int ae,.int M] rr U) λ_=>aY (.str (kindOf r)) (.str "leave") (i _ rr rr) rr X9));have b:cY [.tup aa,.int ae,.int M]=sF _:=ah rr (ai (cj (a0 [.tup aa,.int ae,.int M] rr U) λ_=>aY (.str (kindOf r)) (.tup ([("paper" : Str),"like","copy"].map .str)) (i _ rr rr) rr (iQ _ _)));have hb:fj [.tup aa,.int ae,.int M]=sO (decide (aF r<=ae/\kindOf r∈be)):=by
  refine(ah rr (ai (uI (a0 [.tup aa,.int ae,.int M] rr l) λ_=>a0 [.tup aa,.int ae,.int M] rr b))).trans ?_;congr 3;simp only[be,mem_cons,not_mem_nil,or_false];by_cases h1:aF r<=ae
  .simp[h1]
  .simp[h1]
 unfold oF;by_cases hx:aF r<=ae/\kindOf r∈be
 .rw[if_pos hx];refine ah rr (ao (ba (p:=true) (cm (a0 [.tup aa,.int ae,.int M] rr (by rw[hb,mi hx])))) (ai ?_));have O:=cS (fi:=c9 (fA ej (fV 0 (fV 1 ay)))) (nT:=1) (cap:=[0,1,2,3,4]) (tg:=eU 0) (c:=bP (fA jl (fV 1 (fV 2 (fV 3 (fV 0 (fV 4 (fV 5 ay)))))))) (fe:=am 0)
   (ρ:=[sT aa,sI ae,sL ((aU (ag aa ae)).map aW),sI M,sI day]) (ag aa ae) (λx=>.int x.2) (λx=>lm aa ae M r day x.1) (λx=>.int x.2)
   (by show(fA ej _ _).bind _=_;rw[a0 [.tup aa,.int ae] rr (kn aa (λr hr=>(g r hr).c.rp) N9 ae)];rfl) (vR (bN aa ae) N9) λx f=>by
    exact⟨_,rr,cm (a0 _ rr (zY g hl ae j6 hn (aE f) hr hx.2 day)),λ_=>⟨false,rr⟩⟩
  rw[uP];exact O
 .rw[if_neg hx];exact ah rr (aR (ba (p:=false) (cm (a0 [.tup aa,.int ae,.int M] rr (by rw[hb,oP hx])))) (ai (a0 [] rr (c8 _ X9))))
omit j6 in
end
def cG:LS:=[("paper" : Str),"like","copy"]
noncomputable def mm (w:Str):Bs->D
 | (some o,n)=>.tup [.str "office",.str o,.int n]
 | (none,n)=>.tup [.str w,.int n]
def Lc (r:D):Str:=if kindOf r = "copy" then ("copy" : Str)else ("leave" : Str)
def Aa (w:Str)(b:Bs):aP (mm w b)=true:=by rcases b with⟨_|o,n⟩<;>rfl
def Gb {aa:LD}{n:Nat}(h:aa.length<=n)(ae:Int):cD [.tup aa,.int ae,.int n]=sO false:=by
 refine ah rr (ai (cj (p:=false) (q:=false) (b1:=false) ?_ λz=>by cases z));have h1:¬(n:Int)<aa.length:=N9
 exact(iO (p:=true) (z:=.int aa.length) (b3:=false) (b4:=false) rr rr X9 X9 λ_=>by simp[h1])
def JR {aa:LD}{i:Nat}{r:D}(hr:aa[i]? = some r)(g:bi r)(ae:Int):cD [.tup aa,.int ae,.int i]=sO (decide (aF r<=ae)):=by
 obtain⟨a,k,aj,rfl,d⟩:=g;exact kq hr _
def Ex {aa:LD}{i:Nat}{r:D}(hr:aa[i]? = some r)(g:bi r){ρ:DL.Env}{j:Nat}(h0:ρ[0]? = some (sT aa))(hj:ρ[j]? = some (sI i)):fA aZ (ak (f2 fu (am 0) (am j)) ay) ρ=sS (kindOf r):=
 a0 _ (aM (aY (.tup aa) (.int i) (by simp[h0]) (by simp[hj]) (by simp[bg hr])) rr) (gN g.c)
def nA {aa:LD}{i:Nat}{r:D}(hr:aa[i]? = some r)(g:bi r)(ae:Int):cY [.tup aa,.int ae,.int i]=sO (decide (aF r<=ae) && decide (kindOf r∈cG)):=
 ah rr (ai (cj (a0 _ rr (JR hr g _)) λ_=>aY _ (.tup (cG.map _)) (Ex hr g rr rr) rr (iQ _ _)))
def Ab {aa:LD}{i:Nat}{r:D}(hr:aa[i]? = some r)(g:bi r)(ae:Int):fj [.tup aa,.int ae,.int i]=sO (decide (aF r<=ae) && decide (kindOf r∈be)):=by
 refine(ah rr (ai (uI (a0 _ rr (mf hr g)) λ_=>a0 _ rr (nA hr g _)))).trans ?_;unfold ny;simp only[be,cG,or_false];by_cases h1:aF r<=ae
 .simp[h1]
 .simp[h1]
def ie (aa:LD)(ae:Int)(r:D)(M n:Nat):Bool:=match aa[n]? with
 |none=>false
 |some q=>(decide (aF q<=ae) && decide (kindOf q∈cG)) && bL (q,n) (r,M)
def jt (g:bi r)(h:kindOf r = "copy"):∃a d b,∃n:Nat,r=row a ("copy" : Str) [.int d,.str b,.int n]:=by
 obtain⟨a,k,aj,rfl,d⟩:=g;have hk:k = "copy":=h;clear h;cases d with
 |copy k M d b n=>subst hk;exact⟨a,d,b,n,rr⟩
 |root=>exact cN hk
 |named=>exact cN hk
 |chosen=>exact cN hk
 |heir=>exact cN hk
 |three k M=>rcases M with rfl|rfl|rfl<;>exact cN hk
 |leave=>exact cN hk
 |paper k M=>rcases M with rfl|rfl<;>exact cN hk
def sK (h:kindOf r∈cG):aG r=false:=by
 have:∀k∈cG,decide (k = "root")=false:=S9
 exact this _ h
def Gc {aa:LD}(g:∀r∈aa,bi r)(ae:Int){M:Nat}{r:D}(hr:aa[M]? = some r)(U:kindOf r = "copy"):∃n:Nat,eG 2 r=n/\jk [.tup aa,.int ae,.int M]=lT ((if ie aa ae r M n=true then [((none,(n:Int)):Bs)]else []).map (mm ("copy" : Str))):=by
 have c:=g r (vL hr);obtain⟨a,d,b,n,er⟩:=jt c U;have f:aG r=false:=sK (by rw[U];decide +kernel);have po:av [r,.str "of"]=sI n:=by rw[er];rfl
 refine⟨n,by rw[er];rfl,?_⟩;let E:DL.Env:=[sT aa,sI ae,sI M,sI n];refine ah rr (eQ (.int n) (a0 [r,.str "of"] (aM (aY (.tup aa) (.int M) rr rr (by simp[bg hr])) rr) po) rr ?_);have O:iE (bP (fA cY (fV 0 (fV 1 (fV 3 ay))))) (bP (fA gK (fV 0 (fV 3 (fV 2 ay))))) E=some (ie aa ae r M n):=by
  unfold ie;cases hq:aa[n]? with
  |none=>
   have hn:aa.length<=n:=List.getElem?_eq_none_iff.mp hq;exact cR (p:=false) (q:=false) (cm (a0 [.tup aa,.int ae,.int n] rr (ah rr (ai (cj (p:=false) (q:=false) (a0 [.tup aa,.int ae,.int n] rr (Gb hn ae)) λz=>by cases z))))) λz=>by cases z
  |some q=>
   have e:=g q (vL hq);exact cR (cm (a0 [.tup aa,.int ae,.int n] rr (nA hq e ae))) λh=>by
    rw[vC]at h;exact cm (a0 [.tup aa,.int n,.int M] rr (zR hq hr e c (sK (xQ h.2)) f))
 cases hv:ie aa ae r M n with
 |true=>
  rw[hv]at O;rw[if_pos rr];exact aR O (ai (a0 [.tup [.str "copy",.int n]] (aM (a0 [.str "copy",.int n] rr (bc _ X9)) rr) (c8 _ X9)))
 |false=>
  rw[hv]at O;rw[if_neg H9];exact ao O (ai (a0 [] rr (c8 _ X9)))
def nB (aa:LD)(ae:Int)(cs:List Cl)(x:D×Nat):List Bs:=if kindOf x.1 = "copy" then (if ie aa ae x.1 x.2 (eG 2 x.1).toNat=true then [(none,eG 2 x.1)]else [])else NF (ag aa ae) cs x.1 x.2
section
variable {aa:LD}(g:∀r∈aa,bi r) (hl:aa.length<=30) (ae:Int) (hn:((bp (ag aa ae)).map (aq 0)).Nodup)
include g hl hn
theorem NG (cs:List Cl)(O:cs.length<=60){U:Nat}{r:D}(hr:aa[U]? = some r)(d:kindOf r∈be)(hk:aF r<=ae):dM [.tup aa,.int ae,.lst (cs.map aW),.int U]=lT ((nB aa ae cs (r,U)).map (mm (Lc r))):=by
 have a:=g r (vL hr);unfold nB Lc;by_cases M:kindOf r = "copy"
 .rw[if_pos M,if_pos M];obtain⟨n,b,e2⟩:=Gc g _ hr M;rw[b];refine ah rr (ao (ba (p:=true) (cm (a0 _ rr ((Ab hr a _).trans (by simp_all))))) (aR (bu (Ex hr a rr rr) (mi M)) (ai (a0 _ rr e2))))
 .rw[if_neg M,if_neg M];have c:kindOf r∈dE:=by
   simp_all[be,dE]
  exact zX g hl _ hn cs O hr c hk
end
def RS (e:f (iF ρ)=some (d,b))(k:h (ρ.set i (some (d,false)))=r):ce (Cn i f) h ρ=r:=by simp_all
def Ey (e:ρ[i]? = some (some (.dk ks vs,b))):oV i ρ=some (.rt (.dk ks vs) false):=by simp[oV,e]
def kN (x:D×Nat):dB:=.inl (x.2:Int)
def pN (aa:LD)(ae day:Int)(x:D×Nat):Bool:=(fG aa ae x.1 && decide (a9 x.1<=day)) && (oF aa ae x.2 x.1 day).isEmpty
def NH {α:Type}(l:List α)(f:α->D):decide ((((l.map f).length:Nat):Int)=0)=l.isEmpty:=by
 cases l with
 |nil=>rfl
 |cons a l=>rfl
noncomputable def gV (aa:LD)(ae day:Int)(l:KL):KL:=l.filter λx=>decide (kindOf x.1∈be) && pN aa ae day x
section
variable {aa:LD}(g:∀r∈aa,bi r) (hl:aa.length<=30) (ae:Int) (hn:((bp (ag aa ae)).map (aq 0)).Nodup)
include g hl hn
theorem RT (M:(aU (ag aa ae)).length<=60){O:Nat}{r:D}(hr:aa[O]? = some r)(b:kindOf r∈be)(day:Int):mV [.tup aa,.int ae,.lst ((aU (ag aa ae)).map aW),.int O,.int day]=sO (pN aa ae day (r,O)):=by
 have d:=g r (vL hr);have f:=by
  have:∀k∈be,decide (k = "root")=false:=S9
  exact this _ b
 let E:DL.Env:=[sT aa,sI ae,sL ((aU (ag aa ae)).map aW),sI O,sI day];have h:bP (fA ji (fV 0 (fV 1 (fV 3 ay)))) E=some _:=cm (a0 _ rr (rV aa (λr hr=>(g r hr).c.rp) N9 ae hr));have i:bP (f2 Q6 (fA bo (ak (f2 fu (am 0) (am 3)) ay)) (am 4)) E=some _:=cm (aY _ (.int day) (a0 [r] (aM (aY (.tup aa) (.int O) rr rr (by simp[bg hr])) rr) (sE d f)) rr rr);have U:=b7 (ba h) λ_=>i;have e:(!fG aa ae r || decide (day<a9 r)) = !(fG aa ae r && decide (a9 r<=day)):=by
  rw[Bool.not_and];congr 1;rw[<-decide_not];congr 1;rw[Int.not_le]
 rw[e]at U;unfold pN;cases a:(fG aa ae r && decide (a9 r<=day)) with
 |false=>
  rw[a]at U;exact ah rr (aR U (ai rr))
 |true=>
  rw[a]at U;refine ah rr (ao U (ai ?_));rw[<-NH _ λn:Nat=>.int n];exact aY _ (.int 0) (a0 _ (a7 (a0 _ rr (zZ g N9 ae M hn hr day)) rr) rr) rr X9
theorem Ac (ho:(bB (ag aa ae)).length<=60)(day:Int):mW [.tup aa,.int ae,.int day]=sF (.dk ((gV aa ae day (bB (ag aa ae))).map kN) ((gV aa ae day (bB (ag aa ae))).map λx=>.lst ((nB aa ae (aU (ag aa ae)) x).map (mm (Lc x.1))))):=by
 have o:fD aa:=⟨N9,λr hr=>(g r hr).c⟩;obtain⟨p,U⟩:=vj (aa:=aa) o ae ho;have q:dJ [.tup aa,.int ae]=lT ((bB (ag aa ae)).map λx=>.int x.2):=p6 o ae;generalize s:aU (ag aa ae)=cs at p U |-;have M:∀x∈bB (ag aa ae),x∈ag aa ae:=λx hx=>(vN ((a5 _ _).mem_iff.mp hx)).1;have t:((bB (ag aa ae)).map (·.2)).Nodup:=kU (ci aa ae);generalize bB (ag aa ae)=O at ho q M t |-;let k:D×Nat->D:=λx=>.lst ((nB aa ae cs x).map (mm (Lc x.1)));let E:KL->OB->DL.Env:=λL a=>[sT aa,sI ae,sI day,sL (cs.map aW),some (.dk (L.map kN) (L.map k),true),a];obtain⟨ρ',e,a,rfl⟩:=dZ (tg:=eU 5) (g:=Ju) (λj ρ=>∃a,ρ=E (gV aa ae day (O.take j)) a) (O.map λx=>.int x.2) (E [] none) ⟨none,rr⟩ (by
  rintro j d ρ hd ⟨a,rfl⟩;rw[vA]at hd;obtain⟨x,hx,rfl⟩:=oY hd;have u:=M x (vL hx);have hr:=aE u;have l:aF x.1<=ae:=xQ (vN u).2;have w:=g x.1 (vL hr);have z:O.take (j+1)=O.take j++[x]:=by rw[take_add_one,hx];rfl
  have v:gV aa ae day (O.take (j+1))=gV aa ae day (O.take j)++if(decide (kindOf x.1∈be) && pN aa ae day x)=true then [x]else []:=by
   simp_all[gV,filter_cons]
  have i:x.2∉(gV aa ae day (O.take j)).map (·.2):=by
   have h2:((O.take (j+1)).map (·.2)).Nodup:=List.Nodup.sublist (List.Sublist.map _ (take_sublist _ _)) t;rw[z,uW,nodup_append]at h2;intro hm;obtain⟨y,hy,m⟩:=vO hm;exact h2.2.2 _ (uS ⟨y,(vN hy).1,rr⟩) _ X9 m
  have n:(gV aa ae day (O.take j)).length<=60:=vR (vM _ _) (vR (List.length_take_le' _ _) ho);generalize gV aa ae day (O.take j)=L at v i n;let F:DL.Env:=E L (sI x.2);have A:bP (fA fj (fV 0 (fV 1 (fV 5 ay)))) F=some (decide (kindOf x.1∈be)):=cm (a0 [.tup aa,.int ae,.int x.2] rr ((Ab hr w ae).trans (by simp_all)));have B:=cR A λh=>cm (f:=fA mV (fV 0 (fV 1 (fV 3 (fV 5 (fV 2 ay)))))) (a0 _ rr (by rw[<-s];exact RT g hl ae hn (by rw[s];exact U) hr (xQ h) day));refine⟨F,E _ (sI x.2),rr,.inl (Vz B (λh=>?_) λh=>?_),sI x.2,by rw[v]⟩
  .rw[if_pos h];have C:kindOf x.1∈be:=N9
   have G:ro 4 (am 5) (fA dM (fV 0 (fV 1 (fV 3 (fV 5 ay))))) F=some (.nx (F.set 4 (some (.dk (du (L.map kN) (kN x)) (cQ (L.map kN) (L.map k) (kN x) (k x)),true)))):=by
    have ev:fA dM (fV 0 (fV 1 (fV 3 (fV 5 ay)))) (iF F)=some (k x,true):=a0 [.tup aa,.int ae,.lst (cs.map aW),.int x.2] rr (NG g hl ae hn cs U hr C l);show((fA dM _ (iF F)).bind _)=_;rw[ev];simp only[vJ];exact if_pos (c:=(L.map kN).length<sizeLine) (bw (by rw[vI];lia))
   rw[G];have hk:kN x∉L.map kN:=λhm=>by
    obtain⟨y,hy,m⟩:=vO hm;exact i (uS ⟨y,hy,by have:=Sum.inl.inj (show(Sum.inl (y.2:Int):dB)=Sum.inl (x.2:Int)from m);lia⟩)
   unfold du cQ;rw[if_neg hk,if_neg hk];simp[F,E]
  .rw[h,if_neg H9,uQ];rfl)
 rw[vI,take_length]at e;exact ah rr (RS (a0 [.tup aa,.int ae] rr p) (c7 (ρ':=E [] none) rr (c7 (fP (ds:=O.map λx=>.int x.2) (by show(fA dJ _ _).bind _=_;rw[a0 [.tup aa,.int ae] rr q];rfl) e) (Ey (b:=true) rr))))
end
def nK (n:Nat):dB:=.inl (n:Int)
def Ez:Nat->D:=λ_=>.bl true
noncomputable def cu (S:LN)(b:Bs):Bool:=b.1.isSome || S.any λn=>decide ((n:Int)=b.2)
noncomputable def bM (S:LN)(p:Nat×List Bs):LN:=if p.2.any (cu S)=true then S++[p.1]else S
noncomputable def eJ (l:List (Nat×List Bs)):LN:=l.foldl bM []
theorem sM (n:Int):∀S:LN,(b9 (S.map nK) (S.map Ez) (.inl n)).isSome=S.any λm=>decide ((m:Int)=n)
 |[]=>rr
 |m::S=>by
  rw[uY,uY,b9,any_cons];by_cases h:(m:Int)=n
  .simp_all[nK]
  .rw[if_neg (show ¬nK m=.inl n from λz=>h (Sum.inl.inj z)),oP h,sM n S];rfl
def Ad (hw:decide (w=("office" : Str))=false)(S:LN)(b:Bs):qi [mm w b,.dk (S.map nK) (S.map Ez)]=sO (cu S b):=by
 rcases b with⟨_|o,n⟩
 .refine ah rr (ai (uI (b1:=false) (aY _ _ rr rr (by simp[of_decide_eq_false hw])) λ_=>aY _ _ rr rr ?_));show some (D.bl _,false)=_;rw[sM]
 rfl
def any_map {α:Type}(l:List α)(f:α->Bool):QK [.lst (l.map λx=>.bl (f x))]=sO (l.any f):=by
 simp
theorem Ae (h:m∈bM S p):m∈S\/m=p.1:=by
 grind[bM]
theorem kW:∀(l:List (Nat×List Bs))(S:LN)(m:Nat),m∈l.foldl bM S->m∈S\/m∈l.map (·.1)
 |[],_,_,h=>.inl h
 |p::l,S,m,h=>by
  rcases kW l _ m h with h|h
  .grind[Ae]
  .exact .inr (mZ _ h)
abbrev Rs:=Nat×Str×List Bs
noncomputable def sP (p:Rs):D:=.lst (p.2.2.map (mm p.2.1))
def BJ (p:Rs):Nat×List Bs:=(p.1,p.2.2)
def Af (l:List Rs)(hl:l.length<=60)(hw:∀p∈l,decide (p.2.1 = "office")=false)(hb:∀p∈l,p.2.2.length<=100)(hn:(l.map (·.1)).Nodup):qj [.dk (l.map λp=>nK p.1) (l.map sP)]=sF (.dk ((eJ (l.map BJ)).map nK) ((eJ (l.map BJ)).map Ez)):=by
 let E:LN->OB->OB->DL.Env:=λS M O=>[sF (.dk (l.map λp=>nK p.1) (l.map sP)),some (.dk (S.map nK) (S.map Ez),true),M,O];have tE:lQ (l.map λp=>nK p.1) (l.map sP)=l.map λp=>.tup [.int (p.1:Int),sP p]:=by
  unfold lQ;rw[zip_map',uP];rfl
 obtain⟨ρ',e,M,O,rfl⟩:=dZ (tg:=HQ [2,3]) (g:=Jv) (λj ρ=>∃M O,ρ=E (eJ ((l.take j).map BJ)) M O) (l.map λp=>.tup [.int (p.1:Int),sP p]) (E [] none none) ⟨none,none,rr⟩ (by
  rintro j d ρ hd ⟨M,O,rfl⟩;rw[vA]at hd;obtain⟨p,hp,rfl⟩:=oY hd;have U:=vL hp;have f:l.take (j+1)=l.take j++[p]:=by rw[take_add_one,hp];rfl
  have es:eJ ((l.take (j+1)).map BJ)=bM (eJ ((l.take j).map BJ)) (BJ p):=by
   simp_all[eJ]
  have c:p.1∉eJ ((l.take j).map BJ):=λhm=>by
   have h2:((l.take (j+1)).map (·.1)).Nodup:=List.Nodup.sublist (List.Sublist.map _ (take_sublist _ _)) hn;rw[f,uW,nodup_append]at h2;rcases kW _ _ _ hm with h|h
   .cases h
   .rw[uP]at h;exact h2.2.2 _ h _ X9 rr
  have i:(eJ ((l.take j).map BJ)).length<=60:=by
   have:∀(q:List (Nat×List Bs))(S:LN),(q.foldl bM S).length<=S.length+q.length:=λq=>by
    induction q with
    |nil=>intro S;exact vT _
    |cons a q k=>
     intro S;refine vR (k _) ?_;unfold bM;split
     .rw[uZ,vE,length_nil,vE];lia
     .rw[vE];lia
   have h3:=this ((l.take j).map BJ) [];rw[vI,length_take,length_nil]at h3;exact vR h3 N9
  generalize eJ ((l.take j).map BJ)=S at es c i;let F:DL.Env:=E S (sI (p.1:Int)) (some (sP p,false));have hc:=fK (fi:=c9 (am 3)) (nT:=1) (cap:=[1]) (tg:=eU 0) (fe:=fA qi (fV 0 (fV 1 ay))) (ρ:=F) p.2.2 (mm p.2.1) (λb=>.bl (cu S b)) rr (by have:=hb p U;lia) λb _=>⟨[some (mm p.2.1 b,false),sF (.dk (S.map nK) (S.map Ez))],rr,false,a0 [mm p.2.1 b,.dk (S.map nK) (S.map Ez)] rr (Ad (hw p U) S b)⟩;have m:bP (fA QK (ak _ ay)) F=some (p.2.2.any (cu S)):=cm (a0 [.lst (p.2.2.map λb=>.bl (cu S b))] (a7 hc rr) (any_map _ _));refine⟨F,E (bM S (BJ p)) (sI (p.1:Int)) (some (sP p,false)),rr,.inl (Vz m (λh=>?_) λh=>?_),_,_,by rw[es]⟩
  .have hk:nK p.1∉S.map nK:=λhm=>by
    obtain⟨y,hy,n⟩:=vO hm;have:=Sum.inl.inj (show(Sum.inl (y:Int):dB)=Sum.inl (p.1:Int)from n);exact c (by rw[show p.1=y by lia];exact hy)
   have o:yZ 1 (am 2) (fC (.bl true)) F=some (.nx (F.set 1 (some (.dk (du (S.map nK) (nK p.1)) (cQ (S.map nK) (S.map Ez) (nK p.1) (.bl true)),true)))):=if_pos ⟨rr,bw (by rw[vI];lia)⟩;rw[o];unfold du cQ bM;rw[if_neg hk,if_neg hk,if_pos (show(BJ p).2.any (cu S)=true from h)];simp[F,E,BJ,Ez]
  .unfold bM;rw[if_neg (show ¬(BJ p).2.any (cu S)=true by show ¬p.2.2.any (cu S)=true;rw[h];decide)];rfl)
 rw[vI,take_length]at e;exact ah rr (c7 (ρ':=E [] none none) rr (c7 (fP (by show some (lQ _ _)=_;rw[tE]) e) (Ey (b:=true) rr)))
theorem vv:∀S:LN,uF (S.map nK)=some (S.map λ(n:Nat)=>(n:Int))
 |[]=>rr
 |n::S=>by
  show(uF _).map _=_;rw[vv S];rfl
theorem Ag {α M:Type}(g:α->M)(f:M->LI)(x:α):∀l:List α,nY f (g x) (l.map g)=(nY (λa=>f (g a)) x l).map g
 |[]=>rr
 |y::r=>by
  rw[uY,nY,nY];split
  .rw[uY,Ag g f x r]
  .rfl
theorem vw {α M:Type}(g:α->M)(f:M->LI):∀l:List α,dr f (l.map g)=(dr (λa=>f (g a)) l).map g
 |[]=>rr
 |x::l=>by
  show nY f _ (dr f _)=(nY _ x (dr _ l)).map g;rw[vw g f l,Ag]
def JU (n:Int)(S:LN):G5 (.int n) (S.map λ(m:Nat)=>D.int (m:Int))=S.any λm=>decide ((m:Int)=n):=by
 unfold G5;induction S with
 |nil=>rfl
 |cons m S M=>
  simp_all
def cw (aa:LD)(ae:Int)(x:D×Nat):List Bs:=nB aa ae (aU (ag aa ae)) x
def aD (aa:LD)(ae day:Int):LN:=eJ ((gV aa ae day (bB (ag aa ae))).map λx=>(x.2,cw aa ae x))
def ig (S:LN):LD:=(pi (S.map λ(n:Nat)=>(n:Int))).map .int
def BK (r:D):decide (Lc r = "office")=false:=by
 unfold Lc;split
 .decide +kernel
 rfl
def BL (K:KL)(M:(K.map (·.2)).Nodup)(q:D×Nat->Bool)(hq:∀x,q x=true->aG x.1=false):dr (λx=>bZ (kA x)) (K.filter q)=(bB K).filter q:=by
 refine(iJ _ (λx hx y hy e=>oD _ M (vN hx).1 (vN hy).1 (BF e)) ?_ (List.Pairwise.filter _ (dH _ _))).symm;refine((a5 _ _).filter q).trans ?_;have:(K.filter λx=>q x && !aG x.1)=K.filter q:=by
  congr 1;funext x;cases h:q x with
  |false=>rfl
  |true=>rw[hq x h];rfl
 simp_all
def nD (h:kindOf r∈be):aG r=false:=by
 have:∀k∈be,decide (k = "root")=false:=S9
 exact this _ h
section
variable {aa:LD}(g:∀r∈aa,bi r) (hl:aa.length<=30) (ae:Int) (hn:((bp (ag aa ae)).map (aq 0)).Nodup) (ho:(bB (ag aa ae)).length<=60)
include hl
theorem sQ (x:D×Nat):(cw aa ae x).length<=60:=by
 unfold cw nB;split
 .split
  .exact(by decide:1<=60)
  .exact uN _
 .unfold NF;rw[(a5 _ _).length_eq];exact Ew hl _ _ _ _
theorem iU (day:Int):(aD aa ae day).length<=60:=by
 have:∀(q:List _)(S:List _),(q.foldl bM S).length<=S.length+q.length:=λq=>by
  induction q with
  |nil=>intro S;exact vT _
  |cons a q M=>
   intro S;refine vR (M _) ?_;unfold bM;split
   .rw[uZ,vE,length_nil,vE];lia
   .rw[vE];lia
 have h3:=this ((gV aa ae day (bB (ag aa ae))).map λx=>(x.2,cw aa ae x)) [];have h4:(bB (ag aa ae)).length<=30:=by
  unfold bB;rw[(a5 _ _).length_eq];exact vR (vM _ _) (vR (bN _ _) hl)
 have h5:(gV aa ae day _).length<=30:=vR (vM _ _) h4;rw[vI,length_nil]at h3;exact vR h3 N9
include g hn ho
theorem pD (day:Int):cZ [.tup aa,.int ae,.int day]=lT (ig (aD aa ae day)):=by
 have M:=Ac g hl ae hn ho day;have h4:(gV aa ae day _).length<=60:=vR (vM _ _) ho;have es:=Af ((gV aa ae day _).map λx=>(x.2,Lc x.1,cw aa ae x)) (by rw[vI];exact h4)
  (λp hp=>by obtain⟨x,_,rfl⟩:=vO hp;exact BK _) (λp hp=>by obtain⟨x,_,rfl⟩:=vO hp;exact vR (sQ hl ae x) H9)
  (by rw[uP];exact List.Nodup.sublist (List.Sublist.map _ filter_sublist) (kU (ci aa ae)))
 rw[uP,uP,uP]at es;refine ah rr (ai (a0 [_] (a7 (a0 [_] (a7 (a0 _ rr M) rr) es) rr) ?_));show(uF ((aD aa ae day).map nK)).bind _=_;rw[vv,vJ,if_pos (by grind[iU])];rfl
end
def xD (n:Nat)(S:LN):(S.any λm=>decide ((m:Int)=(n:Int)))=decide (n∈S):=by
 grind
def JV (n:Nat)(S:LN):(b9 (S.map nK) (S.map Ez) (.inl (n:Int))).isSome=decide (n∈S):=by rw[sM,xD]
def JX (h:aK 40 d=true):Hx d d=sO false:=by
 unfold Hx;rw[if_pos ⟨h,h⟩,nj 40 _ h];rfl
def oG (S:LN):aV (ig S)=true:=bq λd hd=>by obtain⟨n,_,rfl⟩:=vO hd;rfl
def JY (aa:LD)(ae:Int):bp (ag aa ae)=aa.filter λv=>aG v && decide (aF v<=ae):=by
 unfold bp ag;rw[filter_filter];have:∀(l:List (D×Nat))(q:D->Bool),(l.filter λx=>q x.1).map _=(l.map _).filter q:=λl q=>by rw[List.filter_map];rfl
 refine(this _ λv=>aG v && decide (aF v<=ae)).trans ?_;rw[List.zipIdx_map_fst]
def JZ (aa:LD)(ae:Int):((bp (ag aa ae)).map (aq 0)).Sublist (nw aa):=by
 rw[JY];refine List.Sublist.map _ ?_;have:(aa.filter λv=>aG v && decide (aF v<=ae))=(aa.filter aG).filter λv=>decide (aF v<=ae):=by simp_all[Bool.and_comm]
 rw[this];exact filter_sublist
def lE (S:LN):LN:=dr (λn:Nat=>[(n:Int)]) S
def nE (S:LN):ig S=(lE S).map λ(n:Nat)=>.int (n:Int):=by
 simp_all[ig,pi,lE,vw]
def dn {m:Nat}{S:LN}:m∈lE S↔m∈S:=(a5 _ _).mem_iff
def PW (q:D)(x:Int×OI)(w:D):Prop:=∃a k d b,∃m:Nat,∃rs,(k=("paper" : Str)\/k = "like")/\q=row a k (.int d::.str b::.int m::iT x::w::rs)/\(w=.non\/∃s,w=.str s)
def pO (r:D):Prop:=kindOf r=("paper" : Str)\/kindOf r = "like"->∃x w,PW r x w
inductive Pb (aa:List D):Nat->Nat->Nat->Prop
 |here (n:Nat) (r:D) (x:Int×Option Int) (w:D) (h:aa[n]? = some r) (p:PW r x w):Pb aa 0 n n
 |copy (k n m e:Nat) (a d:Int) (b:Str) (h:aa[n]? = some (row a ("copy" : Str) [.int d,.str b,.int m])) (p:Pb aa k m e):Pb aa (k+1) n e
def pend (aa:LD):Nat->Nat->Nat
 |0,n=>n
 |k+1,n=>match aa[n]? with
  |some r=>if kindOf r = "copy" then pend aa k (eG 2 r).toNat else n
  |none=>n
def PW.nocopy (p:PW r x w):¬kindOf r = "copy":=by
 obtain⟨a,k,d,b,m,rs,hk,rfl,_⟩:=p;have:∀k:Str,k = "paper" \/ k = "like"->¬k = "copy":=by rintro k (rfl|rfl)<;>decide +kernel
 exact this k hk
def Pb.to (p:Pb aa k n e):∃r x w,aa[e]? = some r/\PW r x w:=by
 induction p with
 |here n r x w h p=>exact⟨r,x,w,h,p⟩
 |copy k n m e a d b h p M=>exact M
def Pb.pend (p:Pb aa k n e):∀f,k<=f->pend aa f n=e:=by
 induction p with
 |here n r x w h p=>
  intro f _;cases f with
  |zero=>rfl
  |succ f=>unfold Lw.pend;rw[h];exact if_neg p.nocopy
 |copy k n m e a d b h p M=>
  intro f hf;obtain⟨f,rfl⟩:∃j,f=j+1:=⟨f - 1,N9⟩;unfold Lw.pend;rw[h];exact(if_pos rr).trans (M f N9)
def SI (aa:LD)(ae:Int)(S:LN):Prop:=∀n∈S,∃r,aa[n]? = some r/\aF r<=ae/\kindOf r∈be/\(kindOf r∈cG->∃k e,k<=S.length/\Pb aa k n e)
section
variable {aa:LD}(g:∀r∈aa,bi r) (gw:∀r∈aa,pO r) (ae:Int)
include g gw
theorem NI {S:LN}(s:SI aa ae S){x:D×Nat}(hx:aa[x.2]? = some x.1)(hk:aF x.1<=ae)(hb:kindOf x.1∈be):SI aa ae (bM S (x.2,cw aa ae x)):=by
 unfold bM;split
 .rename_i hs;intro n hn;rcases mem_append.mp hn with hn|hn
  .obtain⟨r,h1,h2,h3,h4⟩:=s n hn;exact⟨r,h1,h2,h3,λhp=>by obtain⟨k,e,h5,M⟩:=h4 hp;exact⟨k,e,by rw[uZ];lia,M⟩⟩
  .cases uT hn
   refine⟨x.1,hx,hk,hb,λhp=>?_⟩;by_cases U:kindOf x.1 = "copy"
   .obtain⟨a,d,b,m,er⟩:=jt (g _ (vL hx)) U;have hm:eG 2 x.1=m:=by rw[er];rfl
    unfold cw nB at hs;rw[if_pos U,hm,Int.toNat_natCast]at hs;cases hv:ie _ _ _ _ m with
    |false=>rw[hv]at hs;cases hs
    |true=>
     rw[hv]at hs;have O:=by
      have c:(S.any λn=>decide ((n:Int)=(m:Int)))=true:=by simpa [cu]using hs
      rw[xD]at c;exact xQ c
     obtain⟨q,h1,h2,h3,h4⟩:=s m O;unfold ie at hv;obtain⟨k,e,h5,M⟩:=h4 (by
      simp_all)
     exact⟨k+1,e,by simp_all,.copy k _ m e a d b (by rw[hx,<-er]) M⟩
   .obtain⟨y,w,p⟩:=gw _ (vL hx) (by
     simp_all[cG])
    exact⟨0,x.2,uN _,.here _ _ _ _ hx p⟩
 .exact s
theorem E1:∀(l:KL)(S:LN),(∀x∈l,aa[x.2]? = some x.1/\aF x.1<=ae/\kindOf x.1∈be)->SI aa ae S->SI aa ae ((l.map λx=>(x.2,cw aa ae x)).foldl bM S)
 |[],_,_,s=>s
 |x::l,S,h,s=>by
  obtain⟨h1,h2,h3⟩:=h x (mX ..);exact E1 l _ (λy hy=>h y (mZ _ hy)) (NI g gw _ s h1 h2 h3)
theorem Ah (day:Int):SI aa ae (aD aa ae day):=by
 refine E1 g gw _ _ [] (λx hx=>?_) (λn hn=>nomatch hn);obtain⟨h1,h2⟩:=vN hx;have h3:=(vN ((a5 _ _).mem_iff.mp h1)).1;exact⟨aE h3,xQ (vN h3).2,xQ (vC _ _ ▸ h2).1⟩
end
def Pb.at_ (p:Pb aa k n e):∃r,aa[n]? = some r:=by
 cases p with
 |here n r x w h p=>exact⟨_,h⟩
 |copy k n m e a d b h p=>exact⟨_,h⟩
def PW.word (p:PW r x w):aZ [r]=sS (kindOf r):=by
 obtain⟨a,k,d,b,m,rs,hk,rfl,_⟩:=p;exact bD _ _ _
def PW.str (p:PW r x w):av [r,.str "stretch"]=some (iT x,false):=by
 obtain⟨a,k,d,b,m,rs,hk,rfl,_⟩:=p;exact aS (i:=3) (by rcases hk with rfl|rfl<;>exact bK) rr
def PW.whom (p:PW r x w):av [r,.str "whom"]=some (w,false):=by
 obtain⟨a,k,d,b,m,rs,hk,rfl,_⟩:=p;exact aS (i:=4) (by rcases hk with rfl|rfl<;>exact bK) rr
def PW.box (p:PW r x w):Hi r=false:=by
 obtain⟨a,k,d,b,m,rs,hk,rfl,_⟩:=p;rfl
def PW.st (p:PW r x w):eI r=x:=by
 obtain⟨a,k,d,b,m,rs,hk,rfl,_⟩:=p;unfold eI;have:∀k:Str,k = "paper" \/ k = "like"->¬k = "leave":=by rintro k (rfl|rfl)<;>decide +kernel
 rw[kB,if_neg (this k hk)];exact qm rr
noncomputable abbrev bE (aa:LD)(n0:Nat)(r:D):DL.Env:=[sT aa,sI n0,some (r,false)]
section
variable {aa:LD}(g:∀r∈aa,bi r)
include g
theorem RU {k n e:Nat}(p:Pb aa k n e)(n0:Nat):∀(r:D)(fuel:Nat),aa[n]? = some r->k<fuel->∃q,aa[e]? = some q/\c6 (bP (f2 lu (fA aZ (fV 2 ay)) (fS "copy"))) jy fuel (bE aa n0 r)=some (.nx (bE aa n0 q)):=by
 induction p with
 |here n q x w h p=>
  intro r fuel hr hf;obtain⟨fuel,rfl⟩:∃j,fuel=j+1:=⟨fuel - 1,N9⟩;cases h.symm.trans hr
  refine⟨q,h,?_⟩;rw[c6,bu (a0 [q] rr p.word) (oP p.nocopy)]
 |copy k n m e a d b h p O=>
  intro r fuel hr hf;obtain⟨fuel,rfl⟩:∃j,fuel=j+1:=⟨fuel - 1,N9⟩;cases h.symm.trans hr
  obtain⟨M,h2⟩:=p.at_;obtain⟨q,h3,h4⟩:=O M fuel h2 N9;refine⟨q,h3,?_⟩;have U:f2 fu (am 0) (fA av (fV 2 (ak (fS "of") ay))) (bE aa n0 (row a ("copy" : Str) [.int d,.str b,.int m]))=some (M,false):=aY _ (.int m) rr (a0 _ rr (aS (i:=2) bK rr)) (by simp[bg h2]);have c:jy _=some _:=iM U (g _ (vL h2)).flat;rw[c6,bu (a0 _ rr (bD _ _ _)) (mi rr)];rw[c];exact h4
theorem Ge {k n e:Nat}(p:Pb aa k n e)(hk:k<=60):∃q x w,aa[e]? = some q/\PW q x w/\eD [.tup aa,.int n]=some (q,false):=by
 obtain⟨r,hr⟩:=p.at_;obtain⟨q,hq,O⟩:=RU g p n r 1000 hr N9;obtain⟨U,x,w,h,M⟩:=p.to;cases h.symm.trans hq
 exact⟨q,x,w,hq,M,ah rr (eQ r (aY _ _ rr rr (by simp[bg hr])) (g _ (vL hr)).flat (c7 O (kK rr M.box)))⟩
end
def NJ (aa:LD)(n:Nat):Bool:=match aa[n]? with
 |some r=>decide (kindOf r∈cG)
 |none=>false
def V7 (aa:LD)(n:Nat):Int×OI:=eI (aa.getD (pend aa 60 n) .non)
def Ai (aa:LD)(ae day:Int):LN:=((lE (aD aa ae day)).filter (NJ aa)).filter λn=>vq day (V7 aa n)
def sR (n:Nat)(S:LN):dz (.int n) (.lst (S.map λ(m:Nat)=>.int (m:Int)))=sO (!decide (n∈S)):=by
 have M:(S.map λ(n:Nat)=>D.int (n:Int)).all gW=true:=by
  simp
 simp only[dz,f7,vJ];rw[if_pos ⟨rr,M⟩,JU,xD]
section
variable {aa:LD}(g:∀r∈aa,bi r) (gw:∀r∈aa,pO r) (hl:aa.length<=30) (ae:Int) (hn:((bp (ag aa ae)).map (aq 0)).Nodup) (ho:(bB (ag aa ae)).length<=60)
include g gw hl
theorem sU {day:Int}{n:Nat}(h:n∈aD aa ae day)(hp:NJ aa n=true):∃q x w e k,k<=60/\Pb aa k n e/\aa[e]? = some q/\PW q x w/\eD [.tup aa,.int n]=some (q,false)/\V7 aa n=x:=by
 obtain⟨r,h1,h2,h3,h4⟩:=Ah g gw _ _ n h;unfold NJ at hp;rw[h1]at hp;obtain⟨k,e,h5,M⟩:=h4 (xQ hp);have O:=iU hl ae day;obtain⟨q,x,w,hq,U,a⟩:=Ge g M (vR h5 O);refine⟨q,x,w,e,k,vR h5 O,M,hq,U,a,?_⟩;unfold V7;rw[M.pend 60 (vR h5 O),vF,hq];exact U.st
include hn ho
theorem BM (day:Int):o6 [.tup aa,.int ae,.int day]=lT ((Ai aa ae day).map λ(n:Nat)=>.int (n:Int)):=by
  have M:=iU hl ae day;have hs:(lE (aD aa ae day)).length<=60:=by unfold lE;rw[(a5 _ _).length_eq];exact M
  have h1:=cS (fi:=c9 (fA cZ (fV 0 (fV 1 (fV 2 ay))))) (nT:=1) (cap:=[0,1]) (tg:=eU 0) (c:=bP (fA cY (fV 1 (fV 2 (fV 0 ay))))) (fe:=am 0)
    (ρ:=[sT aa,sI ae,sI day,none]) (lE (aD aa ae day)) (λ(n:Nat)=>.int (n:Int)) (NJ aa) (λ(n:Nat)=>.int (n:Int))
    (by show(fA cZ _ _).bind _=_;rw[a0 [.tup aa,.int ae,.int day] rr (pD g hl ae hn ho day),nE];rfl) N9 λx hx=>by
      obtain⟨r,h1,h2,h3,h4⟩:=Ah g gw ae day x (dn.mp hx);have:=nA h1 (g _ (vL h1)) ae;rw[mi h2,Bool.true_and]at this;have e:NJ aa x=decide (kindOf r∈cG):=by unfold NJ;rw[h1]
      rw[<-e]at this;exact⟨_,rr,cm (a0 [.tup aa,.int ae,.int x] rr this),λ_=>⟨false,rr⟩⟩
  have O:aV (((lE (aD aa ae day)).filter (NJ aa)).map λ(n:Nat)=>D.int (n:Int))=true:=bq λd hd=>by obtain⟨x,_,rfl⟩:=vO hd;rfl
  refine ah rr (bx h1 O (ai ?_));refine cS (fi:=c9 (am 3)) (nT:=1) (cap:=[2,0]) (tg:=eU 0) (fe:=am 0)
     _ (λ(n:Nat)=>.int (n:Int)) (λn=>vq day (V7 aa n)) (λ(n:Nat)=>.int (n:Int)) X9 (vR (vM _ _) N9) λn hn=>?_
  obtain⟨h2,h3⟩:=vN hn;obtain⟨q,x,w,e,k,hk,b,hq,U,a,e2⟩:=sU g gw hl ae (dn.mp h2) h3;refine⟨[sI n,sI day,sT aa],rr,cm (a0 [.int day,iT x] (aM rr (aM (a0 [q,.str "stretch"] (aM (a0 [.tup aa,.int n] rr a) rr) U.str) rr)) ?_),λ_=>⟨false,rr⟩⟩;rw[e2];exact xw _ _ _
end
def Zs (l:LD)(a:Nat):gT l none (some (a:Int))=l.take a:=by
 show(l.drop 0).take (min _ _ - 0)=_;simp
def Zt (l:LD)(a:Nat):gT l (some (a:Int)) none=l.drop a:=by
 show(l.drop (min a _)).take (l.length - min a _)=_;rw[List.take_of_length_le (by rw[List.length_drop];lia)];simp
def BN (ps:LS)(hp:ps.length<=900)(a:Nat)(z:Str):o5 [.tup (ps.map .str),.int (a:Int),.str z]=some (.tup ((ps.take a++z::ps.drop (a+1)).map .str),false):=by
 have M:G6 (am 0) lw (jK (am 1)) [some (.tup (ps.map .str),false),some (.int (a:Int),false),some (.str z,false)]=some (.tup ((ps.take a).map .str),false):=by
  show some _=_;rw[Zs,List.map_take]
 have e2:G6 (am 0) (jK (f2 j0 (am 1) (fI 1))) lw [some (.tup (ps.map .str),false),some (.int (a:Int),false),some (.str z,false)]=some (.tup ((ps.drop (a+1)).map .str),false):=by
  show some (D.tup (gT _ (some ((a+1:Nat):Int)) _),false)=_;rw[Zt,List.map_drop]
 refine ah rr (ai (eN (x:=.tup ((ps.take a++[z]).map .str)) (b1:=false) (eN M (aI rr (bc _ X9)) ?_) e2 ?_))
 .show(if((ps.take a).map _).length+[D.str z].length<=sizeLine then some _ else none)=_;rw[if_pos (cf s9),uW];rfl
 .show(if((ps.take a++[z]).map _).length+((ps.drop _).map _).length<=sizeLine then some _ else none)=_;rw[if_pos (cf s9),<-uW,append_assoc];rfl
def NK (l:LD)(x:D):mq (l++[x]) (-1)=some x:=by
 unfold mq G4;rw[uZ,length_singleton,if_neg H9,if_pos N9,show(-1+((l.length+1:Nat):Int)).toNat=l.length by lia];simp
inductive Rq (k:Nat):D->Prop
 |non (r:D) (h:kindOf r∉cG):Rq k r
 |paper (h:Int) (aj:List D) (ps:List Str) (e:aj[5]? = some (.tup (ps.map .str))) (l:ps.length<=3):Rq k (row h "paper" aj)
 |like (h:Int) (aj:List D) (m c:Nat) (z:Str) (e:aj[5]? = some (.int m)) (e2:aj[6]? = some (.tup [.tup [.int (c:Int),.str z]])) (lt:m<k):Rq k (row h "like" aj)
 |copy (h:Int) (aj:List D) (m:Nat) (e:aj[2]? = some (.int m)) (lt:m<k):Rq k (row h "copy" aj)
def Gv (v:D):Prop:=aK 20 v=true/\aP v=true
noncomputable abbrev pE (aa M:LD)(q:LS)(O U a:OB):DL.Env:=[sT aa,sL M,sT (q.map .str),O,U,a]
def Ka (z:Str)(n:Nat):Gv (.tup [.str z,.int (n:Int)]):=⟨by simp[aK],rr⟩
abbrev PO:=LS ⊕ D
def V8 (r:Option Res)(aa M:LD)(O:OB):PO->Prop
 |.inl q=>∃U a,r=some (.nx (pE aa M q O U a))\/r=some (.ct (pE aa M q O U a))
 |.inr v=>r=some (.rt v false)
def Zu (n:Nat):PO->Prop
 |.inl q=>q.length<=n
 |.inr v=>Gv v
def OX {aa:LD}{i:Nat}{r:D}(hr:aa[i]? = some r){ρ:DL.Env}(h0:ρ[0]? = some (sT aa))(h3:ρ[3]? = some (sI i)):f2 fu (am 0) (am 3) ρ=some (r,false):=aY (.tup aa) (.int i) (by simp[h0]) (by simp[h3]) (by simp[bg hr])
def RV {r:D}(hR:Rq k r)(f:bi r)(i:Nat)(q:LS)(hl:q.length<=500):∃o:PO,Zu (q.length+1) o/\∀(aa:LD),aa[i]? = some r->∀(M:LD)(O U:OB),V8 (cc (pE aa M q (sI i) O U)) aa M (sI i) o:=by
 have skip:∀k:Str,aZ [r]=sS k->decide (k = "like")=false->∃o:PO,Zu (q.length+1) o/\∀(aa:LD),aa[i]? = some r->∀(M:LD)(O U:OB),V8 (cc (pE aa M q (sI i) O U)) aa M (sI i) o:=λk hw hk=>⟨.inl q,by show q.length<=_;lia,λaa hr M O U=>⟨O,U,.inr (by
  have t:bP (f2 Hx (fA aZ (ak (f2 fu (am 0) (am 3)) ay)) (fS "like")) (pE aa M q (sI i) O U)=some true:=(sJ (a:=k) (bb:=false) (a0 [r] (aM (OX hr rr rr) rr) hw)).trans (by rw[hk];rfl);show ce (AU _ HV qE) _ _=_;unfold ce AU;rw[t];rfl)⟩⟩
 cases hR with
 |non r h=>exact skip (kindOf r) (gN f.c) (oP λz=>h (by rw[z];decide +kernel))
 |paper h aj ps e l=>exact skip "paper" (bD _ _ _) S9
 |copy h aj m e _=>exact skip "copy" (bD _ _ _) S9
 |like h aj m c z e e2 _=>
  have d:∀aa M,bP (f2 Q6 (am 4) (fA lI (fV 2 ay))) (pE aa M q (sI i) (sI (c:Int)) (sS z))=some (decide ((q.length:Int)<c)):=λaa M=>cm (aY (.int (c:Int)) (.int (q.length:Int)) rr (a0 [.tup (q.map .str)] rr X9) rr);have b:∀aa,aa[i]? = some (row h "like" aj)->∀M O U,cc (pE aa M q (sI i) O U)=fz (HQ [4,5]) cJ [.tup [.int (c:Int),.str z]] (pE aa M q (sI i) O U):=λaa hr M O U=>by
   refine ao ((sJ (a:="like") (bb:=false) (a0 [row h "like" aj] (aM (OX hr rr rr) rr) (bD _ _ _))).trans (by rw[mi rr];rfl)) ?_;have g:fA av (ak (f2 fu (am 0) (am 3)) (ak (fS "changes") ay)) (iF (pE aa M q (sI i) O U))=some _:=a0 [row h "like" aj,.str "changes"] (aM (aY (.tup aa) (.int i) rr rr (by simp[bg hr])) rr) (aS (i:=6) bK e2);show(c9 (fA av _) (iF (pE aa M q (sI i) O U))).bind _=_;unfold c9;rw[g];rfl
  by_cases hc:(q.length:Int)<c
  .rw[mi hc]at d;refine⟨.inr (.tup [.str "beyond",.int (i:Int)]),Ka "beyond" i,λaa hr M O U=>?_⟩;have b1:cJ _=some _:=aR (d aa M) (ai (a0 [.str "beyond",.int (i:Int)] rr (bc _ X9)));show cc _=_;rw[b aa hr,ue];show(match cJ (pE aa M q (sI i) (sI (c:Int)) (sS z)) with|some (.nx ρ')=>_|some (.ct ρ')=>_|some (.bk ρ')=>_|r=>r)=_;rw[b1]
  .rw[oP hc]at d;refine⟨.inl (q.take c++z::q.drop (c+1)),by show(q.take c++z::q.drop (c+1)).length<=_;simp<;>lia,λaa hr M O U=>⟨sI (c:Int),sS z,.inl ?_⟩⟩
   have b1:cJ _=some _:=ao (d aa M) (iM (a0 _ rr (BN q N9 c z)) (show aV _=true from bH _));rw[b aa hr,ue];show(match cJ (pE aa M q (sI i) (sI (c:Int)) (sS z)) with|some (.nx ρ')=>_|some (.ct ρ')=>_|some (.bk ρ')=>_|r=>r)=_;rw[b1];rfl
def Zv (r:Option Res)(aa M:LD):PO->Prop
 |.inl q=>∃O U a,r=some (.nx (pE aa M q O U a))
 |.inr v=>r=some (.rt v false)
theorem Kb (b:Nat->D):∀(l:LN)(q:LS),(∀i∈l,Rq i (b i)/\bi (b i))->q.length+l.length<=400->∃o:PO,Zu 400 o/\∀(aa:LD),(∀i∈l,aa[i]? = some (b i))->∀(M:LD)(a O U:OB),Zv (fz (eU 3) cc (l.map λ(i:Nat)=>.int (i:Int)) (pE aa M q a O U)) aa M o
 |[],q,_,hl=>⟨.inl q,by show q.length<=400;simp_all,λaa _ M a O U=>⟨a,O,U,Hn ..⟩⟩
 |i::l,q,hi,hl=>by
  rw[vE]at hl;have c:∀(aa:LD) M a O U,fz (eU 3) _ ((i::l).map _) (pE aa _ q a O U)=match cc (pE _ M q (sI i) O U) with
    |some (.nx _)=>fz _ _ _ _
    |some (.ct _)=>fz _ _ _ _
    |some (.bk _)=>some _
    |r=>r:=λaa M a O U=>by rfl
  have e:=hi i (mX ..);obtain⟨o,ho,h⟩:=RV e.1 e.2 i q N9;cases o with
  |inr v=>exact⟨.inr v,ho,λaa hr M a O U=>by
    have h1:=h _ (hr i (mX ..)) M O U;show fz _ _ _ _=_;rw[c,h1]⟩
  |inl f=>
   have ho:f.length<=q.length+1:=ho;obtain⟨g,d,h2⟩:=Kb b l f (λj hj=>hi j (mZ _ hj)) N9;refine⟨g,d,λaa hr M a O U=>?_⟩;have h2:=h2 _ λj hj=>hr j (mZ _ hj);obtain⟨k,m,h1|h1⟩:=h _ (hr i (mX ..)) _ O U
   .rw[c,h1];exact h2 _ _ _ _
   .rw[c,h1];exact h2 _ _ _ _
def NL (O:Nat->D)(p:LN)(m:Nat)(hp:∀i∈p++[m],Rq i (O i)/\bi (O i))(hl:p.length<=300){h:Int}{aj:LD}{ps:LS}(hm:O m=row h "paper" aj)(hr:aj[5]? = some (.tup (ps.map .str)))(h3:ps.length<=3):∃v,Gv v/\∀aa:LD,(∀i∈p++[m],aa[i]? = some (O i))->eB [.tup aa,.lst ((p++[m]).map λ(i:Nat)=>.int (i:Int))]=some (v,false):=by
 have a:∀aa:LD,(∀i∈p++[m],aa[i]? = some (O i))->fA av (ak (f2 fu (am 0) (f2 fu (am 1) (f1 HA (fI 1)))) (ak (fS "pieces") ay)) [sT aa,sL ((p++[m]).map λ(i:Nat)=>D.int (i:Int)),none,none,none,none]=sT (ps.map .str):=λaa M=>by
  have U:=hm ▸ M m X9;refine a0 [row h "paper" aj,.str "pieces"] (aM (aY (.tup aa) (.int (m:Int)) rr (aY _ (.int (-1)) rr rr ?_) (by simp[bg U])) rr) (aS (i:=5) bK hr);show(mq _ (-1)).map _=_;rw[uW,show List.map _ [m]=[D.int (m:Int)]from rr,NK];rfl
 have ei:∀aa:LD,MU (am 1) (iF (pE aa ((p++[m]).map λ(i:Nat)=>D.int (i:Int)) ps none none none))=some ((p++[m]).reverse.map λ(i:Nat)=>.int (i:Int)):=λaa=>by
  show some _=_;simp
 obtain⟨o,ho,ha⟩:=Kb O (p++[m]).reverse ps (λi hi=>hp i (mem_reverse.mp hi)) (by rw[List.length_reverse,uZ,length_singleton];lia);have ha:=λaa (h:∀i∈p++[m],aa[i]? = some (O i))=>ha aa (λi hi=>h i (mem_reverse.mp hi)) ((p++[m]).map λ(i:Nat)=>D.int (i:Int)) none none none;cases o with
 |inl q=>
  refine⟨_,show Gv (.tup [.str "words",.tup (q.map .str)])from ⟨X9,by simp[bH]⟩,λaa M=>?_⟩;obtain⟨b,c,d,e⟩:=ha aa M;exact ah rr (eQ (.tup (ps.map .str)) (a aa M) (show aV _=true from bH _) (c7 (fP (ei aa) e) (ai (a0 [.str "words",.tup (q.map .str)] rr (bc _ X9)))))
 |inr v=>
  refine⟨v,ho,λaa M=>ah rr (eQ (.tup (ps.map .str)) (a aa M) (show aV _=true from bH _) (Na ?_))⟩;show(MU (am 1) (iF (pE aa _ ps none none none))).bind _=_;rw[ei];exact ha aa M
noncomputable abbrev wE (aa:LD)(ae:Int)(n0:Nat)(M:LN)(m:Nat):DL.Env:=[sT aa,sI ae,sI n0,lT (M.map λ(i:Nat)=>.int (i:Int)),sI m]
abbrev wC:FT:=bP (f2 dz (am 4) (am 3))
section
variable {aa:LD}{ae:Int}{n0 a:Nat}{tS:LN}
def OY (h:a∉tS):wC (wE aa ae n0 tS a)=some true:=(cm (aY _ _ rr rr (sR a _))).trans (by rw[oP h];rfl)
def V9 (h:a∉tS)(fuel:Nat)(e:eC (wE aa ae n0 tS a)=some (.rt v b)):c6 wC eC (fuel+1) (wE aa ae n0 tS a)=some (.rt v b):=by rw[c6,OY h,e]
def Zw (h:a∉tS)(fuel:Nat)(e:eC (wE aa ae n0 tS a)=some (.nx ρ)):c6 wC eC (fuel+1) (wE aa ae n0 tS a)=c6 wC eC fuel ρ:=by rw[c6,OY h,e]
end
section
variable {A B:LD}{ae:Int}(hq:∀n r,A[n]? = some r->Rq n r/\bi r) (hB:∀(n:Nat) r,A[n]? = some r->B[n]? = some r)
include hq hB
theorem RW {a:Nat}{r:D}(hr:A[a]? = some r):(∃v,Gv v/\∀L n0 M,L=A\/L=B->eC (wE L ae n0 M a)=some (.rt v false))\/((∃h aj,∃ps:LS,r=row h "paper" aj/\aj[5]? = some (.tup (ps.map .str))/\ps.length<=3/\∀L n0 M v,L=A\/L=B->M.length<=100->eB [.tup L,.lst ((M++[a]).map λ(i:Nat)=>.int (i:Int))]=some (v,false)->eC (wE L ae n0 M a)=some (.rt v false))\/∃g,g<a/\∀L n0 M,L=A\/L=B->M.length<=100->eC (wE L ae n0 M a)=some (.nx (wE L ae n0 (M++[a]) g))):=by
 have at':∀ {L:LD},L=A\/L=B->L[a]? = some r:=λO=>O.elim (λe=>e ▸ hr) λe=>e ▸ hB _ _ hr;obtain⟨hR,j⟩:=hq a r hr;have ei:∀ {L:LD},L=A\/L=B->∀ {ρ:DL.Env},ρ[0]? = some (sT L)->ρ[4]? = some (sI a)->f2 fu (am 0) (am 4) ρ=some (r,false):=λ{L} O {ρ} h0 h3=>aY (.tup L) (.int a) (by simp[h0]) (by simp[h3]) (by simp[bg (at' O)]);have s1:∀L n0 M,L=A\/L=B->mz (bP (fA cY (fV 0 (fV 1 (fV 4 ay))))) (wE L ae n0 M a)=some _:=λL n0 M O=>ba (cm (a0 [.tup L,.int ae,.int a] rr (nA (at' O) j ae)));by_cases hp:(decide (aF r<=ae) && decide (kindOf r∈cG))=true
 .rw[hp]at s1;have U:∀L n0 M,M.length<=100->∀ {T:FS}{res:Option Res},T (wE L ae n0 (M++[a]) a)=res->ce (wB 3 (am 4)) T (wE L ae n0 M a)=res:=λL n0 M hl {T res} hT=>Jt (d:=.int (a:Int)) (b:=false) rr rr rr (bw (by rw[vI];lia)) (by
   grind)
  refine .inr ?_;cases hR with
  |non r h=>rw[oP h,Bool.and_false]at hp;cases hp
  |paper h aj ps e l=>exact .inl ⟨h,aj,ps,rr,e,l,λL n0 M v O hl k=>ao (s1 L n0 M O) (U L n0 M hl (aR (bu (a:="paper") (bb:=false) (a0 [row h "paper" aj] (aM (ei O rr rr) rr) (bD _ _ _)) (mi rr)) (ai (a0 _ rr k))))⟩
  |like h aj f c z e e2 lt=>exact .inr ⟨f,lt,λL n0 M O hl=>ao (s1 L n0 M O) (U L n0 M hl (ao (bu (a:="like") (bb:=false) (a0 [row h "like" aj] (aM (ei O rr rr) rr) (bD _ _ _)) (oP S9)) (iM (a0 [row h "like" aj,.str "of"] (aM (ei O rr rr) rr) (aS (i:=5) bK e)) rr)))⟩
  |copy h aj f e lt=>exact .inr ⟨f,lt,λL n0 M O hl=>ao (s1 L n0 M O) (U L n0 M hl (ao (bu (a:="copy") (bb:=false) (a0 [row h "copy" aj] (aM (ei O rr rr) rr) (bD _ _ _)) (oP S9)) (iM (a0 [row h "copy" aj,.str "of"] (aM (ei O rr rr) rr) (aS (i:=2) bK e)) rr)))⟩
 .rw[Bool.eq_false_iff.mpr hp]at s1;exact .inl ⟨_,Ka "lacks" a,λL n0 M O=>aR (s1 L n0 M O) (ai (a0 [.str "lacks",.int (a:Int)] rr (bc _ X9)))⟩
theorem RX (n0:Nat)(T:FS):∀(a f:Nat)(p:LN),a<A.length->(∀i∈p,a<i/\i<A.length)->p.length+a<=60->a<f->∃v,Gv v/\∀L,L=A\/L=B->ce (c6 wC eC f) T (wE L ae n0 p a)=some (.rt v false):=by
 intro a;induction a using Nat.strongRecOn with|_ a c=>?_
 intro f p ha hp hl hf;obtain⟨f,rfl⟩:∃j,f=j+1:=⟨f - 1,N9⟩;have M:a∉p:=λh=>Nat.lt_irrefl _ (hp a h).1;have b:=vU ha;rcases RW hq hB b with⟨v,gv,hv⟩|⟨h,aj,ps,hr,e,l,hv⟩|⟨d,lt,hv⟩
 .exact⟨v,gv,λL O=>Na (V9 M f (hv L _ _ O))⟩
 .have U:∀i∈p++[a],A[i]? = some (A.getD i .non):=λi hi=>by
   have:i<A.length:=by
    rcases mem_append.mp hi with z|z
    .exact(hp i z).2
    .rw[uT z];exact ha
   simp[this]
  obtain⟨v,gv,g⟩:=NL _ p a (λi hi=>hq _ _ (U i hi)) N9 (by rw[vF,b];exact hr) e l;exact⟨v,gv,λL O=>Na (V9 M f (hv L _ _ _ O N9 (g L λi hi=>O.elim (λe=>e ▸ U i hi) λe=>e ▸ hB _ _ (U i hi))))⟩
 .obtain⟨v,gv,h⟩:=c d lt f (p++[a]) N9 (λi hi=>by
   rcases mem_append.mp hi with z|z
   .have:=hp i z;lia
   .rw[uT z];lia) (by rw[uZ,length_singleton];lia) N9
  refine⟨v,gv,λL O=>?_⟩;have:=h L O;unfold ce at this |-;rw[Zw M f (hv L _ _ O N9)];exact this
theorem Kc (M:A.length<=60){n:Nat}(hn:n<A.length):∃v,Gv v/\jo [.tup A,.int ae,.int n]=some (v,false)/\jo [.tup B,.int ae,.int n]=some (v,false):=by
 obtain⟨v,gv,e⟩:=RX hq hB n _ n 1000 [] hn X9 s9 N9;have h:∀L,L=A\/L=B->jo [.tup L,.int ae,.int n]=some _:=λL M=>ah rr (bx (a0 [] rr (c8 _ X9)) rr (eQ _ rr rr (e L M)));exact⟨v,gv,h A (.inl rr),h B (.inr rr)⟩
end
def j5 (aa:LD)(ae day:Int):List Rs:=(gV aa ae day (bB (ag aa ae))).map λx=>(x.2,Lc x.1,cw aa ae x)
section
variable {aa:LD}(g:∀r∈aa,bi r) (hl:aa.length<=30) (ae:Int) (hn:((bp (ag aa ae)).map (aq 0)).Nodup) (ho:(bB (ag aa ae)).length<=60)
theorem oH (day:Int):((j5 aa ae day).map (·.1)).Nodup:=by
 unfold j5;rw[uP];exact List.Nodup.sublist (List.Sublist.map _ filter_sublist) (kU (ci _ _))
theorem OZ (day:Int):∀p∈j5 aa ae day,decide (p.2.1 = "office")=false:=λp hp=>by obtain⟨x,_,rfl⟩:=vO hp;exact BK _
include ho in
theorem NM (day:Int):(j5 aa ae day).length<=60:=by unfold j5;rw[vI];exact vR (vM _ _) ho
include hl in
theorem Pa (day:Int):∀p∈j5 aa ae day,p.2.2.length<=100:=λp hp=>by obtain⟨x,_,rfl⟩:=vO hp;exact vR (sQ hl ae x) H9
include g hl hn ho
end
def BO (aa:LD)(ae:Int)(n:Nat):List Bs:=match aa[n]? with
 |some r=>cw aa ae (r,n)
 |none=>[]
inductive Lk (S:List Nat)(rs:Nat->List Bs):List Nat->Int->Prop
 |one (n:Nat) (b:Bs) (l:List Bs) (hS:n∈S) (h:(rs n).filter (cu S)=b::l) (ho:b.1.isSome=true):Lk S rs [n] b.2
 |more (n m:Nat) (ns:List Nat) (c:Int) (b:Bs) (l:List Bs) (hS:n∈S) (h:(rs n).filter (cu S)=b::l) (ho:b.1=none) (hm:b.2=(m:Int)) (k:Lk S rs (m::ns) c):Lk S rs (n::m::ns) c
def Kd (K:KL){x y:D×Nat}(hy:y∈K)(h:bL y x=true):(K.filter λz=>bL z y).length<(K.filter λz=>bL z x).length:=by
 have M:∀z∈K,bL z y=true->bL z x=true:=λz _ hz=>by
  unfold bL at *;lia
 have e:K.filter (λz=>bL z y)=(K.filter λz=>bL z x).filter λz=>bL z y:=by
  rw[filter_filter];refine filter_congr λz hz=>?_;cases k:bL z y with
  |false=>rfl
  |true=>rw[M z hz k];rfl
 rw[e];refine Nat.lt_of_le_of_ne (vM _ _) λz=>?_;have hm:y∈(K.filter λz=>bL z x):=mem_filter.mpr ⟨hy,h⟩;have:=List.length_filter_eq_length_iff.mp z y hm;simp_all[bL]
section
variable {aa:LD}{ae:Int}
def sV {day:Int}{n:Nat}(h:n∈aD aa ae day):∃r,aa[n]? = some r/\(r,n)∈ag aa ae/\kindOf r∈be/\(n,Lc r,cw aa ae (r,n))∈j5 aa ae day:=by
 rcases kW _ _ _ h with z|z
 .cases z
 .obtain⟨p,hp,rfl⟩:=vO z;obtain⟨x,hx,rfl⟩:=vO hp;obtain⟨h1,h2⟩:=vN hx;rw[vC]at h2;have hk:=(vN ((a5 _ _).mem_iff.mp h1)).1;exact⟨x.1,aE hk,hk,xQ h2.1,uS ⟨x,hx,rr⟩⟩
theorem Aj {S T:LN}(h:∀m∈S,m∈T)(b:Bs)(k:cu S b=true):cu T b=true:=by
 unfold cu at k |-;rw[Bool.or_eq_true]at k |-;grind
def xE (h:m∈S):m∈bM S p:=by
 grind[bM]
theorem qo:∀(q:List (Nat×List Bs))(S:LN),m∈S->m∈q.foldl bM S
 |[],_,h=>h
 |_::q,_,h=>qo q _ (xE h)
theorem sW:∀(l:List (Nat×List Bs))(S:LN)(n:Nat),n∈l.foldl bM S->n∈S\/∃p∈l,p.1=n/\p.2.any (cu (l.foldl bM S))=true
 |[],S,n,h=>.inl h
 |p::l,S,n,h=>by
  rcases sW l _ n h with z|⟨M,hp,e,k⟩
  .by_cases hs:n∈S
   .exact .inl hs
   grind[bM,Aj,qo]
  .exact .inr ⟨M,mZ _ hp,e,k⟩
def sX {r:D}{n:Nat}(g:∀r∈aa,bi r)(hr:aa[n]? = some r){b:Bs}(hb:b∈cw aa ae (r,n))(e:b.1=none):∃(m:Nat)(q:D),b.2=(m:Int)/\aa[m]? = some q/\(q,m)∈ag aa ae/\bL (q,m) (r,n)=true:=by
 unfold cw nB at hb;split at hb
 .rename_i M;obtain⟨a,d,O,m,er⟩:=jt (g _ (vL hr)) M;have en:eG 2 r=m:=by rw[er];rfl
  simp only[en]at hb;split at hb
  .rename_i hv;rw[mem_singleton]at hb;subst hb;unfold ie at hv;split at hv
   .cases hv
   .rename_i q hq;rw[vC,vC]at hv;refine⟨m,q,rr,hq,mem_filter.mpr ⟨List.mk_mem_zipIdx_iff_getElem?.mpr hq,hv.1.1⟩,hv.2⟩
  simp_all
 .have hb:=(a5 _ _).mem_iff.mp hb;rcases mem_append.mp hb with z|z
  .obtain⟨v,_,rfl⟩:=vO z;cases e
  .obtain⟨y,hy,rfl⟩:=vO z;obtain⟨h1,h2⟩:=vN hy;unfold JL at h2;rw[vC]at h2;exact⟨y.2,y.1,rr,(zU g h1).1,(vN (vN h1).1).1,h2.1⟩
def Ke {day:Int}{n:Nat}{r:D}(hr:aa[n]? = some r)(hn:n∈aD aa ae day):∃b l,(cw aa ae (r,n)).filter (cu (aD aa ae day))=b::l:=by
 rcases sW _ _ _ hn with z|⟨p,hp,e,hb⟩
 .cases z
 .obtain⟨x,hx,rfl⟩:=vO hp;have hx':=aE (vN ((a5 _ _).mem_iff.mp (vN hx).1)).1;have M:x.2=n:=e;rw[M,hr]at hx';have ex:x=(r,n):=by rw[<-M,vK hx']
  subst ex;obtain⟨b,h1,h2⟩:=any_eq_true.mp hb;have hm:b∈(cw _ _ _).filter (cu (aD _ _ _)):=mem_filter.mpr ⟨h1,h2⟩;cases hq:(cw _ _ _).filter _ with
  |nil=>rw[hq]at hm;cases hm
  |cons b l=>exact⟨b,l,rr⟩
def Kf (g:∀r∈aa,bi r)(day:Int):∀(k n:Nat)(r:D),aa[n]? = some r->n∈aD aa ae day->((ag aa ae).filter λz=>bL z (r,n)).length<k->∃ns c,Lk (aD aa ae day) (BO aa ae) (n::ns) c/\ns.length<k:=by
 intro k;induction k with
 |zero=>lia
 |succ k a=>
  intro n r hr hn hk;obtain⟨b,l,hq⟩:=Ke hr hn;have er:BO aa ae n=cw aa ae (r,n):=by unfold BO;rw[hr]
  have hm:b∈(cw aa ae (r,n)).filter (cu (aD aa ae day)):=by rw[hq];exact mX
  obtain⟨h1,h2⟩:=vN hm;cases M:b.1 with
  |some o=>exact⟨[],b.2,.one n b l hn (by rw[er];exact hq) (by rw[M];rfl),Nat.succ_pos _⟩
  |none=>
   obtain⟨m,q,d,e2,h3,h4⟩:=sX g hr h1 M;have O:m∈aD aa ae day:=by
    unfold cu at h2;rw[M]at h2;obtain⟨e,U,f⟩:=any_eq_true.mp (by simpa using h2:(aD aa ae day).any (λn=>decide _)=true);have:=xQ f;rw[show m=e by lia];exact U
   have:=Kd _ h3 h4;obtain⟨ns,c,hl,h⟩:=a m q e2 O N9;exact⟨m::ns,c,.more n m ns c b l hn (by rw[er];exact hq) M d hl,by rw[vE];lia⟩
end
def xF (w:Str)(b:Bs):fu (mm w b) (.int 0)=sS (if b.1.isSome=true then "office" else w):=by rcases b with⟨_|o,n⟩<;>simp[mm,BC]
def Kg (hw:decide (w=("office" : Str))=false)(R:List Bs)(hR:R.length<=100)(S:LN){b:Bs}{l:List Bs}(h:R.filter (cu S)=b::l):eA [.lst (R.map (mm w)),.dk (S.map nK) (S.map Ez)]=sF (mm w b):=by
 have hc:=cS (fi:=c9 (am 0)) (nT:=1) (cap:=[1]) (tg:=eU 0) (c:=bP (fA _ (fV 0 (fV 1 ay)))) (fe:=am 0) (ρ:=[sL _,sF _]) R (mm w) _ _ rr N9 λb _=>⟨[some _,sF _],rr,cm (a0 _ rr (Ad hw S b)),λ_=>⟨false,rr⟩⟩;rw[h]at hc;exact ah rr (ai (eN hc rr (by simp[BC])))
theorem sY:∀(l:List Rs),(l.map (·.1)).Nodup->∀p∈l,b9 (l.map λp=>nK p.1) (l.map sP) (nK p.1)=some (sP p)
 |q::l,h,p,hp=>by
  rw[uY,nodup_cons]at h;show(if nK _=nK _ then some _ else b9 _ _ _)=_;rcases vP hp with rfl|hp
  .rw[if_pos rr]
  .rw[if_neg λe=>?_,sY l h.2 p hp];have z:q.1=p.1:=by
    have:=Sum.inl.inj (show(Sum.inl _:dB)=Sum.inl _ from e);lia
   exact h.1 (uS ⟨p,hp,z.symm⟩)
def Lk.first {S:LN}{rs:Nat->List Bs}(h:Lk S rs (n::ns) c):n∈S/\∃b l,(rs n).filter (cu S)=b::l:=by
 cases h with
 |one _ b l hS h _=>exact⟨hS,b,l,h⟩
 |more _ _ _ _ b l hS h _ _ _=>exact⟨hS,b,l,h⟩
section
variable {aa:LD}{ae day:Int}{l:List Rs}{S:LN}{rs:Nat->List Bs}(n0:Nat)
abbrev cE (aa:LD)(ae day:Int)(l:List Rs)(S:LN)(n0:Nat)(told:LD)(b:D):DL.Env:=[sT aa,sI ae,sI day,sI n0,sF (.dk (l.map λp=>nK p.1) (l.map sP)),sF (.dk (S.map nK) (S.map Ez)),lT told,some (b,false)]
def Zx (l:List Rs)(S:LN)(rs:Nat->List Bs):Prop:=∀n∈S,∃w,decide (w=("office" : Str))=false/\b9 (l.map λp=>nK p.1) (l.map sP) (nK n)=some (.lst ((rs n).map (mm w)))/\(rs n).length<=100
theorem E2 (F:Zx l S rs){m:Nat}(hm:m∈S){b:Bs}{tl:List Bs}(h:(rs m).filter (cu S)=b::tl){ρ:DL.Env}{f:FE}(h4:ρ[4]? = some (sF (.dk (l.map λp=>nK p.1) (l.map sP))))(h5:ρ[5]? = some (sF (.dk (S.map nK) (S.map Ez))))(hf:f ρ=sI (m:Int)):
  ∃w,decide (w=("office" : Str))=false/\fA eA (ak (f2 SW (am 4) f) (fV 5 ay)) ρ=sF (mm w b):=by
 obtain⟨w,hw,hl,hz⟩:=F m hm;refine⟨w,hw,a0 _ (a7 (b:=false) (aY (.dk (l.map λp=>nK p.1) (l.map sP)) _ (by simp[h4]) hf ?_) (by simp[h5])) (Kg hw _ hz S h)⟩;simp_all[nK]
theorem Gf (F:Zx l S rs){T:LN}{c:Int}(k:Lk S rs T c):∀(n:Nat)(ns:LN),T=n::ns->∀(pre:LD)(w:Str)(b:Bs)(tl:List Bs)(fuel:Nat),pre.length+ns.length<=1000->decide (w=("office" : Str))=false->(rs n).filter (cu S)=b::tl->ns.length<fuel ->
  ∃O b',c6 (bP (f2 Hx (jx 7 0) (fS "office"))) zy fuel (cE aa ae day l S n0 (pre++[.int n]) (mm w b))=some (.nx (cE aa ae day l S n0 (pre++(n::ns).map λ(m:Nat)=>.int (m:Int)) (mm O b')))/\b'.1.isSome=true/\b'.2=c:=by
 have cond:∀(told:LD)(w:Str)(b:Bs),decide (w=("office" : Str))=false->bP (f2 Hx (jx 7 0) (fS "office")) (cE aa ae day l S n0 told _)=some (!b.1.isSome):=λtold w b hw=>by
  refine(sJ (aY _ _ rr rr (xF w b))).trans ?_;lia
 induction k with
 |one n M e hS h ho=>
  rintro f ns ⟨⟩ pre w b tl fuel hp hw hb hf;rw[h]at hb;obtain⟨rfl,rfl⟩:=List.cons.inj hb;obtain⟨fuel,rfl⟩:∃k,fuel=k+1:=⟨fuel - 1,N9⟩;refine⟨w,M,?_,ho,rr⟩;rw[c6,cond _ _ _ hw,ho];rfl
 |more n m g c M e hS h ho hm k i=>
  rintro f ns ⟨⟩ pre w b tl fuel hp hw hb hf;rw[h]at hb;obtain⟨rfl,rfl⟩:=List.cons.inj hb;obtain⟨fuel,rfl⟩:∃k,fuel=k+1:=⟨fuel - 1,N9⟩;obtain⟨U,b2,l2,h2⟩:=k.first;rw[vE]at hp hf;have d:∀told,jx 7 1 (cE aa ae day l S n0 told (mm w M))=sF _:=λtold=>aY _ (.int 1) rr rr (by
   obtain⟨o,z⟩:=M;cases (show o=none from ho)
   cases (show z=(m:Int)from hm)
   rfl)
  obtain⟨j,a,e2⟩:=E2 F U h2 rr rr (d _);obtain⟨O,b',p,q,r⟩:=i m g rr (pre++[.int n]) j b2 l2 fuel (by rw[uZ,length_singleton];lia) a h2 N9;refine⟨O,b',?_,q,r⟩;have s:zy _=some (.nx (cE aa ae day l S n0 (pre++[.int n]++[.int _]) _)):=Jt rr (d _) rr (bw (by rw[uZ,length_singleton];lia)) (iM e2 (Aa _ _));rw[c6,cond _ _ _ hw,ho];rw[s];dsimp only;rw[p];simp
end
section
variable {aa:LD}(g:∀r∈aa,bi r) (hl:aa.length<=30) (ae:Int) (hn:((bp (ag aa ae)).map (aq 0)).Nodup) (ho:(bB (ag aa ae)).length<=60)
include hl in
theorem NN (day:Int):Zx (j5 aa ae day) (aD aa ae day) (BO aa ae):=λn hm=>by
 obtain⟨r,hr,_,_,hp⟩:=sV hm;have e:BO aa ae n=cw aa ae (r,n):=by unfold BO;rw[hr]
 rw[e];exact⟨Lc r,BK r,sY _ (oH ae day) _ hp,vR (sQ hl ae (r,n)) H9⟩
include g hl hn ho
theorem vx (day:Int)(n:Nat):mW [.tup aa,.int ae,.int day]=sF (.dk ((j5 aa ae day).map λp=>nK p.1) ((j5 aa ae day).map sP))/\qj [.dk ((j5 aa ae day).map λp=>nK p.1) ((j5 aa ae day).map sP)]=sF (.dk ((aD aa ae day).map nK) ((aD aa ae day).map Ez)):=by
 constructor
 .rw[Ac g hl _ hn ho _];unfold j5;rw[uP,uP];rfl
 .rw[Af _ (NM _ ho _) (OZ _ _) (Pa hl _ _) (oH _ _)];have:eJ ((j5 aa ae day).map BJ)=aD aa ae day:=by
   unfold j5 aD;rw[uP];rfl
  rw[this]
theorem Gg (day:Int){n:Nat}{ns:LN}{c:Int}(k:Lk (aD aa ae day) (BO aa ae) (n::ns) c)(s:ns.length<=100):qk [.tup aa,.int ae,.int day,.int (n:Int)]=lT (((n::ns).map (λ(m:Nat)=>D.int (m:Int))++[D.int c]).reverse):=by
 obtain⟨e,e2⟩:=vx g hl ae hn ho day n;obtain⟨hS,b,tl,hf⟩:=k.first;have F:=NN (aa:=aa) hl ae day;generalize j5 aa ae day=l at *;generalize aD aa ae day=S at *;obtain⟨w,hw,h⟩:=E2 F hS hf (ρ:=[sT aa,sI ae,sI day,sI (n:Int),sF _,sF _,lT [.int (n:Int)],none]) (f:=am 3) rr rr rr;obtain⟨a,b',i,M,hc⟩:=Gf (aa:=aa) (ae:=ae) (day:=day) n F k n ns rr [] w b tl 1000 s9 hw hf N9;have O:jx 7 2 (cE aa ae day l S n ([]++(n::ns).map λ(m:Nat)=>D.int (m:Int)) (mm a b'))=sI c:=aY (mm a b') (.int 2) rr rr (by
  obtain⟨_|o,z⟩:=b'
  .cases M
  .cases (show z=c from hc)
   rfl)
 have U:f2 Bu (am 3) (am 5) [sT aa,sI ae,sI day,sI (n:Int),sF (.dk (l.map λp=>nK p.1) (l.map sP)),sF (.dk (S.map nK) (S.map Ez)),none,none]=sO false:=by
  show some (D.bl _,false)=_;rw[JV,mi hS];rfl
 have j:(ce _ (ce (wB 6 (jx 7 2)) (yg (f1 Vs (am 6))))) _=some _:=
  c7 i (Jt (d:=.int c) (b:=false) rr O rr (bw s9) (ai rr))
 have q:(ce (eM 6 (fA f6 (fV 3 ay))) (ce (eM 7 _) _)) [sT aa,sI ae,sI day,sI (n:Int),sF _,sF _,none,none]=some _:=
  bx (a0 [.int (n:Int)] rr (c8 _ X9)) rr (xl h (Aa _ _) j)
 refine ah rr (RF (b:=false) (a0 _ rr e) (by simp[aP]) (.inl rr) ?_);refine(show ce _ _ _=_ from RF (b:=false) (a0 [_] rr e2) (by simp[aP]) (.inl rr) ?_);exact ao (cm (x:=false) U) q
end
def Pc (a:D)(l:LD):gT (a::l) (some 1) none=l:=by
 unfold gT;rw[zj H9];show List.take ((a::l).length - _) _=_;simp
def VA (a:D)(l:LD):gT (a::l) (some 2) none=l.drop 1:=by
 unfold gT;rw[zj H9];show List.take ((a::l).length - _) _=_;cases l with
 |nil=>rfl
 |cons b l=>simp
def xG (z:Int)(zs:LI):HB (.int z) (.lst (zs.map .int))=sO (zs.any λy=>decide (y=z)):=by
 have M:(zs.map D.int).all gW=true:=by
  rw[all_eq_true];intro d hd;obtain⟨m,_,rfl⟩:=vO hd;rfl
 have O:∀zs:List _,G5 _ (zs.map .int)=zs.any λy=>decide (y=z):=λzs=>by
  induction zs with
  |nil=>rfl
  |cons y zs U=>
   show(gS _ (.int z) || G5 _ _)=_;rw[U,any_cons,xx2]
 simp only[HB,f7,vJ];rw[if_pos ⟨rr,M⟩,O]
def Kh (z:Int)(zs:LI):dz (.int z) (.lst (zs.map .int))=sO (!zs.any λy=>decide (y=z)):=by
 have h:=xG z zs;simp only[HB,dz,f7,vJ]at h |-;split at h
 .rename_i q;rw[if_pos q];injection h with h;injection h with h _;injection h with h;rw[h]
 .cases h
def VB {α:Type}(l:List α)(f:α->Bool):Mk [.lst (l.map λx=>.bl (f x))]=sO (l.all f):=by
 show(tK _).map _=_;rw[zi f,Option.map_some,all_map];rfl
def RY (w:Str)(hw:decide (w=("office" : Str))=false)(R:List Bs)(hR:R.length<=100)(a:Int):jm [.lst (R.map (mm w)),.int a]=sO (R.any λb=>b.1.isSome && decide (b.2=a)):=by
 have hc:=cS (fi:=c9 (am 0)) (nT:=1) (cap:=[]) (tg:=eU 0) (c:=bP (f2 lu (jx 0 0) (fS "office"))) (fe:=jx 0 2) (ρ:=[sL _,sI a]) R (mm w) (λb=>b.1.isSome) (λb=>.int b.2) rr (by omega) λx _=>by
  refine⟨[some _],rr,?_,λh=>⟨false,?_⟩⟩
  .refine(bu (aY _ _ rr rr (xF _ x)) rr).trans ?_;cases x.1.isSome with
   |true=>simp
   |false=>rw[if_neg H9,hw]
  .obtain⟨_|o,z⟩:=x
   .cases h
   .exact aY _ _ rr rr ((DL.AL H9 X9).trans rr)
 refine ah rr (ai (eN rr hc ?_));have:=xG a ((R.filter λb=>b.1.isSome).map λb=>b.2);rw[uP,List.any_map,List.any_filter]at this;exact this
def NO (w:Str)(hw:decide (w=("office" : Str))=false)(R:List Bs)(hR:R.length<=100)(a:Int):hZ [.lst (R.map (mm w)),.int a]=sO (R.any λb=>!b.1.isSome && decide (b.2=a)):=by
 have hc:=cS (fi:=c9 (am 0)) (nT:=1) (cap:=[]) (tg:=eU 0) (c:=bP (f2 _ (jx 0 0) (fS "office"))) (fe:=jx 0 1) (ρ:=[sL _,sI a]) R (mm w) (λb=>!b.1.isSome) (λb=>.int b.2) rr (by omega) λx _=>by
  refine⟨[some _],rr,?_,λh=>⟨false,?_⟩⟩
  .refine(sJ (aY _ _ rr rr (xF _ x))).trans ?_;cases x.1.isSome with
   |true=>simp
   |false=>rw[if_neg H9,hw]
  .obtain⟨_|o,z⟩:=x
   .exact aY _ _ rr rr (by simp[mm,G7])
   .cases h
 refine ah rr (ai (eN rr hc ?_));have:=xG a ((R.filter λb=>!b.1.isSome).map λb=>b.2);rw[uP,List.any_map,List.any_filter]at this;exact this
noncomputable def oJ (l:List Rs)(z:Int):Bool:=l.any λp=>decide ((p.1:Int)=z)
theorem Ak (z:Int):∀l:List Rs,(b9 (l.map λp=>nK p.1) (l.map sP) (.inl z)).isSome=oJ l z
 |[]=>rr
 |p::l=>by
  unfold oJ;rw[uY,uY,b9,any_cons];by_cases h:nK p.1=.inl z
  .rw[if_pos h,mi (Sum.inl.inj h)];rfl
  .rw[if_neg h,oP λe=>h (congrArg _ e)];exact Ak z l
def NP {l:List Rs}(nd:(l.map (·.1)).Nodup){z:Int}(h:oJ l z=true):∃p∈l,(p.1:Int)=z/\b9 (l.map λp=>nK p.1) (l.map sP) (.inl z)=some (sP p):=by
 obtain⟨p,hp,e⟩:=any_eq_true.mp h;have e:=xQ e;refine⟨p,hp,e,?_⟩;rw[<-e];exact sY l nd p hp
noncomputable def Td (rs:Nat->List Bs)(a b:Int):Bool:=(rs b.toNat).any λx=>x.1.isSome && decide (x.2=a)
noncomputable def Te (rs:Nat->List Bs)(a b:Int):Bool:=(rs b.toNat).any λx=>!x.1.isSome && decide (x.2=a)
def Tf (l:List Rs)(rs:Nat->List Bs):LI->Bool
 |a::b::r=>(b::r).all (oJ l) && (Td rs a b && ((b::r).zip r).all λp=>Te rs p.1 p.2)
 |_=>false
structure O7 (l:List Rs)(rs:Nat->List Bs):Prop where
 nd:(l.map (·.1)).Nodup
 hw:∀p∈l,decide (p.2.1=("office" : Str))=false
 hb:∀p∈l,p.2.2.length<=100
 hr:∀p∈l,p.2.2=rs p.1
def O7.get (I:O7 l rs){z:Int}(h:oJ l z=true):∃w,decide (w=("office" : Str))=false/\(rs z.toNat).length<=100/\SW (.dk (l.map λp=>nK p.1) (l.map sP)) (.int z)=sL ((rs z.toNat).map (mm w)):=by
 obtain⟨p,hp,e,hl⟩:=NP I.nd h;have M:z.toNat=p.1:=by omega
 refine⟨p.2.1,I.hw p hp,by rw[M,<-I.hr p hp];exact I.hb p hp,?_⟩;show(b9 (l.map λp=>nK _) _ _).map _=_;rw[hl,M,<-I.hr p hp];rfl
def Gh {aa:LD}{ae day:Int}{l:List Rs}{rs:Nat->List Bs}(F:mW [.tup aa,.int ae,.int day]=sF (.dk (l.map λp=>nK p.1) (l.map sP)))(I:O7 l rs)(zs:LI)(hz:zs.length<=1000):jn [.tup aa,.int ae,.int day,.lst (zs.map .int)]=sO (Tf l rs zs):=by
 let A:D:=.dk (l.map λp=>nK p.1) (l.map sP);let E:DL.Env:=[sT aa,sI ae,sI day,sL (zs.map .int),sF A];have c:bP (f2 UE (fA lI (fV 3 ay)) (fI 2)) E=some (decide (zs.length<2)):=cm (aY (.int (zs.length:Nat)) (.int 2) (a0 [.lst (zs.map .int)] rr X9) rr (by
  show some (D.bl (decide ((zs.length:Int)<2)),false)=_;congr 3;exact decide_eq_decide.mpr (by omega)))
 refine ah rr (RF (d:=A) (b:=false) (a0 [.tup aa,.int ae,.int day] rr F) rr (.inl rr) ?_);show ce _ _ E=_;rcases zs with _|⟨a,_|⟨b,r⟩⟩
 .exact aR (b7 (p:=true) (q:=true) c X9) (ai rr)
 .exact aR (b7 (p:=true) (q:=true) c X9) (ai rr)
 .have c2:=fK (fi:=c9 (G6 (am 3) (jK (fI 1)) lw)) (nT:=1) (cap:=[4]) (tg:=eU 0) (fe:=f2 Zi (am 0) (am 1)) (ρ:=E) (b::r) .int (λz=>.bl (oJ l z)) (by
    show some (gT (.int a::(b::r).map .int) (some 1) none)=_;rw[Pc]) (by simp at hz |-;omega) λz _=>⟨[sI z,sF A],rr,false,aY (.int z) A rr rr (by
     show some (D.bl (b9 (l.map λp=>nK p.1) (l.map sP) (.inl z)).isSome,false)=_;rw[Ak])⟩
  have e:bP (fA Mk (ak _ ay)) E=some ((b::r).all (oJ l)):=cm (a0 [.lst ((b::r).map λz=>.bl (oJ l z))] (a7 c2 rr) (VB _ _));show ce _ _ E=some (.rt (.bl ((b::r).all (oJ l) && (Td rs a b && ((b::r).zip r).all λp=>Te rs p.1 p.2))) false);cases M:(b::r).all (oJ l) with
  |false=>
   rw[M]at e;exact aR (b7 (p:=false) (q:=true) c λ_=>ba e) (ai rr)
  |true=>
   rw[M]at e;rw[Bool.true_and];have hf:∀z∈b::r,oJ l z=true:=uR M;obtain⟨w,hw,O,hk⟩:=I.get (hf b mX);have f:bP (fA jm (ak (f2 SW (am 4) (jx 3 1)) (ak (jx 3 0) ay))) E=some (Td rs a b):=cm (a0 [.lst ((rs b.toNat).map (mm w)),.int a] (aM (aY A (.int b) rr (aY (.lst (.int a::.int b::r.map .int)) (.int 1) rr rr (by simp[G7])) hk) (aM (aY (.lst (.int a::.int b::r.map .int)) (.int 0) rr rr (by simp[BC])) rr)) (RY w hw _ O a));refine ao (b7 (p:=false) (q:=false) c λ_=>ba e) ?_;cases U:Td rs a b with
   |false=>
    rw[U]at f;exact aR (ba f) (ai rr)
   |true=>
    rw[U]at f;rw[Bool.true_and];have g:=fK (fi:=Fi (G6 (am 3) (jK (fI 1)) lw) (G6 (am 3) (jK (fI 2)) lw)) (nT:=2) (cap:=[4]) (tg:=HQ [0,1]) (fe:=fA hZ (ak (f2 SW (am 2) (am 1)) (fV 0 ay))) (ρ:=E) ((b::r).zip r) (λp=>.tup [.int p.1,.int p.2]) (λp=>.bl (Te rs p.1 p.2)) (by
      show some (gU (gT (.int a::(b::r).map .int) (some 1) none) (gT (.int a::(b::r).map .int) (some 2) none))=_;rw[Pc,VA];unfold gU;show some (List.zipWith _ ((b::r).map D.int) (r.map D.int))=_;rw[List.zipWith_map,List.zip_eq_zipWith,List.map_zipWith]) (by rw[length_zip];simp at hz |-;omega) λp hp=>by
     obtain⟨w,hw,O,hk⟩:=I.get (hf p.2 (mZ _ (of_mem_zip hp).2));exact⟨[sI p.1,sI p.2,sF A],rr,false,a0 [.lst ((rs p.2.toNat).map (mm w)),.int p.1] (aM (aY A (.int p.2) rr rr hk) (aM rr rr)) (NO w hw _ O p.1)⟩
    exact ao (ba f) (ai (a0 [.lst (((b::r).zip r).map λp=>.bl (Te rs p.1 p.2))] (a7 g rr) (VB _ _)))
theorem Al {p:Nat×List Bs}(hb:∀S,p.2.any (cu S)=true):∀(l:List (Nat×List Bs))(S:LN),p∈l->p.1∈l.foldl bM S
 |q::l,S,h=>by
  rcases vP h with rfl|h
  .exact qo l _ (by unfold bM;rw[if_pos (hb S)];simp)
  .exact Al hb l _ h
section
variable {aa:LD}{ae:Int}
def Ki (K:KL):(bB K).Pairwise λa b=>bL b a=false:=(dH _ _).imp λ{a b} h=>by
 have:=pW _ _ _ (xq b a);rw[oP (show ¬bZ _<bZ _ from h)]at this;exact this
def NQ {day:Int}{n m:Nat}{r q:D}(hr:(r,n)∈ag aa ae)(c:kindOf r∈be)(hf:pN aa ae day (r,n)=true)(hS:n∉aD aa ae day)(hb:((none,(m:Int)):Bs)∈cw aa ae (r,n))(hq:aa[m]? = some q)(d:bL (q,m) (r,n)=true):m∉aD aa ae day:=λhm=>by
 have g:(r,n)∈bB (ag aa ae):=(a5 _ _).mem_iff.mpr (mem_filter.mpr ⟨hr,by rw[nD c];rfl⟩);have a:(r,n)∈gV aa ae day (bB (ag aa ae)):=mem_filter.mpr ⟨g,by rw[mi c,hf];rfl⟩;obtain⟨l1,l2,b⟩:=List.append_of_mem a;have M:=(Ki (ag aa ae)).sublist (filter_sublist (p:=λx=>decide (kindOf x.1∈be) && pN aa ae day x));rw[show(bB (ag aa ae)).filter _=l1++(r,n)::l2 from b]at M;have O:=(pairwise_cons.mp (List.pairwise_append.mp M).2.1).1;let f:=λx=>(x.2,cw aa ae x);have e:aD aa ae day=(l2.map f).foldl bM (bM ((l1.map f).foldl bM []) (f (r,n))):=by
  unfold aD eJ;rw[b,uW,List.foldl_append];rfl
 have U:∀x∈l1++(r,n)::l2,aa[x.2]? = some x.1:=λx hx=>by
  rw[<-b]at hx;exact aE (vN ((a5 _ _).mem_iff.mp (vN hx).1)).1
 have h:m∈(l1.map f).foldl bM []:=by
  rw[e]at hm;rcases kW _ _ _ hm with z|z
  .rcases Ae z with z|z
   .exact z
   .have i:m=n:=z;subst i;exact absurd (e ▸ hm) hS
  .obtain⟨p,hp,rfl⟩:=vO z;obtain⟨x,hx,rfl⟩:=vO hp;have h1:=U x (mY _ (mZ _ hx));have h2:aa[x.2]? = some q:=hq;rw[h1]at h2;have h3:=O x hx;rw[show x=(q,x.2) by rw[<-vK h2]]at h3;rw[show bL (q,x.2) (r,n)=true from d]at h3;cases h3
 have j:n∈bM ((l1.map f).foldl bM []) (f (r,n)):=by
  unfold bM;rw[if_pos (any_eq_true.mpr ⟨_,hb,by
   unfold cu;rw[Bool.or_eq_true];exact .inr (any_eq_true.mpr ⟨m,h,mi rr⟩)⟩)]
  exact mY _ (mem_singleton.mpr rr)
 exact hS (e ▸ qo _ _ j)
def Gi {day:Int}{n:Nat}{r:D}(hr:(r,n)∈ag aa ae)(O:kindOf r∈be)(hf:pN aa ae day (r,n)=true)(hS:n∉aD aa ae day){b:Bs}(hb:b∈cw aa ae (r,n)):b.1=none:=by
 cases e:b.1 with
 |none=>rfl
 |some o=>
  refine absurd ?_ hS;have M:(r,n)∈bB _:=(a5 _ _).mem_iff.mpr (mem_filter.mpr ⟨hr,by rw[nD O];rfl⟩);refine Al (λS=>any_eq_true.mpr ⟨b,hb,by unfold cu;rw[e];rfl⟩) _ _ (uS ⟨(r,n),mem_filter.mpr ⟨M,by rw[mi O,hf];rfl⟩,rr⟩)
end
def PN (w:D):Prop:=w=.non\/∃s,w=.str s
noncomputable def wh4:D->D
 |.tup [_,.tup (_::aj)]=>aj.getD 4 .non
 |_=>.non
def Tg (aa:LD)(n:Nat):D:=wh4 (aa.getD (pend aa 60 n) .non)
def PW.wh (p:PW r x w):wh4 r=w:=by
 obtain⟨a,k,d,b,m,rs,hk,rfl,_⟩:=p;rfl
section
variable {aa:LD}(g:∀r∈aa,bi r) (gw:∀r∈aa,pO r) (hl:aa.length<=30) (ae:Int) (hn:((bp (ag aa ae)).map (aq 0)).Nodup) (ho:(bB (ag aa ae)).length<=60)
include g gw hl
theorem E3 {day:Int}{n:Nat}(h:n∈Ai aa ae day):PN (Tg aa n)/\o7 [.tup aa,.int n]=some (Tg aa n,false):=by
 obtain⟨h1,h2⟩:=vN (vN h).1;obtain⟨q,x,w,e,k,hk,O,hq,M,U,e2⟩:=sU g gw hl _ (dn.mp h1) h2;have a:Tg aa n=w:=by
  unfold Tg;rw[O.pend 60 hk,vF,hq];exact M.wh
 rw[a];refine⟨?_,ah rr (ai (a0 _ (aM (a0 _ rr U) rr) M.whom))⟩;obtain⟨_,_,_,_,_,_,_,_,hw⟩:=M;exact hw
end
def NR (aa:LD)(ae:Int)(n:Nat):D:=match jo [.tup aa,.int ae,.int n] with
 |some (v,_)=>v
 |none=>.non
def oK (aa:LD)(ae day:Int):LD:=(Ai aa ae day).map λ(n:Nat)=>.tup [.int (n:Int),Tg aa n,NR aa ae n]
section
variable {aa:LD}(g:∀n r,aa[n]? = some r->Rq n r/\bi r/\pO r) (hl:aa.length<=30)
include g hl
theorem xH {B:LD}(O:∀(n:Nat) r,aa[n]? = some r->B[n]? = some r){k:Int}{n:Nat}(hn:n<aa.length):jo [.tup aa,.int k,.int n]=some (NR aa k n,false)/\Gv (NR aa k n)/\NR B k n=NR aa k n:=by
 obtain⟨v,gv,M,e2⟩:=Kc (ae:=k) (λn r h=>⟨(g n r h).1,(g n r h).2.1⟩) O N9 hn;rw[show NR aa k n=v by unfold NR;rw[M],show NR B k n=v by unfold NR;rw[e2]];exact⟨M,gv,rr⟩
theorem xI {ae day:Int}{n:Nat}(h:n∈Ai aa ae day):n<aa.length:=by
 have h2:=(vN (vN h).1).2;unfold NJ at h2;split at h2
 .rename_i r hr;exact(vV hr).1
 .cases h2
theorem vy (ae day:Int):(oK aa ae day).all mL=true/\aV (oK aa ae day)=true:=by
 have h:∀d∈oK aa ae day,mL d=true/\aP d=true:=λd hd=>by
  obtain⟨n,hn,rfl⟩:=vO hd;have M:∀r∈aa,bi r/\pO r:=λr hr=>by obtain⟨n,h⟩:=mem_iff_getElem?.mp hr;exact(g n r h).2
  have h1:=(E3 (λr hr=>(M r hr).1) (λr hr=>(M r hr).2) hl _ hn).1;have h2:=(xH g hl (λ_ _ h=>h) (k:=ae) (xI g hl hn)).2.1;have h3:=jp 20 38 _ H9 h2.1;rcases h1 with h|⟨s,h⟩<;>rw[h]<;>simp[mL,h3,h2.2]
 exact⟨all_eq_true.mpr λd hd=>(h d hd).1,bq λd hd=>(h d hd).2⟩
theorem vz {ae:Int}(hn:((bp (ag aa ae)).map (aq 0)).Nodup)(ho:(bB (ag aa ae)).length<=60)(day:Int):ng [.tup aa,.int ae,.int day]=lT (oK aa ae day)/\(oK aa ae day).length<=60:=by
 have U:∀r∈aa,bi r/\pO r:=λr hr=>by obtain⟨n,h⟩:=mem_iff_getElem?.mp hr;exact(g n r h).2
 have hk:=λr hr=>(U r hr).1;have hw:=λr hr=>(U r hr).2;have e:=BM hk hw hl _ hn ho day;have O:(Ai aa ae day).length<=60:=by
  refine vR (vM _ _) (vR (vM _ _) ?_);unfold lE;rw[(a5 _ _).length_eq];exact iU hl _ _
 refine⟨ah rr (ai (fK _ _ _ (by show(fA _ _ _).bind _=_;rw[a0 _ rr e];rfl) N9 λn M=>?_)),by unfold oK;rw[vI];exact O⟩;exact⟨[sF _,sF _,sF _],rr,false,a0 _ (aM rr (aM (a0 _ rr (E3 hk hw hl _ M).2) (a7 (a0 _ rr (xH g hl (λ_ _ h=>h) (xI g hl M)).1) rr))) (bc _ X9)⟩
end
def Pb.grow {A B:LD}(M:∀(n:Nat) r,A[n]? = some r->B[n]? = some r)(p:Pb A k n e):Pb B k n e:=by
 induction p with
 |here n r x w h p=>exact .here n r x w (M _ _ h) p
 |copy k n m e a d b h p O=>exact .copy k n m e a d b (M _ _ h) O
section
variable {A B:LD}{ae:Int}(gA:∀n r,A[n]? = some r->Rq n r/\bi r/\pO r) (lA:A.length<=30) (hB:∀(n:Nat) r,A[n]? = some r->B[n]? = some r) {day:Int}(hS:∀n∈aD A ae day,n∈aD B ae day)
include gA lA hB hS
theorem NS {d:D}(h:d∈oK A ae day):d∈oK B ae day:=by
 have U:∀r∈A,bi r/\pO r:=λr hr=>by obtain⟨n,h⟩:=mem_iff_getElem?.mp hr;exact(gA n r h).2
 obtain⟨n,hn,rfl⟩:=vO h;obtain⟨M,h3⟩:=vN hn;obtain⟨h1,h2⟩:=vN M;have h1:=dn.mp h1;obtain⟨q,x,w,e,k,hk,O,hq,_⟩:=sU (λr hr=>(U r hr).1) (λr hr=>(U r hr).2) lA ae h1 h2;have ed:B.getD (pend B 60 n) .non=A.getD (pend A 60 n) .non:=by
  rw[O.pend 60 hk,(O.grow hB).pend 60 hk,vF,vF,hq,hB _ _ hq]
 obtain⟨r,hr⟩:=O.at_;refine uS ⟨n,mem_filter.mpr ⟨mem_filter.mpr ⟨dn.mpr (hS n h1),?_⟩,?_⟩,?_⟩
 .unfold NJ at h2 |-;rw[hr]at h2;rw[hB _ _ hr];exact h2
 .unfold V7 at h3 |-;rw[ed];exact h3
 .unfold Tg;rw[ed,(xH gA lA hB (xI gA lA hn)).2.2]
end
end Lw
namespace Lw
open PySem DL L2
def VC (d:D)(r:LD):gT (d::r) (some 1) none=r:=by
 simp_all[gT,HT.df]
def Am (aa:LD)(n:Nat):gT aa none (some (n:Int))=aa.take n:=by
 simp_all[gT,HT.GQ,HT.Lx]
def E4 {op:D->OB}{fa:FE}{ρ:DL.Env}{x:D}{b:Bool}{z:OB}(M:fa ρ=some (x,b))(e2:op x=z):f1 op fa ρ=z:=by unfold f1;rw[M];exact e2
def An (parts:LS)(aj:LD):gU (parts.map .str) aj=(parts.zip aj).map λx=>.tup [.str x.1,x.2]:=by
 induction parts generalizing aj with
 |nil=>rfl
 |cons a l M=>
  cases aj with
  |nil=>rfl
  |cons d r=>simp_all[gU]
def nF {α:Type}(l:List α):Mk [.lst (l.map λ_=>.bl true)]=some (.bl true,false):=by
 simp
noncomputable def sZ (c:Nat):Bool:=decide (97<=c) && decide (c<=122)
def Ao (c:Nat)(ρ:DL.Env)(h:ρ[0]? = some (some (.str ⟨#[c]⟩,false))):jG O5 O5 (fC (.str "a")) (am 0) (fC (.str "z")) ρ=some (.bl (sZ c),false):=by
 refine iO (b1:=false) (b2:=false) (b3:=false) ?_ ?_ ?_ (CT _ _) λ_=>CT _ _
 .rfl
 .simp[h]
 rfl
noncomputable def oM (z:Str):Bool:=(decide (1<=z.length) && decide (z.length<=8)) && z.cps.toList.all sZ
def Ap (z:Str):z.cps.toList.length=z.length:=by simp[Str.length]
def kE {z:Str}(h:oM z=true):kL [.str z]=some (.bl true,false):=by
 unfold oM at h;rw[vC,vC]at h;obtain⟨⟨h1,M⟩,ha⟩:=h;have hl:z.length<=sizeLine:=cf N9;refine ah rr (ao (b7 (p:=false) (q:=false) X9 λ_=>ba (p:=true) (bW ((iO (y:=.int z.length) (z:=.int 8) (b2:=false) (b4:=false) (p:=true) (q:=true) rr (by simp[hl]) rr s9 λ_=>by simp;lia).trans rr))) (ai (aI (ds:=[.lst (z.cps.toList.map λc=>.bl (sZ c))]) ?_ ?_)))
 .have:=fK (fi:=c9 (am 0)) (nT:=1) (cap:=[]) (tg:=eU 0) (ρ:=[some (.str z,false)]) z.cps.toList (λc=>.str ⟨#[c]⟩) _ (by simp[FM]) (by rw[Ap];lia) λc _=>
   ⟨_,rr,false,Ao c _ (by simp[cx])⟩
  exact a7 (b:=true) this rr
 simp_all
def v0 {d lo hi:Int}(h1:lo<=d)(h2:d<=hi):lR [.int d,.int lo,.int hi]=some (.bl true,false):=by
 refine ah rr (ai ((cj (p:=true) (b1:=false) X9 λ_=>(cj (Nb (p:=false) (b1:=false) X9) λ_=>(iO (b4:=false) (p:=true) rr rr rr s9 λ_=>by simp;lia).trans rr).trans rr).trans rr))
def NT {d:Int}(h1:0<=d)(h2:d<=9999):rJ [.int d]=some (.bl true,false):=ah rr (ai (aI rr (v0 h1 h2)))
def wa {z:Str}(h:oM z=true):lS [.str z]=some (.bl true,false):=ah rr (ai (aI rr (kE h)))
def BP {ps:LS}(h1:1<=ps.length)(M:ps.length<=8)(h:∀p∈ps,oM p=true):gZ [.tup (ps.map .str)]=some (.bl true,false):=by
 refine ah rr (ao (b7 (p:=false) X9 λ_=>ba (bW ((iO (y:=.int ps.length) (z:=.int 8) (b2:=false) (b4:=false) (p:=true) (q:=true) rr X9 rr s9 λ_=>by simp;lia).trans rr))) (ai (aI ?_ (nF ps))));have:=fK (fi:=c9 (am 0)) (nT:=1) (cap:=[]) (tg:=eU 0) (fe:=fA _ (ak (am 0) ay)) (ρ:=[some (.tup (ps.map .str),false)]) ps (λp=>.str p) _ X9 N9 λp hp=>
  ⟨_,rr,false,aI (by simp[cx]) (wa (h p hp))⟩
 exact a7 this rr
def cq {p q:Str}{v:D}{b:Bool}(h:decide (p=q)=b):bP (f2 lu (am 0) (fC (.str q))) [some (.str p,false),some (v,false)]=some b:=by simp_all
def c2 {p q r:Str}{v:D}(h:(decide (p=q) || decide (p=r))=false):lG (bP (f2 lu (am 0) (fC (.str q)))) (bP (f2 lu (am 0) (fC (.str r)))) [some (.str p,false),some (v,false)]=some false:=(b7 (cq rr) λ_=>cq rr).trans (by rw[h])
def c3 {p q r t:Str}{v:D}(h:(decide (p=q) || (decide (p=r) || decide (p=t)))=false):lG (bP (f2 lu (am 0) (fC (.str q)))) (lG (bP (f2 lu (am 0) (fC (.str r)))) (bP (f2 lu (am 0) (fC (.str t))))) [some (.str p,false),some (v,false)]=some false:=(b7 (cq rr) λ_=>b7 (cq rr) λ_=>cq rr).trans (by rw[h])
def c3t {p q r t:Str}{v:D}(h:(decide (p=q) || (decide (p=r) || decide (p=t)))=true):lG (bP (f2 lu (am 0) (fC (.str q)))) (lG (bP (f2 lu (am 0) (fC (.str r)))) (bP (f2 lu (am 0) (fC (.str t))))) [some (.str p,false),some (v,false)]=some true:=(b7 (cq rr) λ_=>b7 (cq rr) λ_=>cq rr).trans (by rw[h])
def xJ {p:Str}{v:D}(h0:(decide (p=("day" : Str)) || decide (p=("since" : Str)))=false)(hp:(decide (p=("office" : Str)) || (decide (p=("by" : Str)) || decide (p=("person" : Str))))=true)(h:kL [v]=some (.bl true,false)):di [.str p,v]=some (.bl true,false):=ah rr (ao (c2 h0) (aR (c3t hp) (ai (aI rr h))))
def Gj {v:D}(h:gZ [v]=some (.bl true,false)):di [.str "pieces",v]=some (.bl true,false):=ah rr (ao (c2 S9) (ao (c3 S9) (ao (cq S9) (ao (cq S9) (ao (cq S9) (ao (cq S9) (ao (cq S9) (ao (cq S9) (aR (cq S9) (ai (aI rr h)))))))))))
noncomputable def i7 (z:Str):Bool:=G5 (.str z) [.str "by",.str "person",.str "whom"]
def there:D->Bool
 |.non=>false
 |_=>true
@[simp] def Zy:there .non=false:=rfl
@[simp] def Zz (z:Str):there (.str z)=true:=rfl
@[simp] def Z0 (z:Int):there (.int z)=true:=rfl
@[simp] def Z1 (z:LD):there (.tup z)=true:=rfl
def Aq (d:D)(h:Fe d=false):qI d .non=some (.bl (there d),false):=by
 cases d<;>simp[there]at h |-
noncomputable def BQ (l:List (Str×D)):LD:=(l.filter λx=>i7 x.1 && there x.2).map (·.2)
structure Nm7 (zs:List Str):Prop where
 len:zs.length=7
 nd:zs.Nodup
 nm:∀z∈zs,oM z=true
noncomputable def off (zs:LS)(k:Nat):Str:=zs.getD (if k=0 then 5 else 6) ""
def Kj {zs:LS}(g:Nm7 zs):¬off zs 0=off zs 2:=by
 obtain⟨l,nd,_⟩:=g;match zs,l with
 |[a,b,c,d,e,f,g],_=>
  intro h;have h:f=g:=h;simp_all
structure DeedG (zs:List Str)(k:Nat)(h:Int)(kind:Str)(aj:List D):Prop where
 parts:∃(parts:List Str)(ss:List Str),y7 bX (.str kind)=some (.tup (parts.map .str),false)/\parts.length=aj.length/\(∀x∈parts.zip aj,di [.str x.1,x.2]=some (.bl true,false))/\BQ (parts.zip aj)=ss.map .str/\ss.length<=2/\∀s∈ss,s∈zs
 len:aj.length<=10
 flat:∀d∈aj,aP d=true/\Fe d=false
 day:(kind=("root" : Str)/\(k=0\/k=2)/\∃r,aj=.str (off zs k)::r)\/(kind≠("root" : Str)/\(∃(day:Int)(r:List D),aj=.int day::r/\day<=h/\0<=day/\(kind=("chosen" : Str)->∃a b c s,r=[a,b,c,.int s]/\day<=s))/\lP bX (.str kind) (.str "day")=some (.int 0,false))
def Ar (zs:LS)(k:Nat)(r:D):Prop:=∃h kind aj,r=row h kind aj/\0<=h/\h<=9999/\DeedG zs k h kind aj
def Pd (k q:Str):lu (.str k) (.str q)=some (.bl (decide (k=q)),false):=X9
noncomputable def xy0:D->{d//aP d=true}
 |.tup [_,.tup (.str _::.int d::_)]=>⟨.int d,rr⟩
 |_=>⟨.non,rr⟩
noncomputable def RZ (r:D):D:=(xy0 r).1
def NU {k:Nat}{h:Int}{kind:Str}{aj:LD}(g:DeedG zs k h kind aj):bo [row h kind aj]=some (RZ (row h kind aj),false):=by
 rcases g.day with⟨e,_,r,rfl⟩|⟨e,⟨day,r,rfl,_⟩,hi⟩
 .exact ah rr (aR (bW (eN (aI rr (bD _ _ _)) rr (by rw[Pd,mi e]))) (ai rr))
 .exact ah rr (ao (bW (eN (aI rr (bD _ _ _)) rr (by rw[Pd,oP e]))) (ai (aI rr (aS hi rr))))
def Kk {k:Nat}{h:Int}{kind:Str}{aj:LD}(g:DeedG zs k h kind aj):o0 [.tup (.str kind::aj)]=some (.bl true,false):=by
 obtain⟨parts,ss,hp,hl,ha,_⟩:=g.parts;have M:(bX.lookup kind).isSome=true:=by
  simp_all
 have hsz:=g.len;have O:f2 fu (am 0) (fC (.int 0)) [some (.tup (.str kind::aj),false)]=some (.str kind,false):=by simp[BC]
 have U:=E4 (x:=.str kind) (b:=false) O hp;refine ah rr (ao (b7 (p:=false) (q:=false) X9 λ_=>b7 (p:=false) (q:=false) (bW (b:=false) s9) λ_=>ba (p:=true) (bW (b:=false) (aI (a7 O rr) X9))) (ao (b7 (p:=false) (q:=false) (bW (b:=false) (E4 (x:=.str kind) (b:=false) O ?_)) λ_=>bW (b:=false) (eN (x:=.int ((aj.length+1:Nat):Int)) (y:=.int (1+(parts.length:Int))) (b1:=false) (b2:=false) X9 (eN (x:=.int 1) (y:=.int parts.length) (b1:=false) (b2:=false) rr (aI (a7 U rr) X9) X9) ?_)) (ai (aI (ds:=[.lst ((parts.zip aj).map λ_=>.bl true)]) ?_ (nF _)))))
 .simp only[Bd,M];rfl
 .simp;lia
 .have:=fK (fi:=Fi (f1 (y7 bX) _) (G6 (am 0) (jK (fC (.int 1))) lw)) (nT:=2) (cap:=[]) (tg:=HQ [0,1]) (fe:=fA di (ak (am 0) (ak (am 1) ay))) (parts.zip aj) (λx=>.tup [.str x.1,x.2]) (λ_=>.bl true)
   (by
    show(f1 (y7 bX) _ _).bind _=_;rw[U];simp[VC,An]) (by rw[length_zip];lia) λx hx=>by
    exact⟨_,rr,false,aI (by simp[cx]) (ha x hx)⟩
  exact a7 (b:=true) this rr
def Gk (r:D):aP (RZ r)=true:=(xy0 r).2
def BR {k:Nat}{h:Int}{kind:Str}{aj:LD}(g:DeedG zs k h kind aj):jX [row h kind aj]=some (.bl true,false):=by
 have hd:=NU g;have M:∀ {hh:FS}{r:Option Res},hh _=r->ce (eM 1 (fA bo (ak (am 0) ay))) hh [some (row h kind aj,false),none]=r:=λe=>xl (b:=false) (aI rr hd) (Gk _) e;rcases g.day with⟨e,_,r,rfl⟩|⟨e,⟨day,r,rfl,U,d,O⟩,hi⟩
 .exact ah rr (M (aR (bW (b:=false) (eN (x:=.non) (y:=.non) rr rr (by simp[Fd]))) (ai rr)))
 .refine ah rr (M (ao (bW (b:=false) (eN (x:=.int day) (y:=.non) (b1:=false) rr rr (by simp[Fd]))) (ao ((cR (q:=false) (bW (b:=false) (eN (b2:=false) (aI rr (bD _ _ _)) rr (Pd _ _))) λhc=>?_).trans (by rw[Bool.and_false])) (ai ?_))))
  .have hc:=xQ hc;subst hc;obtain⟨a,b,c,s,rfl,hs⟩:=O rr;refine bW (b:=false) (eN (y:=.int day) (aI rr (aS (i:=4) (xj S9) rr)) rr ?_);simp;lia
  .refine eN (x:=.int day) (y:=.int h) (b1:=false) (b2:=false) rr (by simp[row,BC]) ?_;simp;lia
def NV {k:Nat}{r:D}(g:Ar zs k r):rK [r]=some (.bl true,false):=by
 obtain⟨h,kind,aj,rfl,h0,h1,g⟩:=g;refine ah rr (ao (b7 (p:=false) (by simp[row]) λ_=>by simp[row]) (ai ((cj (aI (by simp[row,BC]) (NT h0 h1)) λ_=>(cj (aI (by simp[row,G7]) (Kk g)) λ_=>aI rr (BR g)).trans rr).trans rr)))
noncomputable def E5:D->Str
 |.tup [_,.tup (_::.str o::_)]=>o
 |_=>("" : Str)
def NW:lP bX (.str "root") (.str "office")=some (.int 0,false):=xj S9
def tj {k:Nat}{r:D}(g:Ar zs k r)(h:aG r=true):av [r,.str "office"]=some (.str (E5 r),false)/\E5 r=off zs k/\(k=0\/k=2):=by
 obtain⟨a,kind,aj,rfl,_,_,g⟩:=g;have h:=xQ h;subst h;rcases g.day with⟨_,hk,r,rfl⟩|⟨e,_⟩
 .exact⟨aS NW rr,rr,hk⟩
 simp_all
def tm {k:Nat}{r:D}(g:Ar zs k r):aZ [r]=some (.str (kindOf r),false):=by
 obtain⟨a,kind,aj,rfl,_⟩:=g;exact bD _ _ _
def NX (k:Str)(ws:LS):HB (.str k) (.lst (ws.map .str))=some (.bl (decide (k∈ws)),false):=by
 simp only[HB,f7,vJ,nn];rw[if_pos ⟨rr,kQ ws⟩]
def As (zs:LS)(aa:LD):Prop:=(aa.length<=24/\Nm7 zs)/\∀(j:Nat) r,aa[j]? = some r->Ar zs j r
def As.mem {aa:LD}(g:As zs aa){r:D}(h:r∈aa):∃k,Ar zs k r:=by
 obtain⟨j,hj⟩:=mem_iff_getElem?.mp h;exact⟨j,g.2 j r hj⟩
def Gm {aa:LD}(g:As zs aa){i:Nat}{r:D}(hr:aa[i]? = some r):eZ [.tup (aa.take i),r]=some (.bl false,false):=by
 have k:=g.2 i r hr;have l:=g.1.1;refine ah rr (ai ((cj (p:=aG r) (q:=false) (b1:=false) (eN (b1:=false) (b2:=false) (aI (ds:=[r]) rr (tm k)) rr (Pd _ _)) λO=>?_).trans (by rw[Bool.and_false])));obtain⟨ho,a,hk⟩:=tj k O;have M:∀x∈aa.take i,∃j,j<i/\Ar zs j x:=λx hx=>by
  obtain⟨j,hj⟩:=mem_iff_getElem?.mp hx;rw[List.getElem?_take]at hj;split at hj
  .rename_i m;exact⟨j,m,g.2 j x hj⟩
  simp_all
 have hc:=cS (fi:=c9 (am 0)) (nT:=1) (cap:=[]) (tg:=eU 0) (c:=bP (f2 lu (fA aZ (ak (am 0) ay)) (fC _))) (fe:=fA av (ak (am 0) (ak (fC (.str "office")) ay))) (ρ:=[some (.tup (aa.take i),false)]) (aa.take i) (λx=>x) aG _ X9 s9 λx hx=>by
  obtain⟨j,hj,U⟩:=M x hx;exact⟨_,rr,bW (b:=false) (eN (x:=.str (kindOf x)) (b1:=false) (b2:=false) (aI (ds:=[x]) (by simp[cx]) (tm U)) rr (Pd _ _)),λhx=>⟨false,aI (by simp[cx]) (tj U hx).1⟩⟩
 have d:g9 [.tup (aa.take i)]=some (.lst ((((aa.take i).filter aG).map E5).map .str),true):=by
  rw[uP];exact ah rr (ai hc)
 refine eN (x:=.str (E5 r)) (b1:=false) (b2:=true) (aI rr ho) (aI rr d) ?_;rw[NX];congr 3;refine oP λn=>?_;obtain⟨x,hx,e⟩:=vO n;obtain⟨hx,f⟩:=vN hx;obtain⟨j,hj,U⟩:=M x hx;obtain⟨_,h,o⟩:=tj U f;rw[a,h]at e;have:=Kj g.1.2;lia
theorem Au:∀(ss M:LS){x:Str},x∈ss.foldl j4 M->x∈M\/x∈ss
 |[],M,x,h=>.inl h
 |y::ss,M,x,h=>by
  rcases Au ss _ h with h|h
  .rcases yD.mp h with h|h
   .exact .inl h
   simp_all
  simp_all
theorem tq:∀(ss M:LS),M.Nodup->(ss.foldl j4 M).Nodup
 |[],M,h=>h
 |y::ss,M,h=>tq ss _ (qN h y)
theorem Av {ss:LS}{x:Str}(h:x∈f9 ss):x∈ss:=by
 rcases Au ss [] h with h|h
 .cases h
 .exact h
theorem Aw:∀(l m:LS),l.Nodup->(∀x∈l,x∈m)->l.length<=m.length
 |[],m,_,_=>uN _
 |x::l,m,h,s=>by
  rw[nodup_cons]at h;have:=Aw l _ h.2 λy hy=>(List.mem_erase_of_ne (b:=x) (λe=>h.1 (by rw[<-e];exact hy))).mpr (s y (mZ _ hy));grind
def Kl {h:Int}{kind:Str}{aj:LD}{parts:LS}(hp:y7 bX (.str kind)=some (.tup (parts.map .str),false)):gD [row h kind aj]=some (.lst ((parts.zip aj).map λx=>.tup [.str x.1,x.2]),true):=by
 refine ah rr (ai ?_);have M:f1 _ (fA _ (ak (am 0) ay)) [some (row h _ aj,false)]=some _:=E4 (aI rr (bD h _ _)) hp;have e2:G6 (f2 fu (am 0) (fC (.int 1))) (jK (fC (.int 1))) lw [some (row h kind aj,false)]=some (.tup aj,false):=by simp[row,G7,VC]
 show(((f1 _ _ [some _]).bind λx=>(G6 _ _ _ [some _]).bind _).map _)=_;rw[M,e2];simp[An]
def Gn {k:Nat}{r:D}(g:Ar zs k r):∃ss:LS,hJ [r]=some (.lst (ss.map .str),true)/\ss.length<=2/\∀s∈ss,s∈zs:=by
 obtain⟨h,kind,aj,rfl,_,_,g⟩:=g;obtain⟨parts,ss,hp,hl,_,hk,O,a⟩:=g.parts;have M:=cS (fi:=c9 (fA gD (ak (am 0) ay))) (nT:=2) (cap:=[]) (tg:=HQ [0,1]) (c:=iE (bP (f2 HB (am 0) (fC gy))) (bP (f2 qI (am 1) (fC .non)))) (fe:=am 1)
  (ρ:=[some (row h kind aj,false),none]) (parts.zip aj) (λx=>.tup [.str x.1,x.2]) (λx=>i7 x.1 && there x.2) (·.2) (by
   have d:fA gD (ak (am 0) ay) [some (row h kind aj,false),none]=_:=aI rr (Kl hp);simp_all) (by
   have:=g.len;simp<;>lia) λx hx=>by
   have U:=(g.flat x.2 (of_mem_zip hx).2);refine⟨_,rr,cR (bW (b:=false) ?_) λ_=>bW (b:=false) ?_,λ_=>⟨false,?_⟩⟩
   .rfl
   .exact eN (x:=x.2) (y:=.non) (b1:=false) (b2:=false) (by simp[cx]) rr (Aq _ U.2)
   rfl
 refine⟨mG (f9 ss),ah rr (bx ?_ (bH ss) (ai ?_)),?_,?_⟩
 .exact hk ▸ M
 .simp<;>lia
 .rw[(cW _).length_eq];exact vR (mE ss) O
 .grind[Av,cW]
def Go {aa:LD}(g:∀r∈aa,∃k,Ar zs k r)(hl:aa.length<=60)(O:zs.length=7):∃n:Nat,gE [.tup aa]=some (.int n,false)/\n<=7:=by
 obtain⟨ρ',e,ys,v,rfl,hz,M⟩:=dZ (tg:=eU 2) (g:=pK) (λi ρ=>∃(ys:LS)(v:OB),ρ=[some (.tup aa,false),some (.lst (ys.map .str),true),v]/\ys.length<=2*i/\∀z∈ys,z∈zs) aa
  _ ⟨[],none,rr,X9,X9⟩ (by
   rintro i d ρ hd ⟨ys,v,rfl,hz,M⟩;have hi:=(vV hd).1;obtain⟨k,gd⟩:=g d (vL hd);obtain⟨ss,hp,U,a⟩:=Gn gd;have hsz:(ys.map D.str).length+(ss.map D.str).length<=sizeLine:=cf s9;refine⟨_,[some _,some _,some (d,false)],rr,.inl ?_,ys++ss,some (d,false),rr,s9,?_⟩
   .have hv:fA hJ (ak (am 2) ay) [some (.tup aa,false),some (.lst (ys.map .str),true),some (d,false)]=some _:=aI (ds:=[d]) rr hp;show HY 1 _ [some _,some _,some (d,false)]=_;simp only[HY,List.getElem?_cons_succ,List.getElem?_cons_zero,hv,vJ];rw[if_pos ⟨trivial,bH ss,hsz⟩];simp
   grind)
 refine⟨(f9 ys).length,ah rr (bx (ds:=[]) q9 rr (c7 (fP (ds:=aa) (by simp[iF]) e) (ai (E4 (b:=false) rr ?_)))),?_⟩
 .simp<;>lia
 .exact vR (Aw (f9 ys) zs (tq ys [] nodup_nil) λz hz=>M z (Av hz)) (le_of_eq O)
def BS {aa:LD}(g:As zs aa){i:Nat}(hi:i<aa.length):jh [.tup aa,.int i]=some (.bl false,false):=by
 obtain⟨r,hr⟩:∃r,aa[i]? = some r:=⟨_,vU hi⟩;have ha:=bg hr;have U:=g.1.1;have M:∀ρ:DL.Env,ρ[0]? = some (some (.tup aa,false))->ρ[1]? = some (some (.int i,false))->f2 fu (am 0) (am 1) ρ=some (r,false):=λρ h0 h1=>by simp[h0,h1,ha]
 obtain⟨n,hn,a⟩:=Go (λx hx=>g.mem (mem_of_mem_take hx)) s9 g.1.2.len;have O:=Am aa (i+1);refine ah rr (ao (b7 (p:=false) (q:=false) (bW (b:=false) (by simp[jW];lia)) λ_=>ba (p:=true) (bW (b:=false) (aI (ds:=[r]) (a7 (M _ rr rr) rr) (NV (g.2 i r hr))))) (ai ((uI (p:=false) (q:=false) (aI (a7 (b:=false) (by simp[Am]) (a7 (M _ rr rr) rr)) (Gm g hr)) λ_=>eN (y:=.int 20) (b2:=false) (aI (a7 (b:=false) (by simp;exact O) rr) hn) rr s9).trans rr)))
def Ax {aa:LD}(g:As zs aa)(hf:aV aa=true)(d:D)(hd:d=.lst aa\/d=.tup aa):fy [d]=some (.tup aa,false):=by
 have hl:=g.1.1;obtain⟨ρ',e,v,rfl⟩:=mO (tg:=eU 2) (g:=rL) _ (λi ρ=>∃v:Option _,ρ=[some (d,false),some (.tup aa,false),v])
  _ ⟨none,rr⟩ (by
   rintro i ρ hi ⟨v,rfl⟩;exact⟨_,_,rr,.inl (je (bW (aI rr (BS g hi))) rr),some _,rr⟩)
 refine ah rr (ao (ba (p:=true) (bW (b:=false) (aI (a7 rr (a7 (d:=.tup [.ty "list",.ty "tuple"]) (b:=false) q9 rr)) ?_))) (xl (b:=false) (aI rr ?_) (by simp[hf]) (c7 (mQ (iN (b:=false) X9 N9) e) (kK rr))))
 .rcases hd with rfl|rfl<;>simp
 .rcases hd with rfl|rfl<;>simp
end Lw
namespace Lw
open PySem PySem.Spec DL L2
def BU (a:Int){m:Int}(h:0<m):jH (.int a) (.int m)=some (.int (a % m),false):=by simp[h]
def VD (a:Int){m:Int}(h:0<m)(h2:m<1073741824):fO (.int a) (.int m)=some (.int (a / m),false):=by simp[h,h2]
def im {f:FE}{ρ:DL.Env}{a m:Int}(e:f ρ=sI a)(h:0<m):f2 jH f (fI m) ρ=sI (a % m):=aY _ _ e rr (BU a h)
def pP {f:FE}{ρ:DL.Env}{a m:Int}(e:f ρ=sI a)(h:0<m)(h2:m<1073741824):f2 fO f (fI m) ρ=sI (a / m):=aY _ _ e rr (VD a h h2)
def BV (a:Int){b:Int}(h : -1000000<=b/\b<=1000000):yu (.int a) (.int b)=some (.int (a*b),false):=by
 have : -18446744073709551616<b/\b<18446744073709551616:=N9
 simp[this]
def xK {k:Int}(h : -1000000000000<=k/\k<=1000000000000):Builtin.Int.intBits k<=64:=intBits_le_64 N9 N9
def nG {ns:LI}(hf:SY ns)(k:Nat)(hk:k<=100):∃c:Int,nc [.lst (ns.map .int),.int k]=sI c:=by
 have M:∀ρ:DL.Env,ρ[0]? = some (sL (ns.map .int))->fA lI (fV 0 ay) ρ=sI ns.length:=λρ h=>by
  simp_all
 have dQ:∀v:Int,Builtin.Int.intBits v<=2097152->yg (f2 jH (f2 Vt (am 2) (am 2)) (fI 2147483647)) [sL (ns.map .int),sI k,sI v]=some (.rt (.int (v*v % 2147483647)) false):=λv hv=>
  ai (im (aY (.int v) (.int v) rr rr (by simp[hv])) H9)
 by_cases h:k<ns.length
 .refine⟨ns.getD k 0,ah rr (aR (cm (aY (.int k) (.int ns.length) rr (M _ rr) s9)) (ai (aY (.lst (ns.map .int)) (.int k) rr rr ?_)))⟩;have:=CU (xs:=ns) (i:=k) N9 (by simpa using h);rw[Int.toNat_natCast]at this;exact this
 .have U:Builtin.Int.intBits (90001*(k:Int)+43)<=64:=xK N9;have e:f2 j0 (f2 yu (fI 90001) (am 1)) (fI 43) [sL (ns.map .int),sI k,none]=sI (90001*k+43):=aY (.int (90001*k)) (.int 43) (aY (.int 90001) (.int k) rr rr (BV _ N9)) rr rr;have f:bP (f2 UE (am 1) (fA lI (fV 0 ay))) [sL (ns.map .int),sI k,none]=some false:=cm (aY (.int k) (.int ns.length) rr (M _ rr) s9);by_cases hz:0<ns.length
  .have O:(0:Int)<ns.length:=N9
   have h5:=mod_lt (x:=(k:Int)*37) O;obtain⟨j,hj⟩:∃j:Nat,(k:Int)*37 % ns.length=j:=⟨((k:Int)*37 % ns.length).toNat,N9⟩;have a:j<ns.length:=N9
   have hb:Builtin.Int.intBits (ns.getD j 0)<=1048576:=hf _ (by grind);have ei:f2 fu (am 0) (f2 jH (f2 yu (am 1) (fI 37)) (fA lI (fV 0 ay))) [sL (ns.map .int),sI k,sI (90001*k+43)]=sI (ns.getD j 0):=by
    refine aY (.lst (ns.map .int)) (.int j) rr (hj ▸ aY (.int (k*37)) (.int ns.length) (aY (.int k) (.int 37) rr rr (BV _ H9)) (M _ rr) (BU _ O)) ?_;have:=CU (xs:=ns) (i:=j) N9 (by simpa using a);rw[Int.toNat_natCast]at this;exact this
   generalize ns.getD j 0=x at hb ei;have b:(k:Int)*k<=10000/\0<=(k:Int)*k:=by
    have h1:k*k<=100*100:=Nat.mul_le_mul hk hk;grind
   have ev:f2 j0 (f2 j0 (f2 yu _ (fI 16807)) (f2 yu (f2 yu (am 1) (am 1)) (fI 9001))) (fI 23) [sL (ns.map .int),sI k,sI (90001*k+43)]=sI (x*16807+k*k*9001+23):=
    aY (.int (x*16807+k*k*9001)) (.int 23) (aY (.int (x*16807)) (.int (k*k*9001)) (aY (.int x) (.int 16807) ei rr (BV _ H9)) (aY (.int (k*k)) (.int 9001) (aY (.int k) (.int k) rr rr (BV _ N9)) rr (BV _ H9)) rr) rr rr
   generalize (k:Int)*k=y at b ev;have d:Builtin.Int.intBits (x*16807+y*9001+23)<=2097152:=by
    have h1:=intBits_mul_le hb (xK (k:=16807) H9);have h2:=intBits_add_le h1 (xK (k:=y*9001) N9);have h3:=intBits_add_le h2 (xK (k:=23) H9);exact vR h3 H9
   exact⟨_,ah rr (ao f (eQ (.int (90001*k+43)) e rr (c7 (pJ (cm (aY (.int ns.length) (.int 0) (M _ rr) rr s9)) (iM ev rr)) (dQ _ d))))⟩
  .refine⟨_,ah rr (ao f (eQ (.int (90001*k+43)) e rr (c7 (je (cm (aY (.int ns.length) (.int 0) (M _ rr) rr (by rw[show(ns.length:Int)=0 by lia];rfl))) rr) (dQ (90001*k+43) (vR U H9)))))⟩
def Sa {ρ:DL.Env}{i n:Nat}{ds:LD}{M O:FE}{d:D}{b b':Bool}(e:ρ[i]? = some (some (.lst ds,true)))(ev:O ρ=some (d,b))(ek:M ρ=some (.int n,b'))(hn:n<ds.length)(hf:aP d=true):Mu i M O ρ=some (.nx (ρ.set i (some (.lst (ds.set n d),true)))):=by
 simp_all[G4]
def Pe (x:Int):0<=x % 26/\x % 26<26:=mod_lt H9
noncomputable def tu:PySem.Str:="qwertyuiopasdfghjklzxcvbnm"
def Gp:tu.cps.size=26:=S9
def NY (x:Int):Nat:=tu.cps.toList.getD (x % 26).toNat 0
def Km (x:Int):fu (.str tu) (.int (x % 26))=sS ⟨#[NY x]⟩:=DL.AM (Pe x).1 (by simp_all[Gp,Pe]) S9
def Kn:∀i:_root_.Fin 26,sZ (tu.cps.toList.getD i.val 0)=true:=S9
def Ko:∀i j:_root_.Fin 26,tu.cps.toList.getD i.val 0=tu.cps.toList.getD j.val 0->i=j:=S9
def E6 (x:Int):sZ (NY x)=true:=Kn ⟨(x % 26).toNat,N9⟩
def NZ {x y:Int}(h:NY x=NY y):x % 26=y % 26:=by
 have:=Ko ⟨(x % 26).toNat,N9⟩ ⟨(y % 26).toNat,N9⟩ h;grind
def sg (cs:LN):LS:=cs.map λc=>⟨#[c]⟩
theorem Kp:∀cs:LN,((sg cs).map (·.length)).sum=cs.length
 |[]=>rr
 |c::cs=>by
  show 1+((sg cs).map _).sum=cs.length+1;rw[Kp cs];lia
theorem Ay:∀(zs:LS)(y:Str),(Str.join ("" : Str) (y::zs)).cps.toList=(y::zs).flatMap λz=>z.cps.toList
 |[],y=>by rw[flatMap_cons,List.flatMap_nil,uQ];rfl
 |z::r,y=>by
  have M:∀a b:Str,(a++b).cps.toList=a.cps.toList++b.cps.toList:=λa b=>by show(a.cps++b.cps).toList=_;simp
  show(y++("" : Str)++Str.join _ _).cps.toList=_;rw[M,M,Ay r z,show("" : Str).cps.toList=[]from rr,uQ];rfl
def Kq {zs:LS}(h:zs≠[]):(Txt.join ("" : Str) zs).cps.toList=zs.flatMap λz=>z.cps.toList:=by
 cases zs with
 |nil=>exact absurd rr h
 |cons y zs=>
  simp_all[Txt.join,StrLaws.glued_eq_join,Ay]
def BW {cs:LN}(h:cs≠[]):(Txt.join ("" : Str) (sg cs)).cps.toList=cs:=by
 simp_all[Kq,sg,List.flatMap_map]
def VE {cs:LN}(h1:1<=cs.length)(M:cs.length<=8)(hl:∀c∈cs,sZ c=true):oM (Txt.join ("" : Str) (sg cs))=true:=by
 have e:=BW (cs:=cs) (λz=>by rw[z]at h1;cases h1);unfold oM;rw[<-Ap];simp_all
def Oa (cs:LN)(h:cs.length<=1000):HN (.str "") (.lst ((sg cs).map .str))=sS (Txt.join ("" : Str) (sg cs)):=by
 show(eP _).bind _=_;rw[nu];show(if _ then _ else _)=_;rw[Kp,show("" : Str).length=0 from rr,if_pos N9]
def Kr (c:Int):∃zs:LS,o4 [.int c]=lT (zs.map .str)/\Nm7 zs:=by
 have t:=mod_lt (x:=c) (m:=8) H9;obtain⟨n,hn⟩:∃n:Nat,1+c % 8=n:=⟨(1+c % 8).toNat,N9⟩;let bs:LN:=(List.range n).map λ(k:Nat)=>NY (c / (7+3*k));have O:bs.length=n:=by simp[bs]
 have f:∀x∈bs,sZ x=true:=λx hx=>by obtain⟨k,_,rfl⟩:=vO hx;exact E6 _
 have hb:=fK (fi:=lJ (f2 j0 (fI 1) (f2 jH (am 0) (fI 8)))) (nT:=1) (cap:=[1,0]) (tg:=eU 0) (fe:=f2 fu (am 1) (f2 jH (f2 fO (am 2) (f2 j0 (fI 7) (f2 yu (fI 3) (am 0)))) (fI 26)))
  (ρ:=[sI c,sS tu,none,none,none,none,none]) (List.range n) (λ(k:Nat)=>.int k) _
  (by rw[iN (j:=n) (b:=false) (hn ▸ aY (.int 1) (.int (c % 8)) rr (im rr H9) rr) N9,FK,uP];rfl) s9 λk hk=>by
   have hk:=mem_range.mp hk;exact⟨_,rr,false,aY (.str tu) (.int (c / (7+3*k) % 26)) rr (im (aY (.int c) (.int (7+3*k)) rr (aY (.int 7) (.int (3*k)) rr (aY (.int 3) (.int k) rr rr (BV _ N9)) rr) (VD _ N9 N9)) H9) (Km _)⟩
 have o:(List.range n).map (λ(k:Nat)=>D.str ⟨#[NY (c / (7+3*k))]⟩)=(sg bs).map .str:=by simp[sg,bs]
 rw[o]at hb;have r:=mod_lt (x:=c / 8) (m:=n) N9;obtain⟨a,ha⟩:∃a:Nat,c / 8 % n=a:=⟨(c / 8 % n).toNat,N9⟩;have U:a<bs.length:=N9
 let nm:Nat->LN:=λi=>bs.set a (NY (c / 64+3*i));have M:∀i,(nm i).length=n:=λi=>by simp[nm,O]
 obtain⟨ρ',e,p,q,rfl⟩:=mO (tg:=eU 5) (g:=B9) 7 (λi ρ=>∃p q:OB,ρ=[sI c,sS tu,lT ((sg bs).map .str),sI a,lT (((List.range i).map λi=>Txt.join ("" : Str) (sg (nm i))).map .str),p,q])
  _ ⟨none,none,rr⟩ (by
   rintro i ρ hi ⟨p,q,rfl⟩;have es:((sg bs).map D.str).set a (.str ⟨#[NY (c / 64+3*i)]⟩)=(sg (nm i)).map .str:=by simp only[sg,nm,uP,List.map_set,Function.comp]
   refine⟨_,_,rr,.inl (bx (ds:=(sg bs).map .str) X9 (bH _) (c7 (Sa (n:=a) (ds:=(sg bs).map .str) (d:=.str ⟨#[NY (c / 64+3*i)]⟩) (b:=false) (b':=false) rr ?_ rr (by simpa [sg]using U) rr) (jT (d:=.str (Txt.join ("" : Str) (sg (nm i)))) (b:=false) rr ?_ rr (bw s9)))),some (.int i,false),some (.lst ((sg (nm i)).map .str),true),?_⟩
   .exact aY (.str tu) (.int ((c / 64+3*i) % 26)) rr (im (aY (.int (c / 64)) (.int (3*i)) (pP rr H9 H9) (aY (.int 3) (.int i) rr rr (BV _ N9)) rr) H9) (Km _)
   .rw[es];exact aY (.str "") (.lst ((sg (nm i)).map .str)) rr rr (Oa _ (by rw[M];lia))
   .rw[es,List.range_succ];simp)
 refine⟨(List.range 7).map λi=>Txt.join ("" : Str) (sg (nm i)),ah rr (eQ (.str tu) rr rr (bx hb (bH _) (eQ (.int a) ?_ rr (bx (ds:=[]) q9 rr (c7 (mQ (iN (j:=7) (b:=false) rr H9) e) (kK rr)))))),X9,?_,λz hz=>?_⟩
 .rw[<-ha];refine aY (.int (c / 8)) (.int n) (pP rr H9 H9) ?_ (BU _ N9);refine a0 [.lst ((sg bs).map .str)] (aM rr rr) ?_;rw[jf];simp[sg,O]
 .refine pairwise_map.mpr (List.Pairwise.imp_of_mem ?_ (List.nodup_range (n:=7)));intro i j hi hj s e;have e:=congrArg (λz:Str=>z.cps.toList) e;have e:nm i=nm j:=by
   have h1:∀i,nm i≠[]:=λi z=>by have:=M i;rw[z]at this;simp at this;lia
   simpa only[BW (h1 i),BW (h1 j)]using e
  have e:=congrArg (λl:LN=>l[a]?) e;simp only[nm,getElem?_set_self U,Option.some.injEq]at e;have:=NZ e;have hi:=mem_range.mp hi;have hj:=mem_range.mp hj;lia
 .obtain⟨i,_,rfl⟩:=vO hz;refine VE (by rw[M];lia) (by rw[M];lia) λx hx=>?_;rcases List.mem_or_eq_of_mem_set hx with h|h
  .exact f x h
  .rw[h];exact E6 _
def PV (p:Str)(d:D):Bool:=XY (di [.str p,d]) (.bl true) false
def ju:LS->LD->Bool
 |p::ps,d::ds=>PV p d && ju ps ds
 |_,_=>true
theorem kX:∀ {ps:LS}{ds:LD},ju ps ds=true->∀x∈ps.zip ds,di [.str x.1,x.2]=some (.bl true,false)
 |[],_,_,x,h=>by simp at h
 |_::_,[],_,x,h=>by simp at h
 |p::ps,d::ds,h1,x,h=>by
  have h1:=(vC _ _ ▸ h1:PV p d=true/\ju ps ds=true);rcases vP h with rfl|h
  .exact xj h1.1
  .exact kX h1.2 x h
def aB {p:Str}{d:D}{ps:LS}{ds:LD}(h:PV p d=true)(r:ju ps ds=true):ju (p::ps) (d::ds)=true:=by unfold ju;rw[h,r];rfl
def jv:∀n:_root_.Fin 16,PV "day" (.int (n.val:Int))=true:=S9
def Pf:∀n:_root_.Fin 30,PV "of" (.int (n.val:Int))=true:=S9
def Ks:∀n:_root_.Fin 4,PV "further" (.int (n.val:Int))=true:=S9
noncomputable def MK:LN:=[1,2,3,5,7]
def xL:∀m∈MK,PV "matters" (.int ((m:Nat):Int))=true:=S9
def BX:∀m∈MK,m∈MS:=H9
noncomputable def Ob (d:Nat):List (Int×OI):=[(0,none),(0,some 30),(1,some 20),(d,some (d+8)),(d+1,none),(0,some 40)]
def xM:∀d:_root_.Fin 16,∀x∈Ob d.val,PV "stretch" (iT x)=true:=S9
def Kt:∀n:_root_.Fin 18,PV "since" (.int (n.val:Int))=true:=S9
def wb {p:Str}{d:D}(h:di [.str p,d]=some (.bl true,false)):PV p d=true:=by unfold PV;rw[h];rfl
def t0 {z:Str}(h:oM z=true):PV "by" (.str z)=true:=wb (xJ S9 S9 (kE h))
def Az {z:Str}(h:oM z=true):PV "person" (.str z)=true:=wb (xJ S9 S9 (kE h))
def xN {z:Str}(h:oM z=true):PV "office" (.str z)=true:=wb (xJ S9 S9 (kE h))
def Ku:PV "whom" .non=true:=S9
def VF {z:Str}(h:oM z=true):PV "whom" (.str z)=true:=
 wb (ah rr (ao (c2 S9) (ao (c3 S9) (aR (cq S9) (ai ((uI (p:=false) (b1:=false) (by simp ) λ_=>a0 _ rr (kE h)).trans rr))))))
def Sb {ps:LS}(h1:1<=ps.length)(M:ps.length<=8)(h:∀p∈ps,oM p=true):PV "pieces" (.tup (ps.map .str))=true:=wb (Gj (BP h1 M h))
def Sc {c:Nat}{z:Str}(hc:c<3)(h:oM z=true):PV "changes" (.tup [.tup [.int (c:Int),.str z]])=true:=by
 have M:hG [.tup [.int (c:Int),.str z]]=some (.bl true,false):=ah rr (ao (b7 (p:=false) (q:=false) X9 λ_=>by simp) (ai ((cj (p:=true) (q:=true) (b1:=false) (a0 [.int (c:Int),.int 0,.int 7] (by simp[BC,ir]) (v0 N9 N9)) λ_=>a0 [.str z] (by simp[G7]) (wa h)).trans rr)));have h1:=fK (fi:=c9 (am 0)) (nT:=1) (cap:=[]) (tg:=eU 0) (fe:=fA hG (fV 0 ay)) (ρ:=[sT [.tup [.int (c:Int),.str z]],none]) [()] _ (λ_=>.bl true) rr H9 λ_ _=>⟨[sT [.int (c:Int),.str z]],rr,false,a0 [.tup [.int (c:Int),.str z]] rr M⟩;have h2:=fK (fi:=c9 (am 0)) (nT:=1) (cap:=[]) (tg:=eU 0) (fe:=jx 0 0) (ρ:=[sT _,none]) [()] _ (λ_=>.int (c:Int)) rr H9 λ_ _=>⟨[sT [.int (c:Int),.str z]],rr,false,by simp[BC]⟩;have h3:=fK (fi:=Fi (am 1) (G6 (am 1) (jK (fI 1)) lw)) (nT:=2) (cap:=[]) (tg:=HQ [0,1]) (fe:=f2 UE (am 0) (am 1)) (ρ:=[sT [.tup [.int (c:Int),.str z]],lT [.int (c:Int)]]) ([]:List Unit) (λ_=>.non) (λ_=>.bl true) I9 H9 λ_ h=>nomatch h;have O:jg [.tup [.tup [.int (c:Int),.str z]]]=some (.bl true,false):=ah rr (ao (b7 (p:=false) (q:=false) X9 λ_=>ba (p:=true) (bW (b:=false) (aI (ds:=[.lst [.bl true]]) (a7 (b:=true) h1 rr) (nF [()])))) (bx (ds:=[.int (c:Int)]) h2 rr (ai (aI (ds:=[.lst []]) (a7 (b:=true) h3 rr) (nF ([]:List Unit))))));exact wb (ah rr (ao (c2 S9) (ao (c3 S9) (ao (cq S9) (ao (cq S9) (ao (cq S9) (ao (cq S9) (ao (cq S9) (ao (cq S9) (ao (cq S9) (ai (aI rr O))))))))))))
def Z2:i7 ("office" : Str)=false:=S9
def ip2:i7 ("matters" : Str)=false:=S9
def ip3:i7 ("further" : Str)=false:=S9
def Ya:i7 ("day" : Str)=false:=S9
def Z3:i7 ("person" : Str)=true:=S9
def ip8:i7 ("by" : Str)=true:=S9
def Z4:i7 ("of" : Str)=false:=S9
def Pg {zs:LS}{k day:Nat}{h:Int}{kind:Str}{r:LD}(parts ss:LS)(hc:y7 bX (.str kind)=some (.tup (parts.map .str),false))(hl:parts.length=(D.int (day:Int)::r).length)(hp:ju parts (.int (day:Int)::r)=true)(hk:BQ (parts.zip (.int (day:Int)::r))=ss.map .str)(O:∀s∈ss,s∈zs)(hf:(r.all λd=>aP d && !Fe d)=true)(hd:(day:Int)<=h)(h2:decide (ss.length<=2)=true:=by rfl)(M:decide (r.length<=9)=true:=by rfl)(hr:(decide (kind = "root") || decide (kind = "chosen"))=false:=by decide +kernel)(hi:lP bX (.str kind) (.str "day")=sI 0:=by exact bK):DeedG zs k h kind (.int (day:Int)::r):=
 have hr:=Bool.or_eq_false_iff.mp hr
 ⟨⟨parts,ss,hc,hl,kX hp,hk,xQ h2,O⟩,by grind,λd hd=>by
  rcases vP hd with rfl|hd
  .exact⟨rr,rr⟩
  grind,.inr ⟨of_decide_eq_false hr.1,⟨day,_,rr,hd,N9,λe=>absurd e (of_decide_eq_false hr.2)⟩,hi⟩⟩
def E7 (x:Int×OI):(aP (iT x) && !Fe (iT x))=true:=by rw[ky];rfl
structure Dw (zs:List Str)(k day:Nat)(kind:Str)(aj:List D):Prop where
 dd:Dd kind aj
 g:∀h:Int,(day:Int)<=h->DeedG zs k h kind aj
 w:∀h:Int,pO (row h kind aj)
 p:kind = "leave" \/ kind = "named"->∃a b p l,aj=a::b::.str p::l/\p∈zs.take 5
 q:∀h:Int,Rq k (row h kind aj)
def nq {kind:Str}{aj:LD}(e:decide (kind∈cG)=false)(h:Int):Rq k (row h kind aj):=.non _ (of_decide_eq_false e)
def Sd {kind:Str}{P:Prop}(e:(decide (kind = "leave") || decide (kind = "named"))=false):kind = "leave" \/ kind = "named"->P:=N9
def now {kind:Str}{aj:LD}(h:Int)(e:(decide (kind = "paper") || decide (kind = "like"))=false):pO (row h kind aj):=λz=>by
 have e:=Bool.or_eq_false_iff.mp e;rcases z with z|z
 .exact absurd z (of_decide_eq_false e.1)
 .exact absurd z (of_decide_eq_false e.2)
section
variable {zs:LS}(z7:Nm7 zs) {k day n:Nat}{by_ tF:Str}(hd:day<16) (hb:by_∈zs)
include z7 hd hb
theorem Oc (kind:Str)(hk:kind = "death" \/ kind = "lost" \/ kind = "found"):Dw zs k day kind [.int (day:Int),.str by_]:=by
 refine⟨.three _ hk _ _,λh hh=>?_,λh=>now h (by rcases hk with rfl|rfl|rfl<;>decide +kernel),Sd (by rcases hk with rfl|rfl|rfl<;>decide +kernel),nq (by rcases hk with rfl|rfl|rfl<;>decide +kernel)⟩
 rcases hk with rfl|rfl|rfl<;>exact Pg ["day","person"] [by_] bK rr (aB (jv ⟨day,hd⟩) (aB (Az (z7.nm _ hb)) rr)) (by simp[BQ,Ya,Z3]) (by simpa using hb) rr hh
theorem Kv (hn:n<30)(M:n<k)(kind:Str)(hk:kind = "copy" \/ kind = "call"):Dw zs k day kind [.int (day:Int),.str by_,.int (n:Int)]:=by
 refine⟨.copy _ hk _ _ _,λh hh=>?_,λh=>now h (by rcases hk with rfl|rfl<;>decide +kernel),Sd (by rcases hk with rfl|rfl<;>decide +kernel),λh=>by rcases hk with rfl|rfl;exact .copy h _ n rr M;exact nq S9 h⟩
 rcases hk with rfl|rfl<;>exact Pg ["day","by","of"] [by_] bK rr (aB (jv ⟨day,hd⟩) (aB (t0 (z7.nm _ hb)) (aB (Pf ⟨n,hn⟩) rr))) (by simp[BQ,Ya,ip8,Z4]) (by simpa using hb) rr hh
theorem Od (ho:tF∈zs.take 5){m f:Nat}(hm:m∈MK){x:Int×OI}(hx:x∈Ob day)(hf:f<4):Dw zs k day "leave" [.int (day:Int),.str by_,.str tF,.int (m:Int),iT x,.int (f:Int)]:=by
 have M:=mem_of_mem_take ho;exact⟨.leave _ _ _ m (BX m hm) x _,λh hh=>Pg ["day","by","person","matters","stretch","further"] [by_,tF] bK rr (aB (jv ⟨day,hd⟩) (aB (t0 (z7.nm _ hb)) (aB (Az (z7.nm _ M)) (aB (xL m hm) (aB (xM ⟨day,hd⟩ x hx) (aB (Ks ⟨f,hf⟩) rr)))))) I9 (by simp[hb,M]) (by simp only[all_cons,E7];rfl) hh,λh=>now h S9,λ_=>⟨_,_,_,_,rr,ho⟩,nq S9⟩
theorem Oe (ho:tF∈zs){w:D}(hw:w=.non\/w=.str tF){m:Nat}(hm:m∈MK){x:Int×OI}(hx:x∈Ob day){p q:Str}(hp:p∈zs)(hq:q∈zs):Dw zs k day "paper" [.int (day:Int),.str by_,.int (m:Int),iT x,w,.tup [.str p,.str q]]:=by
 have M:=Sb (ps:=[p,q]) X9 X9 λz hz=>by
  rcases vP hz with rfl|hz
  .exact z7.nm _ hp
  .cases uT hz;exact z7.nm _ hq
 refine⟨.paper "paper" (.inl rr) _ _ m (BX m hm) x _ (by rcases hw with rfl|rfl<;>rfl) (by rcases hw with rfl|rfl<;>rfl),λh hh=>?_,λh _=>⟨x,w,_,_,_,_,m,_,.inl rr,rr,hw.imp id λe=>⟨_,e⟩⟩,Sd S9,λh=>.paper h _ [p,q] rr X9⟩
 rcases hw with rfl|rfl
 .exact Pg ["day","by","matters","stretch","whom","pieces"] [by_] bK rr (aB (jv ⟨day,hd⟩) (aB (t0 (z7.nm _ hb)) (aB (xL m hm) (aB (xM ⟨day,hd⟩ x hx) (aB Ku (aB M rr)))))) I9 (by simpa using hb) (by simp only[all_cons,E7];rfl) hh
 .exact Pg ["day","by","matters","stretch","whom","pieces"] [by_,tF] bK rr (aB (jv ⟨day,hd⟩) (aB (t0 (z7.nm _ hb)) (aB (xL m hm) (aB (xM ⟨day,hd⟩ x hx) (aB (VF (z7.nm _ ho)) (aB M rr)))))) I9 (by simp[hb,ho]) (by simp only[all_cons,E7];rfl) hh
theorem Se {m:Nat}(hm:m∈MK){x:Int×OI}(hx:x∈Ob day)(hn:n<30)(hk:n<k){c:Nat}(hc:c<3){p:Str}(hp:p∈zs):Dw zs k day "like" [.int (day:Int),.str by_,.int (m:Int),iT x,.non,.int (n:Int),.tup [.tup [.int (c:Int),.str p]]]:=
 ⟨.paper _ (.inr rr) _ _ m (BX m hm) x _ rr rr,λh hh=>Pg ["day","by","matters","stretch","whom","of","changes"] [by_] bK rr (aB (jv ⟨day,hd⟩) (aB (t0 (z7.nm _ hb)) (aB (xL m hm) (aB (xM ⟨day,hd⟩ x hx) (aB Ku (aB (Pf ⟨n,hn⟩) (aB (Sc hc (z7.nm _ hp)) rr))))))) I9 (by simpa using hb) (by simp only[all_cons,E7];rfl) hh,λh _=>⟨x,.non,_,_,_,_,m,_,.inr rr,rr,.inl rr⟩,Sd S9,λh=>.like h _ n c p rr rr hk⟩
theorem E8 (h5:by_∈zs.take 5)(ho:tF∈zs):Dw zs k day "named" [.int (day:Int),.str tF,.str by_]:=
 ⟨.named _ _ _,λh hh=>Pg ["day","office","person"] [by_] bK rr (aB (jv ⟨day,hd⟩) (aB (xN (z7.nm _ ho)) (aB (Az (z7.nm _ hb)) rr))) (by simp[BQ,Z2,Ya,Z3]) (by simpa using hb) rr hh,λh=>now h S9,λ_=>⟨_,_,_,_,rr,h5⟩,nq S9⟩
theorem Sf (ho:tF∈zs){o:Str}(M:o∈zs):Dw zs k day "heir" [.int (day:Int),.str by_,.str o,.str tF]:=
 ⟨.heir _ _ _ _,λh hh=>Pg ["day","by","office","person"] [by_,tF] bK rr (aB (jv ⟨day,hd⟩) (aB (t0 (z7.nm _ hb)) (aB (xN (z7.nm _ M)) (aB (Az (z7.nm _ ho)) rr)))) (by simp[BQ,Z2,Ya,Z3,ip8]) (by simp[hb,ho]) rr hh,λh=>now h S9,Sd S9,nq S9⟩
theorem Kw (ho:tF∈zs){o:Str}(M:o∈zs){s:Nat}(h1:day<=s)(h2:s<18):Dw zs k day "chosen" [.int (day:Int),.str by_,.str o,.str tF,.int (s:Int)]:=by
 refine⟨.chosen _ _ _ _ _,λh hh=>⟨⟨["day","by","office","person","since"],[by_,tF],bK,rr,kX (aB (jv ⟨day,hd⟩) (aB (t0 (z7.nm _ hb)) (aB (xN (z7.nm _ M)) (aB (Az (z7.nm _ ho)) (aB (Kt ⟨s,h2⟩) rr))))),I9,X9,by simp[hb,ho]⟩,X9,λd hd=>?_,.inr ⟨S9,⟨day,_,rr,hh,N9,λ_=>⟨_,_,_,s,rr,N9⟩⟩,bK⟩⟩,λh=>now h S9,Sd S9,nq S9⟩;simp [mem_cons,not_mem_nil,or_false]at hd;rcases hd with rfl|rfl|rfl|rfl|rfl<;>exact⟨rr,rr⟩
end
def dq {α:Type}(l:List α)(F:α->D){ρ:DL.Env}{fl fx:FE}{b:Bool}{a m:Int}(M:fl ρ=some (.lst (l.map F),b))(ex:fx ρ=sI a)(h0:0<m)(hm:m<=l.length):∃x∈l.take m.toNat,f2 fu fl (f2 jH fx (fI m)) ρ=some (F x,false):=by
 have h:=mod_lt (x:=a) h0;obtain⟨j,hj⟩:∃j:Nat,a % m=j:=⟨(a % m).toNat,N9⟩;have hl:j<l.length:=N9
 refine⟨l[j],List.mem_take_iff_getElem.mpr ⟨j,N9,rr⟩,eN M (hj ▸ im ex h0) ?_⟩;have:(l.map F)[j]? = some (F l[j]):=by simp_all
 simp[bg this]
def nH {zs:LS}(M:Nm7 zs)(j:Nat)(hj:j<7):∃z∈zs,∀ {ρ:DL.Env}{i:Nat},ρ[i]? = some (sL (zs.map .str))->jx i (j:Int) ρ=sS z:=by
 have hl:j<zs.length:=by rw[M.len];exact hj
 refine⟨zs[j],getElem_mem hl,λ{ρ i} h=>?_⟩;simp_all[bg]
def iV (r:D):Bool:=decide (kindOf r∈[("leave" : Str),"named"])
def Yb (zs:LS)(aa:LD):Prop:=(∀r∈aa,∃h kind aj,r=row h kind aj/\(kind = "leave" \/ kind = "named"->∃a b p l,aj=a::b::.str p::l/\p∈zs.take 5))/\∃r∈aa,iV r=true
def A0 {zs:LS}(s:Nm7 zs){aa:LD}(g:Yb zs aa)(hl:aa.length<=100)(c:Int):∃p∈zs.take 5,kP [.lst aa,.int c,.lst (zs.map .str)]=sS p:=by
 have q:∀r∈aa,iV r=true->∃h k a b p l,r=row h k (a::b::.str p::l)/\aq 2 r=p/\p∈zs.take 5:=λr hr hi=>by
  obtain⟨h,k,aj,rfl,hp⟩:=g.1 r hr;have:k∈[("leave" : Str),"named"]:=xQ hi;obtain⟨a,b,p,l,rfl,h5⟩:=hp (by simpa using this);exact⟨h,k,a,b,p,l,rr,rr,h5⟩
 have hc:=cS (fi:=c9 (am 0)) (nT:=1) (cap:=[]) (tg:=eU 0) (c:=bP (f2 HB (f2 fu (jx 0 1) (fI 0)) (fA dN (ak (fS "leave") (ak (fS "named") ay))))) (fe:=f2 fu (jx 0 1) (fI 3))
  (ρ:=[sL aa,sI c,sL (zs.map .str),none]) aa (λr=>r) iV (λr=>.str (aq 2 r)) X9 N9 λr hr=>by
   obtain⟨h,k,aj,e,_⟩:=g.1 r hr;refine⟨_,rr,cm (aY (.str k) (.tup [.str "leave",.str "named"]) ?_ (a0 [.str "leave",.str "named"] rr (bc _ X9)) ?_),λhi=>⟨false,?_⟩⟩
   .subst e;simp[cx,row,G7,BC]
   .rw[show iV r=decide (k∈[("leave" : Str),"named"]) by subst e;rfl];exact iQ _ [("leave" : Str),"named"]
   .obtain⟨h,k,a,b,p,l,rfl,e2,_⟩:=q r hr hi;rw[e2];have h3:mq (D.str k::a::b::.str p::l) 3=some (.str p):=by have:=jd (xs:=D.str k::a::b::.str p::l) (j:=3) X9;simpa using this
    simp[cx,row,G7,h3]
 obtain⟨v,O,U⟩:=g.2;have t:0<(aa.filter iV).length:=List.length_pos_of_mem (mem_filter.mpr ⟨O,U⟩);have M:aV ((aa.filter iV).map λr=>D.str (aq 2 r))=true:=bq λd hd=>by obtain⟨x,_,rfl⟩:=vO hd;rfl
 by_cases h5:0<c % 5
 .have m1:(0:Int)<((aa.filter iV).length:Nat):=N9
  obtain⟨x,hx,ex⟩:∃x∈aa.filter iV,f2 fu (am 3) (f2 jH (f2 fO (am 1) (fI 5)) (fA lI (fV 3 ay))) [sL aa,sI c,sL (zs.map .str),lT ((aa.filter iV).map λr=>.str (aq 2 r))]=some (.str (aq 2 x),false):=by
   obtain⟨j,hj⟩:∃j:Nat,c / 5 % ((aa.filter iV).length:Nat)=j:=⟨(c / 5 % ((aa.filter iV).length:Nat)).toNat,by have:=mod_lt (x:=c / 5) m1;lia⟩;have f:j<(aa.filter iV).length:=by have:=mod_lt (x:=c / 5) m1;lia
   refine⟨(aa.filter iV)[j],getElem_mem f,aY (.lst ((aa.filter iV).map λr=>.str (aq 2 r))) (.int j) rr (hj ▸ aY (.int (c / 5)) (.int ((aa.filter iV).length:Nat)) (pP rr H9 H9) (a0 [.lst ((aa.filter iV).map λr=>.str (aq 2 r))] (aM rr rr) (by rw[jf,vI])) (BU _ m1)) ?_⟩;have:((aa.filter iV).map λr=>D.str (aq 2 r))[j]? = some (.str (aq 2 (aa.filter iV)[j])):=by simp_all
   simp[bg this]
  obtain⟨i,n⟩:=vN hx;obtain⟨h,k,a,b,p,l,_,e2,o⟩:=q x i n;rw[e2]at ex;exact⟨p,o,ah rr (bx hc M (aR (cm (aY (.int (c % 5)) (.int 0) (im rr H9) rr s9)) (ai ex)))⟩
 .obtain⟨p,hp,u⟩:=dq zs D.str (ρ:=[sL aa,sI c,sL (zs.map .str),lT ((aa.filter iV).map λr=>.str (aq 2 r))]) (fl:=am 2) (fx:=f2 fO (am 1) (fI 5)) (b:=false) (a:=c / 5) (m:=5) rr (pP rr H9 H9) H9 (by rw[s.len];decide);exact⟨p,hp,ah rr (bx hc M (ao (cm (aY (.int (c % 5)) (.int 0) (im rr H9) rr s9)) (ai u)))⟩
noncomputable def gQ:LS:=[("leave" : Str),"paper","like","copy","call"]
def lt4:∀f∈([3,2,2,1,0]:LN),f<4:=H9
def mk6:∀m∈([7,7,3,5,1,2]:LN),m∈MK:=H9
def Sg {zs:LS}{p:Str}(h:p∈zs):R3 Zn (.lst (zs.map .str)) (.str p)=sI (oq zs p):=by
 show(eP _).bind _=_;rw[nu];show(if oq zs p<zs.length then _ else _)=_;simp_all[oq]
section
variable {zs:LS}(z7:Nm7 zs) {aa:LD}(g:Yb zs aa) (hl:aa.length<=21) (day:Nat) (hd:day<16) (c:Int)
include z7 g hl hd
theorem wc (word:Str)(hw:word∈gQ):∃aj,lY [.lst aa,.str word,.int day,.int c,.lst (zs.map .str)]=sT (.str word::aj)/\Dw zs aa.length day word aj:=by
 obtain⟨p,U,s⟩:=A0 z7 g N9 c;have hp:p∈zs:=mem_of_mem_take U;obtain⟨m,hm,t⟩:=dq ([7,7,3,5,1,2]:LN) (λm=>.int (m:Int)) (ρ:=[sL aa,sS word,sI day,sI c,sL (zs.map .str),sS p,none,none,none,none,none]) (fl:=fA f6 (ak (fI 7) (ak (fI 7) (ak (fI 3) (ak (fI 5) (ak (fI 1) (ak (fI 2) ay))))))) (fx:=f2 fO (am 3) (fI 40)) (b:=true) (a:=c / 40) (m:=6) (a0 [.int 7,.int 7,.int 3,.int 5,.int 1,.int 2] rr (c8 _ X9)) (pP rr H9 H9) H9 H9;have hm:=mk6 m (mem_of_mem_take hm);obtain⟨x,hx,ex⟩:=dq (Ob day) iT (ρ:=[sL aa,sS word,sI day,sI c,sL (zs.map .str),sS p,sI m,none,none,none,none])
  (fl:=fA f6 (ak (fA dN (ak (fI 0) (ak (fC .non) ay))) (ak (fA dN (ak (fI 0) (ak (fI 30) ay))) (ak (fA dN (ak (fI 1) (ak (fI 20) ay))) (ak (fA dN (fV 2 (ak (f2 j0 (am 2) (fI 8)) ay))) (ak (fA dN (ak (f2 j0 (am 2) (fI 1)) (ak (fC .non) ay))) (ak (fA dN (ak (fI 0) (ak (fI 40) ay))) ay)))))))
  (fx:=f2 fO (am 3) (fI 240)) (b:=true) (a:=c / 240) (m:=6) (a0 ((Ob day).map iT) (aM (a0 [.int 0,.non] rr (bc _ X9)) (aM (a0 [.int 0,.int 30] rr (bc _ X9)) (aM (a0 [.int 1,.int 20] rr (bc _ X9)) (aM (a0 [.int day,.int (day+8)] rr (bc _ X9)) (aM (a0 [.int (day+1),.non] rr (bc _ X9)) (aM (a0 [.int 0,.int 40] rr (bc _ X9)) rr)))))) (c8 _ (by simp[Ob]))) (pP rr H9 H9) H9 (by simp[Ob])
 have hx:x∈Ob day:=mem_of_mem_take hx;let E:OB->OB->OB->DL.Env:=λa b d=>[sL aa,sS word,sI day,sI c,sL (zs.map .str),sS p,sI m,some (iT x,false),a,b,d];have M:∀w,bP (f2 lu (am 1) (fS w)) (E none none none)=some (decide (word=w)):=λw=>cm (aY (.str word) (.str w) rr rr (Pd _ _));obtain⟨F,e,_⟩:=g.2;have h0:=List.length_pos_of_mem e;have num:∀(q:Int),0<q->q<1073741824->∃n:Nat,n<aa.length/\∀a b d,f2 jH (f2 fO (am 3) (fI q)) (fA lI (fV 0 ay)) (E a b d)=sI n:=λq u q2=>by
  have h:=mod_lt (x:=c / q) (m:=(aa.length:Int)) N9;refine⟨(c / q % (aa.length:Int)).toNat,N9,λa b d=>?_⟩;rw[Int.toNat_of_nonneg h.1];exact aY (.int (c / q)) (.int aa.length) (pP rr u q2) (a0 [.lst aa] rr jf) (BU _ N9)
 obtain⟨n,hn,en⟩:=num 1440 H9 H9;obtain⟨n4,i,k⟩:=num 4320 H9 H9;obtain⟨l,h0,v⟩:=nH z7 0 H9;obtain⟨o,h1,y⟩:=nH z7 1 H9;obtain⟨r,h2,e2⟩:=nH z7 2 H9;obtain⟨O,h3,z⟩:=nH z7 3 H9;have dQ:∀ {T:FS}{d:D},T (E none none none)=some (.rt d false)->ce (eM 5 (fA kP (fV 0 (fV 3 (fV 4 ay))))) (ce (eM 6 _) (ce (eM 7 _) T)) [sL aa,sS word,sI day,sI c,sL (zs.map .str),none,none,none,none,none,none]=some (.rt d false):=λA=>
  eQ (.str p) (a0 [.lst aa,.int c,.lst (zs.map .str)] rr s) rr (eQ (.int m) t rr (eQ (iT x) ex (ky _) A))
 simp only[gQ,mem_cons,not_mem_nil,or_false]at hw;rcases hw with rfl|rfl|rfl|rfl|rfl
 .obtain⟨q,hq,eq⟩:=dq zs D.str (ρ:=E none none none) (fl:=am 4) (fx:=f2 j0 (f2 j0 (f2 (R3 Zn) (am 4) (am 5)) (fI 1)) (f2 jH (f2 fO (am 3) (fI 1440)) (fI 4))) (b:=false) (a:=(oq zs p:Int)+1+c / 1440 % 4) (m:=5) rr
   (aY (.int ((oq zs p:Int)+1)) (.int (c / 1440 % 4)) (aY (.int (oq zs p)) (.int 1) (aY (.lst (zs.map .str)) (.str p) rr rr (Sg hp)) rr rr) (im (pP rr H9 H9) H9) rr) H9 (by rw[z7.len];decide)
  obtain⟨f,hf,B⟩:=dq ([3,2,2,1,0]:LN) (λm=>.int (m:Int)) (ρ:=E (sS q) none none) (fl:=fA f6 (ak (fI 3) (ak (fI 2) (ak (fI 2) (ak (fI 1) (ak (fI 0) ay)))))) (fx:=f2 fO (am 3) (fI 5760)) (b:=true) (a:=c / 5760) (m:=5) (a0 [.int 3,.int 2,.int 2,.int 1,.int 0] rr (c8 _ X9)) (pP rr H9 H9) H9 H9;exact⟨_,ah rr (dQ (aR ((M "leave").trans S9) (eQ (.str q) eq rr (ai (a0 [.str "leave",.int day,.str p,.str q,.int m,iT x,.int f] (aM rr (aM rr (aM rr (aM rr (aM rr (aM rr (aM B rr))))))) (bc _ X9)))))),Od z7 hd hp hq hm hx (lt4 f (mem_of_mem_take hf))⟩
 .obtain⟨w,hw,C⟩:=dq ([.non,.str l]:LD) id (ρ:=E none none none) (fl:=fA f6 (ak (fC .non) (ak (jx 4 0) ay))) (fx:=f2 fO (am 3) (fI 1440)) (b:=true) (a:=c / 1440) (m:=2) (a0 [.non,.str l] (aM rr (aM (v rr) rr)) (c8 _ X9)) (pP rr H9 H9) H9 X9;have hw:w=.non\/w=.str l:=by grind
  exact⟨_,ah rr (dQ (ao ((M "leave").trans S9) (aR ((M "paper").trans S9) (eQ w C (by rcases hw with rfl|rfl<;>rfl) (ai (a0 [.str "paper",.int day,.str p,.int m,iT x,w,.tup [.str o,.str r]] (aM rr (aM rr (aM rr (aM rr (aM rr (aM rr (aM (a0 [.str o,.str r] (aM (y rr) (aM (e2 rr) rr)) (bc _ X9)) rr))))))) (bc _ X9))))))),Oe z7 hd hp h0 hw hm hx h1 h2⟩
 .have G:=mod_lt (x:=c / 1440) (m:=3) H9;obtain⟨j,hj⟩:∃j:Nat,c / 1440 % 3=j:=⟨(c / 1440 % 3).toNat,N9⟩;exact⟨_,ah rr (dQ (ao ((M "leave").trans S9) (ao ((M "paper").trans S9) (aR ((M "like").trans S9) (eQ (.tup [.tup [.int j,.str O]]) (a0 [.tup [.int j,.str O]] (aM (a0 [.int j,.str O] (aM (hj ▸ im (pP rr H9 H9) H9) (aM (z rr) rr)) (bc _ X9)) rr) (bc _ X9)) rr (ai (a0 [.str "like",.int day,.str p,.int m,iT x,.non,.int n4,.tup [.tup [.int j,.str O]]] (aM rr (aM rr (aM rr (aM rr (aM rr (aM rr (aM (k _ _ _) (aM rr rr)))))))) (bc _ X9)))))))),Se z7 hd hp hm hx N9 i N9 h3⟩
 .exact⟨_,ah rr (dQ (ao ((M "leave").trans S9) (ao ((M "paper").trans S9) (ao ((M "like").trans S9) (ai (a0 [.str "copy",.int day,.str p,.int n] (aM rr (aM rr (aM rr (aM (en _ _ _) rr)))) (bc _ X9))))))),Kv z7 hd hp N9 hn "copy" (.inl rr)⟩
 .exact⟨_,ah rr (dQ (ao ((M "leave").trans S9) (ao ((M "paper").trans S9) (ao ((M "like").trans S9) (ai (a0 [.str "call",.int day,.str p,.int n] (aM rr (aM rr (aM rr (aM (en _ _ _) rr)))) (bc _ X9))))))),Kv z7 hd hp N9 hn "call" (.inr rr)⟩
end
def we (c:D):Prop:=aG c=false/\kindOf c ≠ "death"/\kindOf c∉sq/\∀ws p d,(∀w∈ws,bY w=true)->told ws p d c=false
def Gr {a:Int}{k:Str}{q:LD}(h:k∈gQ):we (row a k q):=by
 have:=(by decide +kernel:∀k∈gQ,decide (k = "root")=false/\k ≠ "death"/\k∉sq/\bY k=false) k h;refine⟨this.1,this.2.1,this.2.2.1,λws p d hw=>?_⟩;show(decide _ && rO p d q)=false;rw[oP λz=>by rw[hw k z]at this;cases this.2.2.2];rfl
def fY (aa:LD)(c:D){ae:Int}(h:aF c<=ae):ag (aa++[c]) ae=ag aa ae++[(c,aa.length)]:=by
 unfold ag;rw[List.zipIdx_append];simp[h]
section
variable {K:KL}{c:D}{N:Nat}
def ft {f:D×Nat->Bool}(h:f (c,N)=false):(K++[(c,N)]).filter f=K.filter f:=by simp[h]
variable (q:we c)
include q
theorem oN (p:Str)(d:Int):kx (K++[(c,N)]) p d=kx K p d:=by unfold kx;rw[ft (q.2.2.2 _ _ _ eF)]
theorem A1 (p:Str)(d:Int):zI (K++[(c,N)]) p d=zI K p d:=by unfold zI;rw[ft (q.2.2.2 _ _ _ ko)]
theorem Gs (r:D):ma (K++[(c,N)]) r=ma K r:=by unfold ma;rw[oN q,A1 q]
theorem wg:bp (K++[(c,N)])=bp K:=by unfold bp;rw[ft q.1]
theorem Kx:cK (K++[(c,N)])=cK K:=by
 have h1:∀M x,bF (K++[(c,N)]) M x=bF K M x:=λM x=>by
  unfold bF fH zG lB;rw[ft (q.2.2.2 _ _ _ eF),ft q.1,Gs q]
 have h2:∀M hk hv p d n,pM (K++[(c,N)]) M hk hv p d n=pM K M hk hv p d n:=λM hk hv p d n=>by
  unfold pM;unfold cP;simp [oN q]
 funext st x;unfold cK;rw[h1,h2]
theorem E9 (O:(K.map (·.2)).Nodup)(M:∀x∈K,x.2≠N):(bB (K++[(c,N)])).filter (λx=>!decide (x.2=N))=bB K:=by
 have nd:((K++[(c,N)]).map (·.2)).Nodup:=by
  rw[uW,nodup_append];refine⟨O,X9,λa ha b hb=>?_⟩;obtain⟨x,hx,rfl⟩:=vO ha;rw[List.map_singleton,mem_singleton]at hb;subst hb;exact M x hx
 have e:=BL _ nd (λx=>!decide (x.2=N) && !aG _) λx h=>by
  rw[vC]at h;simpa using h.2
 rw[ft X9]at e;have U:K.filter (λx=>!decide (x.2=N) && !aG x.1)=K.filter λx=>!aG x.1:=filter_congr λx hx=>by simp[M x hx]
 have e2:(bB _).filter (λx=>!decide (x.2=N) && !aG _)=(bB (K++[(c,N)])).filter _:=filter_congr λx hx=>by
  have:=(vN ((a5 _ _).mem_iff.mp hx)).2;rw[this,Bool.and_true]
 rw[U,e2]at e;exact e.symm
omit q in
theorem mh {α M:Type}(f:M->α->M)(p:α->Bool):∀(l:List α)(s:M),(∀x∈l,p x=false->∀s,f s x=s)->l.foldl f s=(l.filter p).foldl f s
 |[],_,_=>rr
 |x::l,s,h=>by
  rw[filter_cons];cases e:p x with
  |true=>exact mh f p l _ λy hy=>h y (mZ _ hy)
  |false=>
   rw[foldl_cons,h x mX e];exact mh f p l s λy hy=>h y (mZ _ hy)
theorem BY (O:(K.map (·.2)).Nodup)(M:∀x∈K,x.2≠N):aU (K++[(c,N)])=aU K:=by
 unfold aU lC;rw[Kx q,mh _ _ _ _ λx hx e st=>?_,E9 q O M];have hm:=(vN ((a5 _ _).mem_iff.mp hx)).1;have U:=by simpa using e
 rcases mem_append.mp hm with h|h
 .exact absurd U (M x h)
 .rw[mem_singleton]at h;subst h;unfold cK bF;rw[if_neg q.2.1,if_neg q.2.2.1];rfl
end
section
variable {aa:LD}{ae:Int}{c:D}(q:we c) (hc:aF c<=ae)
theorem Ky (h:x∈ag aa ae):x.2<aa.length:=(vV (aE h)).1
theorem A2:∀x∈ag aa ae,x.2≠aa.length:=λ_ h=>vS (Ky h)
include q hc
theorem A3 (r:D):fG (aa++[c]) ae r=fG aa ae r:=by
 unfold fG;rw[x0,J9,x0,J9,fY _ c hc,oN q,A1 q]
theorem xO:aU (ag (aa++[c]) ae)=aU (ag aa ae):=by rw[fY _ c hc];exact BY q (ci _ _) A2
theorem Of (x r:D):Ga (ag (aa++[c]) ae) x r=Ga (ag aa ae) x r:=by
 unfold Ga;rw[xO q hc,fY _ c hc,wg q]
theorem EA (M:Nat)(r:D)(d:Int)(x:D):lm (aa++[c]) ae M r d x=lm aa ae M r d x:=by unfold lm;rw[A3 q hc,Of q hc]
theorem Gu (M:Nat){r:D}(d:Int)(hr:aF r<=ae)(O:kindOf r∈be):(oF (aa++[c]) ae M r d).isEmpty=((oF aa ae M r d).isEmpty && !lm aa ae M r d c):=by
 unfold oF;rw[if_pos ⟨hr,O⟩,if_pos ⟨hr,O⟩,fY _ c hc,filter_append];have e:(ag _ ae).filter _=(ag aa _).filter λx=>lm aa _ M r d x.1:=filter_congr λx _=>EA q hc _ _ _ _;rw[e,filter_cons,EA q hc];cases lm _ _ M r d c<;>cases (ag _ _).filter _<;>rfl
theorem EB (d:Int){x:D×Nat}(hr:aF x.1<=ae)(M:kindOf x.1∈be):pN (aa++[c]) ae d x=(pN aa ae d x && !lm aa ae x.2 x.1 d c):=by
 unfold pN;rw[A3 q hc,Gu q hc _ _ hr M];simp [Bool.and_assoc]
theorem nI {x:D×Nat}(O:bi x.1){b:Bs}:(b∈cw aa ae x->b∈cw (aa++[c]) ae x)/\(b∈cw (aa++[c]) ae x->b∈cw aa ae x\/b=(none,(aa.length:Int))/\kindOf c ≠ "call"):=by
 unfold cw nB;rw[xO q hc];by_cases M:kindOf x.1 = "copy"
 .obtain⟨a,d,U,m,er⟩:=jt O M;have en:eG 2 x.1=m:=by rw[er];rfl
  rw[if_pos M,if_pos M,en,Int.toNat_natCast];rcases Nat.lt_trichotomy m aa.length with h|rfl|h
  .unfold ie;rw[getElem?_append_left h];exact⟨id,.inl⟩
  .have e:ie aa ae x.1 x.2 aa.length=false:=by unfold ie;rw[getElem?_eq_none (vT _)]
   have e2:ie (aa++[c]) ae x.1 x.2 aa.length=((decide (aF c<=ae) && decide (kindOf c∈cG)) && bL (c,aa.length) (x.1,x.2)):=by unfold ie;rw[getElem?_append_right (vT _),sub_self];rfl
   rw[e,e2];refine⟨λh=>by simp at h,λh=>.inr ?_⟩;split at h
   .rename_i h1;refine⟨uT h,λz=>?_⟩;rw[z,show decide (("call" : Str)∈cG)=false by decide +kernel,Bool.and_false]at h1;cases h1
   .cases h
  .unfold ie;rw[getElem?_eq_none (le_of_lt h),getElem?_eq_none (by rw[uZ,length_singleton];lia)];exact⟨id,.inl⟩
 .rw[if_neg M,if_neg M];unfold NF;rw[(a5 _ _).mem_iff,(a5 _ _).mem_iff];unfold zW zS;rw[fY _ c hc,wg q,filter_append,filter_append,filter_append,uW,<-append_assoc];refine⟨λh=>mem_append_left _ h,λh=>(mem_append.mp h).imp id λh=>?_⟩;obtain⟨y,hy,rfl⟩:=vO h;have h1:=(vN (vN hy).1).1;obtain⟨h2,h3⟩:=vN h1;rw[uT h2]at h3 |-;refine⟨rr,λz=>?_⟩;rw[show ny c=decide (kindOf c = "leave")from rr,z]at h3;exact cN h3
theorem EC (d:Int):(gV (aa++[c]) ae d (bB (ag (aa++[c]) ae))).filter (λx=>!decide (x.2=aa.length))=(gV aa ae d (bB (ag aa ae))).filter λx=>!lm aa ae x.2 x.1 d c:=by
 unfold gV;rw[<-E9 q (ci aa _) A2,<-fY _ c hc];rw[filter_filter,filter_filter,filter_filter];refine filter_congr λx hx=>?_;cases hn:decide (x.2=aa.length) with
 |true=>simp
 |false=>
  have hm:=(vN ((a5 _ _).mem_iff.mp hx)).1;have hk:=xQ (vN hm).2;by_cases M:kindOf x.1∈be
  .rw[EB q hc d hk M,mi M];cases pN _ _ d x<;>cases lm _ _ _ _ d c<;>rfl
  .rw[oP M];simp
end
theorem kY {f g:D×Nat->List Bs}{p:D×Nat->Bool}:∀(l:KL)(S T:LN),(∀m∈S,m∈T)->(∀x∈l,p x=true->∀b∈f x,b∈g x)->∀m∈((l.filter p).map λx=>(x.2,f x)).foldl bM S,m∈(l.map λx=>(x.2,g x)).foldl bM T
 |[],S,T,h,_=>h
 |x::l,S,T,h,M=>by
  have hl:=λy hy=>M y (mZ x hy);rw[filter_cons];split
  .rename_i hp;refine kY l _ _ (λm hm=>?_) hl;unfold bM at hm;split at hm
   .rename_i hb;obtain⟨b,h1,h2⟩:=any_eq_true.mp hb;unfold bM;rw[if_pos (any_eq_true.mpr ⟨b,M x mX hp b h1,Aj h b h2⟩)];exact(mem_append.mp hm).elim (λz=>mem_append_left _ (h m z)) λz=>mY _ z
   .exact xE (h m hm)
  .exact kY l _ _ (λm hm=>xE (h m hm)) hl
theorem A4 (f:Int×Int->Bool)(m n:Int):∀l:LI,((l++[m,n]).zip (l++[m,n]).tail).all f=(((l++[m]).zip (l++[m]).tail).all f && f (m,n))
 |[]=>by simp
 |[x]=>by simp
 |x::y::l=>by
  have:=A4 f m n (y::l);simp at this |-;rw[this,Bool.and_assoc]
def Kz {l:List Rs}{rs:Nat->List Bs}{c m n:Int}{W:LI}(h:Tf l rs (c::(W++[m]))=true)(hf:oJ l n=true)(hk:Te rs m n=true):Tf l rs (c::(W++[m,n]))=true:=by
 have z:=A4 (λp=>Te rs p.1 p.2) m n W;cases W<;>simp_all [Tf]
def K0 {S:LN}{rs rs':Nat->List Bs}{l:List Rs}(hf:∀n∈S,oJ l (n:Int)=true)(M:∀n∈S,∀b∈rs n,b∈rs' n)(k:Lk S rs T c):Tf l rs' (c::T.reverse.map λ(n:Nat)=>(n:Int))=true:=by
 have mem:∀ {n:Nat}{b:Bs}{q:List Bs},n∈S->(rs n).filter (cu S)=b::q->b∈rs' n:=λhS h=>M _ hS _ (vN (h ▸ mX)).1;induction k with
 |one n b q hS h ho=>
  show([(n:Int)].all _ && (Td _ _ _ && true))=true;rw[show Td _ _ n=true from any_eq_true.mpr ⟨b,mem hS h,by rw[ho,mi rr];rfl⟩];simp[hf n hS]
 |more n m ns c b q hS h ho hm k O=>
  have:=Kz (by simpa using O) (hf n hS) (any_eq_true.mpr ⟨b,mem hS h,by rw[ho,hm,mi rr];rfl⟩);simpa using this
section
variable {aa:LD}{ae:Int}{c:D}(q:we c) (hc:aF c<=ae) (g:∀r∈aa,bi r)
include q hc g
theorem A5 {d:Int}{x:D×Nat}(h:x∈gV aa ae d (bB (ag aa ae))):bi x.1:=g _ (vL (aE (vN ((a5 _ _).mem_iff.mp (vN h).1)).1))
theorem Sh (hk:kindOf c ≠ "call")(M:Nat)(r:D)(d:Int):lm aa ae M r d c=false:=by unfold lm;rw[oP hk];rfl
theorem BZ (hk:kindOf c ≠ "call")(d:Int):∀n∈aD aa ae d,n∈aD (aa++[c]) ae d:=by
 have e:=EC (aa:=aa) q hc d;have:∀l:KL,l.filter (λx=>!lm _ _ x.2 x.1 d c)=l:=λl=>List.filter_eq_self.mpr λx _=>by rw[Sh q hc g hk];rfl
 rw[this]at e;unfold aD eJ;rw[<-e];refine kY _ [] [] (λ_ h=>h) λx hx hp b hb=>(nI q hc ?_).1 hb;exact A5 q hc g (e ▸ mem_filter.mpr ⟨hx,hp⟩)
theorem Ca (hk:kindOf c = "call")(d:Int):∀n∈aD (aa++[c]) ae d,n∈aD aa ae d:=by
 have e:=EC (aa:=aa) q hc d;have:(gV (aa++[c]) ae d _).filter (λx=>!decide (x.2=aa.length))=gV _ _ d (bB (ag (aa++[c]) ae)):=List.filter_eq_self.mpr λx hx=>by
  obtain⟨h1,h2⟩:=vN hx;have h3:=aE (vN ((a5 _ _).mem_iff.mp h1)).1;rw[vC]at h2;refine(Bool.not_eq_true' _).mpr (oP λz=>?_);rw[z,getElem?_append_right (vT _),sub_self]at h3;cases h3
  rw[hk]at h2;exact cN h2.1
 rw[this]at e;unfold aD eJ;rw[e];refine kY _ [] [] (λ_ h=>h) λx hx hp b hb=>((nI q hc (A5 q hc g hx)).2 hb).elim id λz=>absurd hk z.2
theorem K1 {d:Int}{T:LN}{z:Int}(k:Lk (aD (aa++[c]) ae d) (BO (aa++[c]) ae) T z):aa.length∉T->∀n ns,T=n::ns->n∈aD aa ae d:=by
 have get:∀ {n:Nat}{b:Bs}{l:List Bs},n∈aD (aa++[c]) ae d->n≠aa.length->(BO (aa++[c]) ae n).filter (cu (aD (aa++[c]) ae d))=b::l->b≠(none,(aa.length:Int))->∃r,aa[n]? = some r/\(r,n)∈ag aa ae/\kindOf r∈be/\pN aa ae d (r,n)=true/\b∈cw aa ae (r,n):=λ{n b l} hS hn h hb=>by
  obtain⟨r,h1,h2,h3,h4⟩:=sV hS;obtain⟨x,hx,ex⟩:=vO h4;have M:x.2=n:=congrArg Prod.fst ex;have i:n<aa.length:=by
   have:=(vV h1).1;rw[uZ,length_singleton]at this;lia
  have hr:=h1;rw[getElem?_append_left i]at hr;have O:=aE (vN ((a5 _ _).mem_iff.mp (vN hx).1)).1;rw[M,h1]at O;have e:x=(r,n):=by rw[<-M,vK O]
  subst e;have hk:=xQ (vN h2).2;have hf:=(vC _ _ ▸ (vN hx).2).2;rw[EB q hc d hk h3,vC]at hf;refine⟨r,hr,mem_filter.mpr ⟨List.mk_mem_zipIdx_iff_getElem?.mpr hr,mi hk⟩,h3,hf.1,?_⟩;have hm:=(vN (h ▸ mX)).1;unfold BO at hm;rw[h1]at hm;exact((nI q hc (g r (vL hr))).2 hm).elim id λz=>absurd z.1 hb
 induction k with
 |one n b l hS h ho=>
  rintro a _ _ ⟨⟩;obtain⟨r,hr,h1,h2,h3,h4⟩:=get hS (λz=>a (z ▸ mX)) h λz=>by rw[z]at ho;cases ho
  refine Classical.byContradiction λhn=>?_;rw[Gi h1 h2 h3 hn h4]at ho;cases ho
 |more n m ns p b l hS h ho hm k j=>
  rintro a _ _ ⟨⟩;have U:aa.length∉m::ns:=λz=>a (mZ _ z);obtain⟨r,hr,h1,h2,h3,h4⟩:=get hS (λz=>a (z ▸ mX)) h λz=>by
   rw[z]at hm;exact U (Int.ofNat.inj hm ▸ mX)
  obtain⟨s,t,f,e2,u,o⟩:=sX g hr h4 ho;rw[hm]at f;cases Int.ofNat.inj f
  refine Classical.byContradiction λhn=>NQ h1 h2 h3 hn ?_ e2 o (j U _ _ rr);rw[<-hm,<-ho];exact h4
end
noncomputable def K2:LS:=[("leave" : Str),"leave","leave","paper","paper","paper","copy","copy","like","call"]
noncomputable def W8:LS:=[("call" : Str),"chosen","heir","death","lost","found","named","leave","paper","leave"]
def le5:∀f∈([0,0,0,1,5]:LN),f<=5:=H9
def w20:∀w∈K2++W8,w∈gQ\/w = "chosen" \/ w = "heir" \/ w = "named" \/ (w = "death" \/ w = "lost" \/ w = "found"):=S9
def qp:∀w∈[("chosen" : Str),"heir","named","death","lost","found"],w∉gQ:=S9
def Rg (zs:LS)(k:Nat)(r:D):Prop:=∃(h:Int)(kind:Str)(aj:LD)(day:Nat),r=row h kind aj/\(day:Int)<=h/\h<=100/\(day:Int)<=9998/\Dw zs k day kind aj
section
variable {zs:LS}(z7:Nm7 zs) {aa:LD}(g:Yb zs aa) (hl:aa.length<=21) (c:Int)
include z7 g hl
theorem Si:∃r,xo [.lst aa,.int c,.lst (zs.map .str)]=some (r,false)/\Rg zs aa.length r/\aG r=false:=by
 obtain⟨w,hw,u⟩:=dq (K2++W8) D.str (ρ:=[sL aa,sI c,sL (zs.map .str),lT ((K2++W8).map .str),none,none,none,none,none]) (fl:=am 3) (fx:=am 1) (b:=false) (a:=c) (m:=20) rr rr H9 H9;have hw:=w20 w (mem_of_mem_take hw);have G:=mod_lt (x:=c / 20) (m:=3) H9;obtain⟨day,z⟩:∃d:Nat,(aa.length:Int) / 2+c / 20 % 3=d:=⟨((aa.length:Int) / 2+c / 20 % 3).toNat,N9⟩;have hd:day<16:=N9
 have ed:f2 j0 (f2 fO (fA lI (fV 0 ay)) (fI 2)) (f2 jH (f2 fO (am 1) (fI 20)) (fI 3)) [sL aa,sI c,sL (zs.map .str),lT ((K2++W8).map .str),sS w,none,none,none,none]=sI day:=
  z ▸ aY (.int ((aa.length:Int) / 2)) (.int (c / 20 % 3)) (pP (a0 [.lst aa] rr jf) H9 H9) (im (pP rr H9 H9) H9) rr
 obtain⟨l,f,A⟩:=dq ([0,0,0,1,5]:LN) (λm=>.int (m:Int)) (ρ:=[sL aa,sI c,sL (zs.map .str),lT ((K2++W8).map .str),sS w,sI day,none,none,none]) (fl:=fA f6 (ak (fI 0) (ak (fI 0) (ak (fI 0) (ak (fI 1) (ak (fI 5) ay)))))) (fx:=f2 fO (am 1) (fI 60)) (b:=true) (a:=c / 60) (m:=5) (a0 [.int 0,.int 0,.int 0,.int 1,.int 5] rr (c8 _ X9)) (pP rr H9 H9) H9 H9;have f:=le5 l (mem_of_mem_take f);let E:OB->DL.Env:=λa=>[sL aa,sI c,sL (zs.map .str),lT ((K2++W8).map .str),sS w,sI day,sI ((day:Int)+l),sI (c / 300),a];have dQ:∀ {T:FS}{d:D},T (E none)=some (.rt d false)->ce (eM 3 (fA f6 (ak (fS "leave") (ak (fS "leave") (ak (fS "leave") (ak (fS "paper") (ak (fS "paper") (ak (fS "paper") (ak (fS "copy") (ak (fS "copy") (ak (fS "like") (ak (fS "call") ay))))))))))))
   (ce (eM 3 (f2 j0 (am 3) (fA f6 (ak (fS "call") (ak (fS "chosen") (ak (fS "heir") (ak (fS "death") (ak (fS "lost") (ak (fS "found") (ak (fS "named") (ak (fS "leave") (ak (fS "paper") (ak (fS "leave") ay))))))))))))) (ce (eM 4 _) (ce (eM 5 _) (ce (eM 6 (f2 j0 (am 5) _)) (ce (eM 7 (f2 fO (am 1) (fI 300))) T))))) [sL aa,sI c,sL (zs.map .str),none,none,none,none,none,none]=some (.rt d false):=λB=>
  bx (ds:=K2.map .str) (a0 (K2.map .str) rr (c8 _ (by simp[K2]))) rr (bx (ds:=(K2++W8).map .str) (eN (x:=.lst (K2.map .str)) (y:=.lst (W8.map .str)) (b1:=false) (b2:=true) rr (a0 (W8.map .str) rr (c8 _ (by simp[W8]))) rr) rr
   (eQ (.str w) u rr (eQ (.int day) ed rr (eQ (.int ((day:Int)+l)) (aY (.int day) (.int l) rr A rr) rr (eQ (.int (c / 300)) (pP rr H9 H9) rr B)))))
 have M:∀ {kind:Str}{aj:LD},Dw zs aa.length day kind aj->decide (kind = "root")=false->∃r,r=row ((day:Int)+l) kind aj/\Rg zs aa.length r/\aG r=false:=λ{kind aj} d hr=>⟨_,rr,⟨_,kind,aj,day,rr,N9,N9,N9,d⟩,hr⟩;have ti:bP (f2 HB (am 4) (fA dN (ak (fS "leave") (ak (fS "paper") (ak (fS "like") (ak (fS "copy") (ak (fS "call") ay))))))) (E none)=some (decide (w∈gQ)):=cm (aY (.str w) (.tup (gQ.map .str)) rr (a0 (gQ.map .str) rr (bc _ (by simp[gQ]))) (iQ w gQ));have O:∀v,bP (f2 lu (am 4) (fS v)) (E none)=some (decide (w=v)):=λv=>cm (aY (.str w) (.str v) rr rr (Pd _ _));obtain⟨q,hq,eq⟩:=dq zs D.str (ρ:=E none) (fl:=am 2) (fx:=f2 fO (am 7) (fI 40)) (b:=false) (a:=c / 300 / 40) (m:=5) rr (pP rr H9 H9) H9 (by rw[z7.len];decide);have U:q∈zs:=mem_of_mem_take hq;obtain⟨h,h5,k⟩:=nH z7 5 H9;obtain⟨p,j,n⟩:=A0 z7 g N9 (c / 300);have hp:p∈zs:=mem_of_mem_take j;rcases hw with hw|rfl|rfl|rfl|hw
 .obtain⟨aj,es,C⟩:=wc z7 g hl day hd (c / 300) w hw;have hr:decide (w = "root")=false:=(by decide +kernel:∀w∈gQ,decide (w = "root")=false) w hw;obtain⟨r,rfl,h1,h2⟩:=M C hr;rw[mi hw]at ti;exact⟨_,ah rr (dQ (aR ti (ai (a0 [.int ((day:Int)+l),.tup (.str w::aj)] (aM rr (aM (a0 [.lst aa,.str w,.int day,.int (c / 300),.lst (zs.map .str)] rr es) rr)) (bc _ X9))))),h1,h2⟩
 .obtain⟨s,hs⟩:∃s:Nat,(day:Int)+c / 300 / 200 % 3=s:=⟨((day:Int)+c / 300 / 200 % 3).toNat,N9⟩;have t:day<=s/\s<18:=N9
  obtain⟨r,rfl,h1,h2⟩:=M (Kw z7 hd hp U h5 t.1 t.2) S9;rw[oP (qp _ S9)]at ti;exact⟨_,ah rr (dQ (ao ti (aR ((O "chosen").trans S9) (eQ (.str p) (a0 [.lst aa,.int (c / 300),.lst (zs.map .str)] rr n) rr (ai (a0 [.int ((day:Int)+l),.tup [.str "chosen",.int day,.str p,.str h,.str q,.int s]] (aM rr (aM (a0 [.str "chosen",.int day,.str p,.str h,.str q,.int s] (aM rr (aM rr (aM rr (aM (k rr) (aM eq (aM (hs ▸ aY (.int day) (.int (c / 300 / 200 % 3)) rr (im (pP rr H9 H9) H9) rr) rr)))))) (bc _ X9)) rr)) (bc _ X9))))))),h1,h2⟩
 .obtain⟨r,rfl,h1,h2⟩:=M (Sf z7 hd hp U h5) S9;rw[oP (qp _ S9)]at ti;exact⟨_,ah rr (dQ (ao ti (ao ((O "chosen").trans S9) (aR ((O "heir").trans S9) (ai (a0 [.int ((day:Int)+l),.tup [.str "heir",.int day,.str p,.str h,.str q]] (aM rr (aM (a0 [.str "heir",.int day,.str p,.str h,.str q] (aM rr (aM rr (aM (a0 [.lst aa,.int (c / 300),.lst (zs.map .str)] rr n) (aM (k rr) (aM eq rr))))) (bc _ X9)) rr)) (bc _ X9))))))),h1,h2⟩
 .obtain⟨o,ho,F⟩:∃o∈zs,f2 fu (am 2) (f2 j0 (fI 5) (f2 jH (f2 fO (am 7) (fI 5)) (fI 2))) (E none)=sS o:=by
   have m2:=mod_lt (x:=c / 300 / 5) (m:=2) H9;obtain⟨o,ho,e⟩:=RN (zs:=zs) (i:=5+c / 300 / 5 % 2) N9 (by rw[z7.len];lia);exact⟨o,ho,aY (.lst (zs.map .str)) (.int (5+c / 300 / 5 % 2)) rr (aY (.int 5) (.int (c / 300 / 5 % 2)) rr (im (pP rr H9 H9) H9) rr) e⟩
  obtain⟨r,rfl,h1,h2⟩:=M (E8 z7 hd U hq ho) S9;rw[oP (qp _ S9)]at ti;exact⟨_,ah rr (dQ (ao ti (ao ((O "chosen").trans S9) (ao ((O "heir").trans S9) (aR ((O "named").trans S9) (ai (a0 [.int ((day:Int)+l),.tup [.str "named",.int day,.str o,.str q]] (aM rr (aM (a0 [.str "named",.int day,.str o,.str q] (aM rr (aM rr (aM F (aM eq rr)))) (bc _ X9)) rr)) (bc _ X9)))))))),h1,h2⟩
 .have hn:∀v∈[("chosen" : Str),"heir","named"],decide (w=v)=false:=by rcases hw with rfl|rfl|rfl<;>decide +kernel
  obtain⟨r,rfl,h1,h2⟩:=M (Oc z7 hd U w hw) (by rcases hw with rfl|rfl|rfl<;>decide +kernel)
  rw[oP (qp w (by grind))]at ti;exact⟨_,ah rr (dQ (ao ti (ao ((O "chosen").trans (by rw[hn _ X9])) (ao ((O "heir").trans (by rw[hn _ X9])) (ao ((O "named").trans (by rw[hn _ X9])) (ai (a0 [.int ((day:Int)+l),.tup [.str w,.int day,.str q]] (aM rr (aM (a0 [.str w,.int day,.str q] (aM rr (aM rr (aM eq rr))) (bc _ X9)) rr)) (bc _ X9)))))))),h1,h2⟩
end
structure GR (zs:List Str)(aa:List D):Prop where
 at_:∀(j:Nat) r,aa[j]? = some r->Rg zs j r
 off:(nw aa).Nodup
 gv:∃r∈aa,iV r=true
def GR.snoc {zs:LS}{aa:LD}(g:GR zs aa){r:D}(M:Rg zs aa.length r)(hr:(nw (aa++[r])).Nodup):GR zs (aa++[r]):=by
 refine⟨λj q h=>?_,hr,g.gv.imp λq h=>⟨mem_append_left _ h.1,h.2⟩⟩;by_cases hj:j<aa.length
 .rw[getElem?_append_left hj]at h;exact g.at_ j q h
 .rw[getElem?_append_right N9]at h;obtain⟨h1,h2⟩:=vV h;have:j=aa.length:=by rw[length_singleton]at h1;lia
  subst this;simp [sub_self]at h2;subst h2;exact M
def GR.mem {zs:LS}{aa:LD}(g:GR zs aa){r:D}(h:r∈aa):∃k,Rg zs k r:=by
 obtain⟨j,hj⟩:=mem_iff_getElem?.mp h;exact⟨j,g.at_ j r hj⟩
def Rg.k {zs:LS}{k:Nat}{r:D}(g:Rg zs k r):bi r:=by
 obtain⟨h,kind,aj,day,rfl,_,_,_,d⟩:=g;exact⟨h,kind,aj,rr,d.dd⟩
def Rg.w {zs:LS}{k:Nat}{r:D}(g:Rg zs k r):pO r:=by
 obtain⟨h,kind,aj,day,rfl,_,_,_,d⟩:=g;exact d.w h
def GR.flat {zs:LS}{aa:LD}(g:GR zs aa):aV aa=true:=bq λd hd=>by
 obtain⟨j,M⟩:=g.mem hd;exact M.k.flat
def GR.gvs {zs:LS}{aa:LD}(g:GR zs aa):Yb zs aa:=⟨λr hr=>by
 obtain⟨j,h,kind,aj,day,rfl,_,_,_,d⟩:=g.mem hr;exact⟨h,kind,aj,rr,d.p⟩,g.gv⟩
def ip4:i7 ("rule" : Str)=false:=S9
def RL:LS:=[("open" : Str),"first","last"]
def VG:∀r∈RL,PV "rule" (.str r)=true:=S9
def Ph:∀m∈[7,255,3],PV "matters" (.int ((m:Nat):Int))=true/\m∈MR:=S9
def K3 {zs:LS}(M:Nm7 zs)(k:Nat):off zs k∈zs:=by
 have:(if k=0 then 5 else 6)<zs.length:=by rw[M.len];split<;>decide
 simp_all[off]
def t6 {zs:LS}(M:Nm7 zs)(j:Nat)(hj:j<7){ρ:DL.Env}{i:Nat}(h:ρ[i]? = some (sL (zs.map .str))\/ρ[i]? = some (lT (zs.map .str))):jx i (j:Int) ρ=sS (zs.getD j ""):=by
 have hl:j<zs.length:=by rw[M.len];exact hj
 have:(zs.map D.str)[j]? = some (.str (zs.getD j "")):=by simp_all
 rcases h with h|h<;>simp[h,bg this]
def K4:decide (("named" : Str)∈[("leave" : Str),"named"])=true:=S9
def VH (h:Int)(l:LD):aG (row h "root" l)=true:=mi rr
def VI (h:Int)(l:LD):aG (row h "named" l)=false:=I9
def K5 {zs:LS}(M:Nm7 zs){k:Nat}(hk:k=0\/k=2){m f:Nat}(hm:m∈[7,255,3])(hf:f<4){rl:Str}(hr:rl∈RL):Dw zs k 0 "root" [.str (off zs k),.int m,.int f,.str rl]:=
 ⟨.root _ _ m (Ph m hm).2 _,λh _=>⟨⟨["office","matters","further","rule"],[],bK,rr,kX (aB (xN (M.nm _ (K3 M k))) (aB (Ph m hm).1 (aB (Ks ⟨f,hf⟩) (aB (VG _ hr) rr)))),by simp[BQ,Z2,ip2,ip3,ip4],H9,X9⟩,X9,λd hd=>by
  simp only[mem_cons,not_mem_nil,or_false]at hd;rcases hd with rfl|rfl|rfl|rfl<;>exact⟨rr,rr⟩,.inl ⟨rr,hk,_,rr⟩⟩,λh=>now h S9,Sd S9,nq S9⟩
def VJ {zs:LS}(M:Nm7 zs){m:Nat}(hm:m∈[7,255,3]){rl:Str}(hr:rl∈RL){p:Str}(hp:p∈zs.take 5):GR zs [row 0 "root" [.str (off zs 0),.int m,.int (3:Nat),.str rl],row 0 "named" [.int (0:Nat),.str (off zs 0),.str p]]:=by
 refine⟨λj r h=>?_,by simp[nw,VH,VI],⟨_,mZ _ (mX ..),K4⟩⟩;match j,h with
 |0,h=>cases h;exact⟨0,_,_,0,rr,H9,H9,H9,K5 M (.inl rr) hm H9 hr⟩
 |1,h=>cases h;exact⟨0,_,_,0,rr,H9,H9,H9,E8 M H9 (mem_of_mem_take hp) hp (K3 M 0)⟩
def Z5 {zs:LS}(M:Nm7 zs){m:Nat}(hm:m∈[7,255,3]){rl:Str}(hr:rl∈RL){p:Str}(hp:p∈zs.take 5):GR zs [row 0 "root" [.str (off zs 0),.int m,.int (3:Nat),.str rl],row 0 "named" [.int (0:Nat),.str (off zs 0),.str p],row 1 "root" [.str (off zs 2),.int (7:Nat),.int (1:Nat),.str "open"]]:=by
 refine(VJ M hm hr hp).snoc ⟨1,_,_,0,rr,H9,H9,H9,K5 M (.inr rr) H9 H9 S9⟩ ?_;have h:=Kj M;have:nw ([row 0 "root" [.str (off zs 0),.int m,.int (3:Nat),.str rl],row 0 "named" [.int (0:Nat),.str (off zs 0),.str p]]++[row 1 "root" [.str (off zs 2),.int (7:Nat),.int (1:Nat),.str "open"]])=[off zs 0,off zs 2]:=by
  rfl
 simp_all
def Og {ns:LI}(hf:SY ns){zs:LS}(U:Nm7 zs){aa:LD}(g:GR zs aa)(hl:aa.length<=21)(M:OB){i:Nat}(hi:i<=90):∃r,uK [sL (ns.map .int),sL (zs.map .str),M,lT aa,sI i]=some (.nx [sL (ns.map .int),sL (zs.map .str),M,lT (aa++[r]),sI i])/\GR zs (aa++[r]):=by
 obtain⟨c,a⟩:=nG hf (3+i) N9;obtain⟨r,er,O,hr⟩:=Si U g.gvs hl _;have hn:(nw (aa++[r])).Nodup:=by rw[vn,hr,if_neg H9,uQ];exact g.off
 refine⟨r,jT rr (a0 _ (aM rr (aM (aY _ _ (a0 _ (aM rr (aM (aY _ _ rr rr rr) rr)) a) (aY _ _ rr rr rr) (BU _ H9)) (aM rr rr))) er) O.k.flat (bw N9),g.snoc O hn⟩
def Oh {ns:LI}(A:ns.length<=63)(hf:SY ns){zs:LS}(M:Nm7 zs):∃aa,rM [.lst (ns.map .int),.lst (zs.map .str)]=lT aa/\GR zs aa/\aa.length<=21:=by
 obtain⟨c,u⟩:=nG hf 1 H9;obtain⟨m,hm,v⟩:=dq ([7,255,3]:LN) (λm=>.int (m:Int)) (ρ:=[sL (ns.map .int),sL (zs.map .str),sI c,none,none]) (fl:=fA f6 (ak (fI 7) (ak (fI 255) (ak (fI 3) ay)))) (fx:=am 2) (b:=true) (a:=c) (m:=3) (a0 [.int 7,.int 255,.int 3] rr (c8 _ X9)) rr H9 H9;obtain⟨rl,hr,er⟩:=dq RL D.str (ρ:=[sL (ns.map .int),sL (zs.map .str),sI c,none,none]) (fl:=fA f6 (ak (fS "open") (ak (fS "first") (ak (fS "last") ay)))) (fx:=f2 fO (am 2) (fI 3)) (b:=true) (a:=c / 3) (m:=3) (a0 (RL.map .str) rr (c8 _ (by simp[RL]))) (pP rr H9 H9) H9 H9;have hm:=mem_of_mem_take hm;have hr:=mem_of_mem_take hr;have hp:zs.getD 0 "" ∈ zs.take 5:=by
  have h0:0<zs.length:=by rw[M.len];decide
  rw[vF,vU h0];exact List.mem_take_iff_getElem.mpr ⟨0,by rw[M.len];decide,rr⟩
 have O:∀ρ:DL.Env,ρ[1]? = some (sL (zs.map .str))->jx 1 5 ρ=sS (off zs 0):=λρ h=>t6 M 5 H9 (.inl h);have k:∀ρ:DL.Env,ρ[1]? = some (sL (zs.map .str))->jx 1 6 ρ=sS (off zs 2):=λρ h=>t6 M 6 H9 (.inl h);have l:∀ρ:DL.Env,ρ[1]? = some (sL (zs.map .str))->jx 1 0 ρ=sS (zs.getD 0 ""):=λρ h=>t6 M 0 H9 (.inl h);obtain⟨R,hR⟩:∃R,R=row 0 "root" [.str (off zs 0),.int m,.int (3:Nat),.str rl]:=⟨_,rr⟩;obtain⟨N,f⟩:∃N,N=row 0 "named" [.int (0:Nat),.str (off zs 0),.str (zs.getD 0 "")]:=⟨_,rr⟩;have w:aP R=true:=by subst hR;rfl
 have y:aP N=true:=by subst f;rfl
 obtain⟨aa,z,B,e2⟩:∃aa,GR zs aa/\aa.length<=3/\∀ {T:FS}{res:Option Res},T [sL (ns.map .int),sL (zs.map .str),sI c,lT aa,none]=res ->
   ce (AU (bP (f2 lu (f2 jH (f2 fO (am 2) (fI 9)) (fI 2)) (fI 1))) (wB 3 (fA dN (ak (fI 1) (ak (fA dN (ak (fS "root") (ak (jx 1 6) (ak (fI 7) (ak (fI 1) (ak (fS "open") ay)))))) ay)))) qE) T [sL (ns.map .int),sL (zs.map .str),sI c,lT [R,N],none]=res:=by
  have t:bP (f2 lu (f2 jH (f2 fO (am 2) (fI 9)) (fI 2)) (fI 1)) [sL (ns.map .int),sL (zs.map .str),sI c,lT [R,N],none]=some (decide (c / 9 % 2=1)):=cm (aY (.int (c / 9 % 2)) (.int 1) (im (pP rr H9 H9) H9) rr X9);by_cases h:c / 9 % 2=1
  .rw[mi h]at t;refine⟨[R,N,row 1 "root" [.str (off zs 2),.int (7:Nat),.int (1:Nat),.str "open"]],by subst hR;subst f;exact Z5 M hm hr hp,X9,λo=>c7 (pJ t (jT (d:=row 1 "root" [.str (off zs 2),.int (7:Nat),.int (1:Nat),.str "open"]) (b:=false) rr (a0 [.int 1,.tup [.str "root",.str (off zs 2),.int 7,.int 1,.str "open"]] (aM rr (aM (a0 [.str "root",.str (off zs 2),.int 7,.int 1,.str "open"] (aM rr (aM (k _ rr) rr)) (bc _ X9)) rr)) (bc _ X9)) rr (bw X9))) o⟩
  .rw[oP h]at t;exact⟨[R,N],by subst hR;subst f;exact VJ M hm hr hp,X9,λo=>c7 (je t rr) o⟩
 obtain⟨n,hn,en⟩:∃n:Nat,n<=18/\f2 fu _ (f2 jH (f2 fO (am 2) (fI 18)) (fI 2)) [sL (ns.map .int),sL (zs.map .str),sI c,lT aa,none]=sI n:=by
  obtain⟨q,hq⟩:∃q:Nat,(if 5+(ns.length:Int) / 3<18 then 5+(ns.length:Int) / 3 else 18)=q:=⟨(if 5+(ns.length:Int) / 3<18 then 5+(ns.length:Int) / 3 else 18).toNat,by split<;>lia⟩
  have U:q<=18:=by split at hq<;>lia
  obtain⟨x,hx,ex⟩:=dq ([q,18]:LN) (λm=>.int (m:Int)) (ρ:=[sL (ns.map .int),sL (zs.map .str),sI c,lT aa,none]) (fl:=fA f6 (ak (fA UN (ak (fI 18) (ak (f2 j0 (fI 5) (f2 fO (fA lI (fV 0 ay)) (fI 3))) ay))) (ak (fI 18) ay))) (fx:=f2 fO (am 2) (fI 18)) (b:=true) (a:=c / 18) (m:=2)
   (a0 [.int q,.int 18] (aM (a0 [.int 18,.int (5+(ns.length:Int) / 3)] (aM rr (aM (aY (.int 5) (.int ((ns.length:Int) / 3)) rr (pP (a0 [.lst (ns.map .int)] rr (by rw[jf,vI])) H9 H9) rr) rr)) (by rw[<-hq];rfl)) rr) (c8 _ X9)) (pP rr H9 H9) H9 X9
  have hx:=mem_of_mem_take hx;refine⟨x,?_,ex⟩;rcases vP hx with rfl|hx
  .exact U
  .grind
 obtain⟨ρ',e,rs,p,rfl,s,hs⟩:=mO (tg:=eU 4) (g:=uK) n (λi ρ=>∃(rs:LD)(p:OB),ρ=[sL (ns.map .int),sL (zs.map .str),sI c,lT rs,p]/\GR zs rs/\rs.length<=3+i)
  [sL (ns.map .int),sL (zs.map .str),sI c,lT aa,none] ⟨aa,none,rr,z,N9⟩ (by
   rintro i ρ hi ⟨rs,p,rfl,s,hs⟩;obtain⟨r,e,g'⟩:=Og hf M s N9 (sI c) (i:=i) N9;exact⟨_,_,rr,.inl e,rs++[r],_,rr,g',by rw[uZ,length_singleton];lia⟩)
 refine⟨rs,ah rr (eQ (.int c) (a0 [.lst (ns.map .int),.int 1] rr u) rr (bx (ds:=[R]) ?_ (by simp[w]) (c7 (jT (ds:=[R]) (d:=N) (b:=false) rr ?_ y (bw X9)) (e2 (c7 (mQ (iN (j:=n) (b:=false) en N9) e) (kK rr)))))),s,N9⟩
 .refine a0 [R] (aM (a0 [.int 0,.tup [.str "root",.str (off zs 0),.int m,.int 3,.str rl]] (aM rr (aM (a0 [.str "root",.str (off zs 0),.int m,.int 3,.str rl] (aM rr (aM (O _ rr) (aM v (aM rr (aM er rr))))) (bc _ X9)) rr)) ((bc _ X9).trans (by subst hR;rfl))) rr) (c8 _ X9)
 .exact a0 [.int 0,.tup [.str "named",.int 0,.str (off zs 0),.str (zs.getD 0 "")]] (aM rr (aM (a0 [.str "named",.int 0,.str (off zs 0),.str (zs.getD 0 "")] (aM rr (aM rr (aM (O _ rr) (aM (l _ rr) rr)))) (bc _ X9)) rr)) ((bc _ X9).trans (by subst f;rfl))
def Sj {aa:LD}(hl:aa.length<=30)(ae:Int):(bB (ag aa ae)).length<=60:=by
 unfold bB;rw[(a5 _ _).length_eq];exact vR (vM _ _) (vR (bN _ _) N9)
def K6 (cs:List Cl):aK 40 (.lst (cs.map aW))=true:=by
 show(cs.map _).all _=true;rw[all_eq_true];intro d hd;obtain⟨c,_,rfl⟩:=vO hd;obtain⟨o,p,s,u,n⟩:=c;cases u<;>rfl
def t7 (n:Nat)(S:LN):dz (.int n) (.lst (ig S))=sO (!decide (n∈S)):=by
 rw[nE,sR,decide_eq_decide.mpr (dn )]
structure Gd (L:List D):Prop where
 k:∀n r,L[n]? = some r->Rq n r/\bi r/\pO r
 l:L.length<=30
 n:((bp (ag L 9999)).map (aq 0)).Nodup
section
variable {L:LD}(g:Gd L) (day:Int)
include g
theorem Gd.gk:∀r∈L,bi r:=λr h=>by obtain⟨n,hn⟩:=mem_iff_getElem?.mp h;exact(g.k n r hn).2.1
theorem Gd.o:(bB (ag L 9999)).length<=60:=Sj g.l _
theorem Gd.cl:mU [.tup L,.int 9999]=lT ((aU (ag L 9999)).map aW):=(vj ⟨by have:=g.l;lia,λr h=>(g.gk r h).c⟩ _ g.o).1
theorem Gd.st:cZ [.tup L,.int 9999,.int day]=lT (ig (aD L 9999 day)):=pD g.gk g.l _ g.n g.o _
theorem Gd.ch {n:Nat}(h:n∈aD L 9999 day):∃ns z,Lk (aD L 9999 day) (BO L 9999) (n::ns) z/\qk [.tup L,.int 9999,.int day,.int n]=lT ((z::(n::ns).reverse.map λ(m:Nat)=>(m:Int)).map .int)/\ns.length<=60:=by
 obtain⟨r,hr,_⟩:=sV h;obtain⟨ns,z,k,hk⟩:=Kf g.gk _ _ n r hr h (Nat.lt_succ_of_le (vM _ _));have M:ns.length<=60:=by have:=bN L 9999;have:=g.l;lia
 refine⟨ns,z,k,(Gg g.gk g.l _ g.n g.o _ k N9).trans ?_,M⟩;simp
theorem Gd.ic (zs:LI)(hz:zs.length<=900):jn [.tup L,.int 9999,.int day,.lst (zs.map .int)]=sO (Tf (j5 L 9999 day) (BO L 9999) zs):=by
 refine Gh (vx g.gk g.l _ g.n g.o _ 0).1 ⟨oH _ _,OZ _ _,Pa g.l _ _,λp hp=>?_⟩ zs N9;obtain⟨x,hx,rfl⟩:=vO hp;have h3:=aE (vN ((a5 _ _).mem_iff.mp (vN hx).1)).1;unfold BO;rw[h3]
end
section
variable {aa:LD}{c:D}(gA:Gd aa) (gB:Gd (aa++[c])) (q:we c) (hc:aF c<=9999)
include gA gB q hc
theorem K7 (hk:kindOf c ≠ "call")(day:Int):o8 [.tup aa,.tup (aa++[c]),.int day,.int (aa.length:Int)]=sO true:=by
 have hS:=BZ q hc gA.gk hk day;have e:∀(n:Nat) r,aa[n]? = some r->(aa++[c])[n]? = some r:=λn r h=>by rw[getElem?_append_left (vV h).1];exact h
 let E:Bool->Bool->OB->DL.Env:=λa b v=>[sT aa,sT (aa++[c]),sI day,sI (aa.length:Int),some (.lst (ig (aD aa 9999 day)),a),some (.lst (ig (aD (aa++[c]) 9999 day)),b),v,none];obtain⟨s,t,f,rfl⟩:=dZ (tg:=eU 6) (g:=BA) (λ_ ρ=>∃v,ρ=E false true v) (ig (aD aa 9999 day)) (E false true none) ⟨_,rr⟩ (by
  rintro i d ρ hd ⟨v,rfl⟩;have hm:=vL hd;rw[nE]at hm;obtain⟨n,hn,rfl⟩:=vO hm;have hn:=dn.mp hn;obtain⟨ns,z,k,O,hl⟩:=gA.ch day hn;have u:=K0 (l:=j5 (aa++[c]) 9999 day) (rs':=BO (aa++[c]) 9999) (λn hn=>by obtain⟨r,_,_,_,h⟩:=sV (hS n hn);exact any_eq_true.mpr ⟨_,h,mi rr⟩) (λn hn b hb=>by
   obtain⟨r,hr,_⟩:=sV hn;unfold BO at hb |-;rw[hr]at hb;rw[e _ _ hr];exact(nI q hc (gA.gk r (vL hr))).1 hb) k
  exact⟨_,_,rr,.inl (je (b7 (p:=false) (q:=false) (cm (aY (.int n) (.lst (ig (aD (aa++[c]) 9999 day))) rr rr ((t7 n _).trans (by rw[mi (hS n hn)];rfl)))) λ_=>ba (p:=true) (cm (a0 _ (aM rr (aM rr (aM rr (a7 (b:=true) (a0 [.tup aa,.int 9999,.int day,.int n] rr O) rr)))) ((gB.ic day _ s9).trans (by rw[u]))))) rr),_,rr⟩)
 obtain⟨w,e2,A,rfl⟩:=dZ (tg:=eU 6) (g:=BB) (λ_ ρ=>∃v,ρ=E false false v) (ig (aD (aa++[c]) 9999 day)) (E false false f) ⟨_,rr⟩ (by
  rintro i d ρ hd ⟨v,rfl⟩;have hm:=vL hd;rw[nE]at hm;obtain⟨n,hn,rfl⟩:=vO hm;have hn:=dn.mp hn;obtain⟨ns,z,k,O,hl⟩:=gB.ch day hn;refine⟨_,_,rr,.inl (je ((cR (q:=false) (cm (aY (.int n) (.lst (ig (aD aa 9999 day))) rr rr (t7 n _))) λh=>bW (b:=false) (eN (x:=.int (aa.length:Int)) (b1:=false) (b2:=true) rr (a0 [.tup (aa++[c]),.int 9999,.int day,.int n] rr O) ((Kh _ _).trans ?_))).trans (by rw[Bool.and_false])) rr),_,rr⟩;have B:aa.length∈n::ns:=Classical.byContradiction λz=>of_decide_eq_false ((Bool.not_eq_true' _).mp h) (K1 q hc gA.gk k z n ns rr);rw[any_eq_true.mpr ⟨(aa.length:Int),mZ _ (uS ⟨_,mem_reverse.mpr B,rr⟩),mi rr⟩];rfl)
 obtain⟨C,H⟩:=vz gA.k gA.l gA.n gA.o day;have F:=(vz gB.k gB.l gB.n gB.o day).1;have G:=vy gA.k gA.l 9999 day;have j:=vy gB.k gB.l 9999 day;have M:=cS (fi:=c9 (fA ng (fV 0 (ak (fI 9999) (fV 2 ay))))) (nT:=1) (cap:=[7]) (tg:=eU 0) (c:=bP (f2 R4 (am 0) (am 1))) (fe:=am 0) (ρ:=(E false false A).set 7 (lT (oK (aa++[c]) 9999 day))) (oK aa 9999 day) id (λ_=>false) id
  (by show(fA _ _ _).bind _=_;rw[a0 [.tup aa,.int 9999,.int day] rr C];simp) N9 λd hd=>⟨_,rr,cm (aY d (.lst (oK (aa++[c]) 9999 day)) rr rr ?_),λh=>by cases h⟩
 .refine ah rr (bx (a0 [.tup aa,.int 9999,.int day] rr (gA.st day)) (oG _) (bx (a0 [.tup (aa++[c]),.int 9999,.int day] rr (gB.st day)) (oG _) (c7 (show UZ [4] _ _=_ from fP (ρ:=E false true none) rr t) (c7 (show UZ [5] _ _=_ from fP (ρ:=E false false f) rr e2) (bx (a0 [.tup (aa++[c]),.int 9999,.int day] rr F) j.2 (ai (aY (.int 0) (.int 0) (a0 [.lst []] (a7 (b:=true) (M.trans X9) rr) rr) rr rr)))))))
 .have U:=NS gA.k gA.l e hS hd;have m:=uR G.1 d hd;show(if mL d=true/\(oK (aa++[c]) 9999 day).all mL=true then some _ else none)=_;rw[if_pos ⟨m,j.1⟩,show((oK (aa++[c]) 9999 day).any λy=>gS y d)=true from any_eq_true.mpr ⟨d,U,nj 39 d (jR m)⟩];rfl
theorem Gw (hk:kindOf c = "call")(day:Int){ρ:DL.Env}(a:ρ[8]? = some (sT (aa++[c])))(O:ρ[10]? = some (sI day))(U:ρ[11]? = some (lT (ig (aD aa 9999 day)))):AU (bP (f2 Q6 (fA lI (ak (jw (c9 (fA cZ (fV 8 (ak (fI 9999) (fV 10 ay))))) 1 [11] (eU 0) (bP (f2 dz (am 0) (am 1))) (am 0)) ay)) (fI 0))) (yg (fC (.bl false))) qE ρ=some (.nx ρ):=by
 have d:(aD (aa++[c]) 9999 day).length<=60:=iU gB.l _ _;have M:=cS (fi:=c9 (fA cZ (fV 8 (ak (fI 9999) (fV 10 ay))))) (nT:=1) (cap:=[11]) (tg:=eU 0) (c:=bP (f2 dz (am 0) (am 1))) (fe:=am 0) (ρ:=ρ) _ _ (λ_=>false) (λ(n:Nat)=>.int (n:Int))
  (by show(fA _ _ _).bind _=_;rw[a0 _ (aM (by simp[a]) (aM rr (aM (by simp[O]) rr))) (gB.st day),nE];rfl) (by unfold lE;rw[(a5 _ _).length_eq];lia) λn hn=>⟨[sI n,sF _],by simp[cx,U],cm (aY (.int n) (.lst (ig (aD aa 9999 day))) rr rr ((t7 n _).trans (by rw[mi (Ca q hc gA.gk hk day n (dn.mp hn))];rfl))),λh=>by cases h⟩
 exact je (cm (aY (.int 0) (.int 0) (a0 [.lst []] (a7 (b:=true) (M.trans X9) rr) rr) rr rr)) rr
end
def Rg.q {zs:LS}{k:Nat}{r:D}(g:Rg zs k r):Rq k r:=by
 obtain⟨h,kind,aj,day,rfl,_,_,_,d⟩:=g;exact d.q h
section
variable {zs:LS}{aa:LD}(g:GR zs aa)
include g
theorem K8 (M:Nm7 zs)(hl:aa.length<=24)(d:D)(hd:d=.lst aa\/d=.tup aa):fy [d]=some (.tup aa,false):=by
 refine Ax ⟨⟨N9,M⟩,λj r h=>?_⟩ g.flat d hd;obtain⟨a,kind,aj,day,rfl,h1,h2,O,d⟩:=g.at_ j r h;exact⟨a,kind,aj,rr,N9,N9,d.g _ h1⟩
theorem GR.gd (hl:aa.length<=30):Gd aa:=⟨λn r h=>⟨(g.at_ n r h).q,(g.at_ n r h).k,(g.at_ n r h).w⟩,hl,List.Nodup.sublist (JZ _ _) g.off⟩
end
noncomputable def W6:LS:=[("leave" : Str),"leave","paper","like","copy","call"]
def law_true (ns:LI)(G:ns.length<=63)(hf:SY ns):∃b,F_law [.lst (ns.map .int)]=some (.bl true,b):=by
 obtain⟨z,H⟩:=nG hf 0 H9;obtain⟨zs,I,n⟩:=Kr z;obtain⟨aa,er,g,hl⟩:=Oh G hf n;obtain⟨f,q⟩:=nG hf 24 H9;obtain⟨c,J⟩:∃c:Int,f % 10 ^ 15=c:=⟨_,rr⟩;let E:=λK L N P Q l U O=>[sL (ns.map .int),lT (zs.map .str),lT aa,sI c,K,L,N,P,Q,l,U,O];obtain⟨w,hw,R⟩:=dq W6 D.str (ρ:=E none none none none none none none none) (fl:=fA f6 (ak (fS "leave") (ak (fS "leave") (ak (fS "paper") (ak (fS "like") (ak (fS "copy") (ak (fS "call") ay))))))) (fx:=am 3) (b:=true) (a:=c) (m:=6) (a0 (W6.map .str) rr (c8 _ (by simp[W6]))) rr H9 H9;have hw:w∈gQ:=(by decide +kernel:∀w∈W6,w∈gQ) w (mem_of_mem_take hw);have S:=mod_lt (x:=c / 6) (m:=12) H9;obtain⟨day,T⟩:∃d:Nat,c / 6 % 12=d:=⟨(c / 6 % 12).toNat,N9⟩;obtain⟨aj,es,V⟩:=wc n g.gvs hl day N9 (c / 144) w hw;have m2:=mod_lt (x:=c / 72) (m:=2) H9;let M:=row ((day:Int)+c / 72 % 2) w aj;have A:Rg zs aa.length M:=⟨_,w,aj,day,rr,N9,N9,N9,V⟩;have r:GR zs (aa++[M]):=g.snoc A (by rw[vn,show aG M=false from(by decide +kernel:∀w∈gQ,decide (w = "root")=false) w hw,if_neg H9,uQ];exact g.off);have o:=g.gd N9;have s:=r.gd (by rw[uZ,length_singleton];lia);have u:we M:=Gr hw;have v:aF M<=9999:=by show(day:Int)+c / 72 % 2<=9999;lia
 have B:=s.cl;rw[xO u v]at B;let F:OB->OB->OB->DL.Env:=E (sS w) (sI day) (sF M) (sT aa) (sT (aa++[M]));obtain⟨ρ',e,l,U,O,rfl⟩:=mO (tg:=eU 9) (g:=RH) 2 (λ_ ρ=>∃l U O,ρ=F l U O) (F none none none) ⟨_,_,_,rr⟩ (by
  rintro i ρ hi ⟨l,U,O,rfl⟩;obtain⟨x,ex⟩:=nG hf (25+i) N9;have t:bP (f2 lu (am 4) (fS "call")) (F (sI i) (sI (x % 16)) O)=some (decide (w = "call")):=cm (aY (.str w) (.str "call") rr rr (Pd _ _));have C:f2 jH (fA nc (fV 0 (ak (f2 j0 (fI 25) (am 9)) ay))) (fI 16) (F (sI i) U O)=sI (x % 16):=im (a0 [.lst (ns.map .int),.int (25+i:Nat)] (aM rr (aM (aY (.int 25) (.int i) rr rr (by show some (D.int (25+(i:Int)),false)=_;rw[show(25:Int)+i=((25+i:Nat):Int) by lia])) rr)) ex) H9;by_cases h:w = "call"
  .rw[mi h]at t;exact⟨_,_,rr,.inl (eQ (.int (x % 16)) C rr (pJ t (bx (a0 [.tup aa,.int 9999,.int (x % 16)] rr (o.st _)) (oG _) (Gw o s u v h _ rr rr rr)))),_,_,_,rr⟩
  .rw[oP h]at t;exact⟨_,_,rr,.inl (eQ (.int (x % 16)) C rr (je t (je (ba (p:=true) (cm (a0 [.tup aa,.tup (aa++[M]),.int (x % 16),.int (aa.length:Int)] (aM rr (aM rr (aM rr (aM (a0 [.lst aa] rr jf) rr)))) (K7 o s u v h _)))) rr))),_,_,_,rr⟩)
 refine⟨false,ah rr (bx (ds:=zs.map .str) (a0 [.int z] (aM (a0 [.lst (ns.map .int),.int 0] rr H) rr) I) (bH _) (bx (ds:=aa) (a0 [.lst (ns.map .int),.lst (zs.map .str)] rr er) g.flat (eQ (.int c) (J ▸ aY (.int f) (.int (10 ^ 15)) (a0 [.lst (ns.map .int),.int 24] rr q) (aY (.int 10) (.int 15) rr rr rr) (BU _ H9)) rr (eQ (.str w) R rr (eQ (.int day) (T ▸ im (pP rr H9 H9) H9) rr (eQ M ?_ A.k.flat (eQ (.tup aa) (a0 [.lst aa] (a7 (b:=true) (a0 [.lst aa] rr rr) rr) (K8 g n N9 _ (.inl rr))) (by simp[g.flat]) (eQ (.tup (aa++[M])) (a0 [.lst (aa++[M])] (a7 (b:=true) (eN (x:=.lst aa) (y:=.lst [M]) (b1:=false) (b2:=true) rr (a0 [M] rr (c8 _ X9)) ?_) rr) (K8 r n (by rw[uZ,length_singleton];lia) _ (.inl rr))) (by simpa using r.flat) (ao (bW (b:=false) (eN (b1:=true) (b2:=true) (a0 [.tup aa,.int 9999] rr o.cl) (a0 [.tup (aa++[M]),.int 9999] rr B) (JX (K6 _)))) (c7 (mQ (iN (j:=2) (b:=false) rr H9) e) (ai rr)))))))))))⟩
 .exact a0 [.int ((day:Int)+c / 72 % 2),.tup (.str w::aj)] (aM (aY (.int day) (.int (c / 72 % 2)) rr (im (pP rr H9 H9) H9) rr) (aM (a0 [.lst aa,.str w,.int day,.int (c / 144),.lst (zs.map .str)] (aM rr (aM rr (aM rr (aM (pP rr H9 H9) rr)))) es) rr)) (bc _ X9)
 .exact if_pos (cf (by rw[length_singleton];lia))
end Lw
namespace Lw
open PySem PySem.Spec PyProof.Rows L2 DL
structure Tx (w:World)(K:Frag)(mg:Str->Option Value):Prop where
 hX:∃h,K.In h/\h.Ns mainGlobals mg
 d0:bQ K "is_whole" (aN 6)
 d1:bQ K "is_day" (aN 7)
 d2:bQ K "is_stretch" (aN 8)
 d3:bQ K "is_matters" (aN 12)
 d4:bQ K "is_name" (aN 22)
 d5:bQ K "is_rule" (aN 24)
 d6:bQ K "is_piece" (aN 23)
 d7:bQ K "is_pieces" (aN 25)
 d8:bQ K "is_change" (aN 26)
 d9:bQ K "is_changes" (aN 27)
 d10:bQ K "is_part" (aN 28)
 d11:bQ K "is_deed" (aN 29)
 d12:bQ K "word_of" (aN 32)
 d13:bQ K "part_of" (aN 33)
 d14:bQ K "day_of" (aN 34)
 d15:bQ K "is_timely" (aN 30)
 d16:bQ K "is_row" (aN 31)
 d17:bQ K "root_offices" (aN 39)
 d18:bQ K "is_second_root" (aN 40)
 d19:bQ K "parts_in" (aN 35)
 d20:bQ K "people_in" (aN 36)
 d21:bQ K "count_people" (aN 41)
 d22:bQ K "is_refused" (aN 42)
 d23:bQ K "register_of" (aN 43)
 d24:bQ K "heard" (aN 44)
 d25:bQ K "rank" (aN 46)
 d26:bQ K "in_order" (aN 48)
 d27:bQ K "by_office" (aN 60)
 d28:bQ K "roots" (aN 49)
 d29:bQ K "is_known" (aN 45)
 d30:bQ K "tells" (aN 52)
 d31:bQ K "told_of" (aN 53)
 d32:bQ K "lives" (aN 54)
 d33:bQ K "has_seal" (aN 55)
 d34:bQ K "is_sound" (aN 56)
 d35:bQ K "lies_in" (aN 9)
 d36:bQ K "is_alive" (aN 58)
 d37:bQ K "by_since" (aN 59)
 d38:bQ K "chief_of" (aN 61)
 d39:bQ K "holder_by" (aN 62)
 d40:bQ K "is_held_by" (aN 63)
 d41:bQ K "is_first_death" (aN 64)
 d42:bQ K "counts" (aN 65)
 d43:bQ K "new_claim" (aN 66)
 d44:bQ K "ended" (aN 67)
 d45:bQ K "after_choice" (aN 68)
 d46:bQ K "inherited" (aN 69)
 d47:bQ K "after_death" (aN 70)
 d48:bQ K "claims" (aN 71)
 d49:bQ K "is_paper" (aN 74)
 d50:bQ K "is_leave" (aN 75)
 d51:bQ K "is_borne" (aN 76)
 d52:bQ K "covers" (aN 13)
 d53:bQ K "reach_bar" (aN 80)
 d54:bQ K "office_bar" (aN 81)
 d55:bQ K "office_bases" (aN 84)
 d56:bQ K "ends_within" (aN 11)
 d57:bQ K "is_within" (aN 10)
 d58:bQ K "is_ahead" (aN 47)
 d59:bQ K "leave_bar" (aN 82)
 d60:bQ K "leaves_to" (aN 83)
 d61:bQ K "leave_bases" (aN 85)
 d62:bQ K "copy_bases" (aN 86)
 d63:bQ K "bases_by" (aN 87)
 d64:bQ K "may_call" (aN 77)
 d65:bQ K "calls_in" (aN 78)
 d66:bQ K "calls_by" (aN 79)
 d67:bQ K "is_fit" (aN 88)
 d68:bQ K "links" (aN 89)
 d69:bQ K "bears" (aN 90)
 d70:bQ K "stood" (aN 91)
 d71:bQ K "standing" (aN 92)
 d72:bQ K "_law_cell" (aN 107)
 d73:bQ K "_law_names" (aN 108)
 d74:bQ K "_law_giver" (aN 109)
 d75:bQ K "_law_sealed" (aN 110)
 d76:bQ K "_law_row" (aN 111)
 d77:bQ K "_law_rows" (aN 112)
 d78:bQ K "first_bearer" (aN 93)
 d79:bQ K "chain" (aN 94)
 d80:bQ K "is_begun" (aN 95)
 d81:bQ K "is_linked" (aN 96)
 d82:bQ K "is_chain" (aN 97)
 d83:bQ K "changed" (aN 99)
 d84:bQ K "put_together" (aN 100)
 d85:bQ K "words" (aN 101)
 d86:bQ K "paper_behind" (aN 102)
 d87:bQ K "holding" (aN 103)
 d88:bQ K "whom_of" (aN 104)
 d89:bQ K "judged" (aN 105)
 d90:bQ K "_law_alike" (aN 113)
 d91:bQ K "law" (aN 114)
 n0:mg "all" = none
 n1:mg "any" = none
 n2:mg "bool" = none
 n3:mg "dict" = none
 n4:mg "enumerate" = none
 n5:mg "int" = none
 n6:mg "isinstance" = none
 n7:mg "len" = none
 n8:mg "list" = none
 n9:mg "max" = none
 n10:mg "min" = none
 n11:mg "range" = none
 n12:mg "reversed" = none
 n13:mg "set" = none
 n14:mg "sorted" = none
 n15:mg "str" = none
 n16:mg "tuple" = none
 n17:mg "zip" = none
 k0:KC K mg "ALL_MATTERS" l7
 k1:KC K mg "LAST_DAY" rH
 k2:KC K mg "MOST_FURTHER" jU
 k3:KC K mg "MOST_LETTERS" jV
 k4:KC K mg "MOST_PEOPLE" l8
 k5:KC K mg "MOST_PIECES" ir
 k6:KC K mg "MOST_ROWS" jW
 k7:KC K mg "PAPERS" zk
 k8:KD w K mg "PARTS" bX
 k9:KC K mg "PERSON_PARTS" gy
 k10:KC K mg "RULES" CV
 k11:KC K mg "SEALINGS" gz
 l26:yU K "in_order"
 l33:yU K "has_seal"
 l41:yU K "is_first_death"
 l63:yU K "bases_by"
section
variable {w:World}{K:Frag}{mg:SV}(T:Tx w K mg)
include T
theorem Z6:a6 w K mg FN:=⟨T.hX,nofun,by simp only[FN,forall_mem_cons];exact⟨T.k0,T.k1,T.k2,T.k3,T.k4,T.k5,T.k6,T.k7,T.k9,T.k10,T.k11,nofun⟩,by simp only[FN,forall_mem_cons];exact⟨T.k8,nofun⟩,by simp only[FN,forall_mem_cons];exact⟨T.n0,T.n1,T.n2,T.n3,T.n4,T.n5,T.n6,T.n7,T.n8,T.n9,T.n10,T.n11,T.n12,T.n13,T.n14,T.n15,T.n16,T.n17,nofun⟩,by simp only[FN,forall_mem_cons];exact⟨T.l26,T.l33,T.l41,T.l63,nofun⟩⟩
theorem Z7:a6 w K mg (Nc.gt lR):=Nc.o T.d0 (Z6 T) 3
theorem Z8:a6 w K mg (Nd.gt rJ):=Nd.o T.d1 (Z7 T) 1
theorem Z9:a6 w K mg (Nf.gt mR):=Nf.o T.d2 (Z8 T) 1
theorem ZB:a6 w K mg (Ng.gt mS):=Ng.o T.d3 (Z9 T) 1
theorem ZC:a6 w K mg (Nh.gt kL):=Nh.o T.d4 (ZB T) 1
theorem ZD:a6 w K mg (Ni.gt uJ):=Ni.o T.d5 (ZC T) 1
theorem ZE:a6 w K mg (Nj.gt lS):=Nj.o T.d6 (ZD T) 1
theorem ZF:a6 w K mg (Nk.gt gZ):=Nk.o T.d7 (ZE T) 1
theorem ZG:a6 w K mg (Nl.gt hG):=Nl.o T.d8 (ZF T) 1
theorem ZH:a6 w K mg (Nm.gt jg):=Nm.o T.d9 (ZG T) 1
theorem VL:a6 w K mg (CW.gt di):=CW.o T.d10 (ZH T) 2
theorem VM:a6 w K mg (CY.gt o0):=CY.o T.d11 (VL T) 1
theorem VN:a6 w K mg (CZ.gt aZ):=CZ.o T.d12 (VM T) 1
theorem VO:a6 w K mg (Db.gt av):=Db.o T.d13 (VN T) 2
theorem VP:a6 w K mg (Dc.gt bo):=Dc.o T.d14 (VO T) 1
theorem VQ:a6 w K mg (De.gt jX):=De.o T.d15 (VP T) 1
theorem VR:a6 w K mg (Df.gt rK):=Df.o T.d16 (VQ T) 1
theorem VS:a6 w K mg (Dg.gt g9):=Dg.o T.d17 (VR T) 1
theorem VT:a6 w K mg (Dh.gt eZ):=Dh.o T.d18 (VS T) 2
theorem VU:a6 w K mg (Di.gt gD):=Di.o T.d19 (VT T) 1
theorem VV:a6 w K mg (Dj.gt hJ):=Dj.o T.d20 (VU T) 1
theorem VW:a6 w K mg (zm.gt gE):=zm.o T.d21 (VV T) 1
theorem VX:a6 w K mg (Dk.gt jh):=Dk.o T.d22 (VW T) 2
theorem VY:a6 w K mg (zn.gt fy):=zn.o T.d23 (VX T) 1
theorem VZ:a6 w K mg (Dl.gt ej):=Dl.o T.d24 (VY T) 2
theorem Wa:a6 w K mg (Dm.gt gF):=Dm.o T.d25 (VZ T) 2
theorem Wb:a6 w K mg (Dn.gt dJ):=Dn.o T.d26 (Wa T) 2
theorem Wc:a6 w K mg (Dp.gt jY):=Dp.o T.d27 (Wb T) 1
theorem Wd:a6 w K mg (Dq.gt hU):=Dq.o T.d28 (Wc T) 2
theorem We:a6 w K mg (Dr.gt cD):=Dr.o T.d29 (Wd T) 3
theorem Wf:a6 w K mg (Ds.gt qg):=Ds.o T.d30 (We T) 4
theorem Wg:a6 w K mg (Dt.gt kM):=Dt.o T.d31 (Wf T) 5
theorem Wh:a6 w K mg (Du.gt qh):=Du.o T.d32 (Wg T) 4
theorem Wi:a6 w K mg (Dv.gt lU):=Dv.o T.d33 (Wh T) 4
theorem Wj:a6 w K mg (Dx.gt ji):=Dx.o T.d34 (Wi T) 3
theorem Wk:a6 w K mg (Dy.gt kO):=Dy.o T.d35 (Wj T) 2
theorem Wl:a6 w K mg (Dz.gt dL):=Dz.o T.d36 (Wk T) 2
theorem Wm:a6 w K mg (D0.gt gG):=D0.o T.d37 (Wl T) 1
theorem Wn:a6 w K mg (D1.gt lV):=D1.o T.d38 (Wm T) 2
theorem Wo:a6 w K mg (D2.gt jZ):=D2.o T.d39 (Wn T) 3
theorem Wp:a6 w K mg (D3.gt dj):=D3.o T.d40 (Wo T) 4
theorem Wr:a6 w K mg (D4.gt fg):=D4.o T.d41 (Wp T) 3
theorem Ws:a6 w K mg (D5.gt mT):=D5.o T.d42 (Wr T) 4
theorem Wt:a6 w K mg (D6.gt hV):=D6.o T.d43 (Ws T) 3
theorem Wu:a6 w K mg (zo.gt xn):=zo.o T.d44 (Wt T) 4
theorem Wv:a6 w K mg (D7.gt gH):=D7.o T.d45 (Wu T) 3
theorem Ww:a6 w K mg (zq.gt kg):=zq.o T.d46 (Wv T) 5
theorem Wx:a6 w K mg (D8.gt iu):=D8.o T.d47 (Ww T) 5
theorem Wy:a6 w K mg (zr.gt mU):=zr.o T.d48 (Wx T) 2
theorem Wz:a6 w K mg (D9.gt cY):=D9.o T.d49 (Wy T) 3
theorem W1:a6 w K mg (DA.gt gI):=DA.o T.d50 (Wz T) 3
theorem W2:a6 w K mg (DB.gt fj):=DB.o T.d51 (W1 T) 3
theorem W3:a6 w K mg (DC.gt iP):=DC.o T.d52 (W2 T) 2
theorem W4:a6 w K mg (DD.gt kh):=DD.o T.d53 (W3 T) 2
theorem W5:a6 w K mg (DE.gt fQ):=DE.o T.d54 (W4 T) 3
theorem W7:a6 w K mg (DF.gt gJ):=DF.o T.d55 (W5 T) 4
theorem W9:a6 w K mg (DG.gt iz):=DG.o T.d56 (W7 T) 2
theorem WA:a6 w K mg (DH.gt hW):=DH.o T.d57 (W9 T) 2
theorem WB:a6 w K mg (DI.gt gK):=DI.o T.d58 (WA T) 3
theorem WC:a6 w K mg (DJ.gt ki):=DJ.o T.d59 (WB T) 3
theorem WD:a6 w K mg (DK.gt kj):=DK.o T.d60 (WC T) 3
theorem WE:a6 w K mg (DM.gt i6):=DM.o T.d61 (WD T) 3
theorem WG:a6 w K mg (DN.gt jk):=DN.o T.d62 (WE T) 3
theorem WH:a6 w K mg (DO.gt dM):=DO.o T.d63 (WG T) 4
theorem WI:a6 w K mg (DP.gt lW):=DP.o T.d64 (WH T) 5
theorem WJ:a6 w K mg (DQ.gt jl):=DQ.o T.d65 (WI T) 6
theorem WK:a6 w K mg (DR.gt lX):=DR.o T.d66 (WJ T) 5
theorem WL:a6 w K mg (DS.gt mV):=DS.o T.d67 (WK T) 5
theorem WM:a6 w K mg (zt.gt mW):=zt.o T.d68 (WL T) 3
theorem WN:a6 w K mg (DT.gt qi):=DT.o T.d69 (WM T) 2
theorem WO:a6 w K mg (zu.gt qj):=zu.o T.d70 (WN T) 1
theorem WP:a6 w K mg (DU.gt cZ):=DU.o T.d71 (WO T) 3
theorem WQ:a6 w K mg (DV.gt nc):=DV.o T.d72 (WP T) 2
theorem WR:a6 w K mg (zv.gt o4):=zv.o T.d73 (WQ T) 1
theorem WS:a6 w K mg (DW.gt kP):=DW.o T.d74 (WR T) 3
theorem WT:a6 w K mg (DX.gt lY):=DX.o T.d75 (WS T) 5
theorem WU:a6 w K mg (DY.gt xo):=DY.o T.d76 (WT T) 3
theorem WV:a6 w K mg (zw.gt rM):=zw.o T.d77 (WU T) 2
theorem WW:a6 w K mg (DZ.gt eA):=DZ.o T.d78 (WV T) 2
theorem WX:a6 w K mg (zx.gt qk):=zx.o T.d79 (WW T) 4
theorem WY:a6 w K mg (Ea.gt jm):=Ea.o T.d80 (WX T) 2
theorem WZ:a6 w K mg (Eb.gt hZ):=Eb.o T.d81 (WY T) 2
theorem Xa:a6 w K mg (Ec.gt jn):=Ec.o T.d82 (WZ T) 4
theorem Xb:a6 w K mg (Ed.gt o5):=Ed.o T.d83 (Xa T) 3
theorem Xc:a6 w K mg (uL.gt eB):=uL.o T.d84 (Xb T) 2
theorem Xd:a6 w K mg (z4.gt jo):=z4.o T.d85 (Xc T) 3
theorem Xe:a6 w K mg (z6.gt eD):=z6.o T.d86 (Xd T) 2
theorem Xf:a6 w K mg (Ee.gt o6):=Ee.o T.d87 (Xe T) 3
theorem Xg:a6 w K mg (Ef.gt o7):=Ef.o T.d88 (Xf T) 2
theorem Xh:a6 w K mg (Eg.gt ng):=Eg.o T.d89 (Xg T) 3
theorem Xi:a6 w K mg (uM.gt o8):=uM.o T.d90 (Xh T) 4
theorem head {P:Program}{fa:Addr}(M:mg "law" = some (.ref fa)):∃fd:FuncData,(∀(s:Shared)(u:Value),BindsTo s fd ⟨[u],[]⟩ [("_law_script",u)])/\∀base:Heap,K.In base->base.Ns mainGlobals mg->t8 P w K mg base A7 18 fa fd ["_law_script"] (KW K F_law):=by
 have S:FnScope ["_law_script","_law_names_here","_law_rows_here","_law_cell_here","_law_word","_law_day","_law_more","_law_one","_law_other","_law_k","_law_later","_law_some"] ["_law_script"] (aH (aN 114)):=by refine⟨rr,rr,rr,?_,rr,?_,?_⟩<;>decide +kernel
 have ⟨h,X,G⟩:=T.hX;have e:F_law=ax (Eh.r.getD qL) 1 11:=N8
 rw[e];exact bQ.law T.d91 X G M S (λ_ _ _ _ _ _ u=>rr) λbase O U f dR A outer s H E hr=>Eh.js S9 (Xi T) S.nd hr λh=>absurd h S9
end
end Lw
end
end Lake
open Lake
structure PySem.W.Fast:Prop where(tw5340766672908843016 tw2449119951048075989 tw8976133388430560727 tw7213587385287407002 tw1476055631372818480 tw7644508249909544486 tw9863438311636496061 tw8831907409561398961 tw2116403498031496394 tw4995260679399167037 tw16802619911618015603 tw17245050204615764897 tw12140096492746949898 tw56701821875271235 tw12896411820860235042 tw4364413052829241082 tw17127496107471475465 tw6192359422902992768 tw17615883337402405475 tw14065825756502269966 tw17379306772377288282 tw2642948957653952922 tw2291247528585792889 tw17012205323733200718 tw6736010316219938239 tw1093340386791090198 tw8046480284562570383 tw12389735407615476490 tw2249988965130820272 tw12805804249751034196 tw3335636379666364608 tw16514307861398010102 tw12565736826419758638 tw3144213620439041113 tw6795037036059148636 tw15676558302266127015 tw14194540389254597902 tw11902311577175518416 tw1767967117510624554 tw1562077285937976931 tw10024548063084797191 tw12234912766113789555 tw6968505153164632800 tw18217657495902407769 tw14029169833169505459 tw18227531403213380933 tw11304605708037007001 tw4397527643984966668 tw1857946743572948669 tw2752487241165444357 tw5614327186100505713 tw10742124656054877452 tw17248253345731874869 tw8101631912550503450 tw860349503839096910 tw622348315657442798 tw17346539682054544153 tw10978941361834216303 tw12817900433354840575 tw13347446801864544647 tw17239510371128307262 tw3865536395260098726 tw11960787242372157422 tw8966372412532310005 tw12939309022080509500 tw16436142437161985647 tw5316545538271629897 tw10069901831882046119 tw6418077409318657036 tw7444171344875331511 tw8448302945653637029 tw15752363845984220862 tw1748490106018472990 tw10769167025648544775 tw4551396749118973215 tw4010023829858533192 tw795529401628603403 tw13233070502887920648 tw13108113387284192372 tw4338271016796814027 tw10276567324150242823 tw14024015502087715933 tw10626135004139375193 tw3923488939670305832 tw6688336139266049089 tw15551304550064640997 tw16103084828739350757 tw4698995787549131153 tw2694156929174639798 tw15505000140907746003 tw307496888936574823 tw417359273026611046 tw10103836989300293777 tw8551341808759341016 tw1842236030963051244 tw9159684903724969378 tw14369108026458215276 tw10147182727316272266 tw8611024818988557985 tw1224254041680693127 tw8916712812147191651 tw12493851020909260729 tw8259797550749727904 tw6099237470909429326 tw6881341369593694740 tw6780873045530905323 tw7460361882849134575 tw3106649954647172650 tw7833412925368841148 tw11006338613808994201 tw7930915737168625007 tw9214392386721830081 tw10789060970633167892 tw4460123758093359903 tw13998697102604997511 tw193985122774932278 tw7362849419028920803 tw1352745287172421634 tw5777693428542901461 tw2081362363322443590 tw8214306849914062996 tw13072796044867454475 tw12780989283636991159 tw3866359268801265989 tw10344019532392357205 tw12190383251070830900 tw10678523834383280826 tw6699317536071278019 tw12726714518936772570 tw1458048987016452974 tw12599704699153573204 tw18139789324275788682 tw6411886557419863102 tw16658920524639100053 tw18326997054532191587 tw2332804169203871653 tw500978650304576249 tw867437852405166489 tw2497775815966157065 tw13663993306337749007 tw9151949553612429350 tw11856112064611492253 tw8541165086081825545 tw9446244077395484661 tw3040546929743657318 tw13723400422200502535 tw17892311557733126993 tw1228075879143058346 tw17339533407647787762 tw6329056132283718451 tw1400853133527634164 tw7026334451889491137 tw7830622173145364258 tw16331956413269144707 tw1084571273711541719 tw5594697555201524119 tw5748047490151918464 tw14264595933897583275 tw439367384544421820 tw5806825867559436124 tw7182742355924996092 tw10224767320454784285 tw8325695495209488035 tw18102087439268464121 tw3177100988927963489 tw6597565935101956431 tw12356696567201961674 tw18018581393733236379 tw6296361994350059960 tw6531434124308153373 tw8843833742947914647 tw15999187766442057297 tw13982415804991285037 tw11494987986719646352 tw1451549993794502211 tw4978724413288671213 tw13332714888262454093 tw565808956046473751 tw1886873833491703094 tw14995552895263109079 tw10844805468327198289 tw11585178108849215817 tw10643545789830259671 tw1544422875213177628 tw12035358609504567232 tw10451059480174161534 tw15767733358602111000 tw9122714862833488459 tw11472064389151522133 tw204087907034817332 tw8218053473681887771 tw9795941618984391482 tw10432337601829781289 tw4998361206440440904 tw1175807738018516278 tw10237372836164707691 tw9622873982800738529 tw2213075243799053811 tw15362170876485611923 tw14459570407748630954 tw18362057481930552736 tw18199366510487166597 tw10100616309780025040 tw14396524410130714385 tw11779937831443006277 tw6374567386107178887 tw2023068432414392849 tw2184525459468965387 tw8434780368507377153 tw2639776981229204071 tw3255540194207284634 tw18013571319785003898 tw12398170142485304872 tw5874513953873826675 tw9308608983612946860 tw10372343070634839721 tw9833381893130761310 tw14660808602838088425 tw5021728226220948840 tw9855840232824596987 tw3576950574847925240 tw11434534593588081064 tw15873039215230541740 tw3180166613921624380 tw13947796618818323346 tw9837236934873349460 tw2253502399319997434 tw3293469806962683733 tw10717750772367254659 tw1610732772046039696 tw4549876516089364606 tw8987786879592549331 tw451268839417947221 tw11265259454002546383 tw14959201270546862792 tw17595808269856735093 tw14021499508984975832 tw11223355060280937344 tw2614783794083686163 tw15346808949317298362 tw12513098270658913431 tw3972242529955999950 tw426384167473953528 tw8021606881623557348 tw8320578282444980372 tw6865662833106588608 tw6596475692127537877 tw8637969385305615152 tw2326285399586543488 tw17361759141702484854 tw15510146160706902760 tw12079175165170503725 tw10497938874210407584 tw2414203950363783023 tw6403399584506212425 tw750563291447514272 tw8775448719684987857 tw293566814028183815 tw5801558970742985306 tw9765345519588843215 tw6236544233993497106 tw3946531095508661365 tw3183026309412265598 tw11756759759790739828 tw7809746977589464501 tw1296758573183447438 tw5175739112739021934 tw6304757646159789104 tw3104181943860113643 tw13040565159080173024 tw12889512754238952644 tw2478113160840625164 tw1804435380910066054 tw9584458696344177250 tw866852463616546721 tw6491701642861340220 tw5059863840288799685 tw17032981728504048633 tw15749748536244492079 tw2397478017590667295 tw13001624017908864140 tw12639612273750038659 tw8090530210637156323 tw567010116919162260 tw6061853256542830367 tw2699339608073717009 tw16554196409113724737 tw16044884088109393885 tw11737025428731034720 tw1851123265183453075 tw14315737130944151395 tw9713678606192277117 tw8853843781656966787 tw3410716823797815042 tw3036545301134486486 tw14767126346062040652 tw14438033546721698726 tw17232873869409211073 tw13806220135419071787 tw11626902091486336672 tw9039314651198819893 tw8471809605216398 tw657814856403749182 tw5942321959909187249 tw3055180048897130785 tw1966895097668203652 tw18311415447581254441 tw16408599928721931120 tw4329556506095911211 tw16049727499666039851 tw6820493947144408519 tw6474802447297077563 tw1986719089222855801 tw14662322703300824477 tw5489644344464069338 tw4152753305285322374 tw16205077249333298157 tw15442997962004183868 tw13436703950281866032 tw11049882261385451807 tw7102786644379484657 tw18417296810959922117 tw17294600284267246488 tw14093566577358680163 tw13640270580961243160 tw6026875442899154535 tw16590626821764585401 tw15889483570778331529 tw12925983798532916032 tw8440154737959564662 tw5559916541739132521 tw17030256339118052367 tw5379384416168165855 tw3770851798040373116 tw2339174652914062146 tw13159994381238084908 tw10557330825475873141 tw13289723983040692612 tw8462406557925359346 tw11476729637691978609 tw2158659793830339382 tw1431764609713195555 tw7573235899346515647 tw6566009079760000151 tw13873370848567016496 tw10854167425603561785 tw7634188657123378571 tw6565405939692626379 tw5452530432654079332 tw12894360253983098182 tw14523870066368116610 tw3090578043278413907 tw17270302763584486274 tw10438644370043505735 tw909471778611406515 tw379669920919188561 tw16047472694782476539 tw569118933904775949 tw14675006423187707016 tw11758177036067080457 tw1346872210037693891 tw344122188191439517 tw13393757406506969856 tw977502795737771254 tw845807962071193096 tw7717115633546153541 tw6515081205278333378 tw16816180189828341811 tw12248854920408001797 tw682004448449917502 tw5244810950477363710 tw1894797427663932870 tw16359182422089170142 tw13234988197919158130 tw15792545742458509709 tw8444512840396031779 tw10154602852722116632 tw7777595658013782631 tw270854054142690658 tw17582982138912420984 tw9475770413504061709 tw7093758226840453223 tw17381207418140493352 tw8741609379023342391 tw3555752187946675264 tw9927494824738808557 tw661005754640291847 tw5364557136923740874 tw16802992973314933518 tw12946732842863742904 tw17919910731232682261 tw4154757031899206168 tw1714688214155798466 tw14123802686392243249 tw11645393328261973326 tw14754740235128488253 tw16998111995146077779 tw14811644959108750308 tw10373869538401731959 tw3780484860325249184 tw85492648149907669 tw3600173314898522591 tw6116749422362787261 tw5013633638454979365 tw2921822565489926894 tw16581629627216620852 tw15600336575603999116 tw15292731976051041294 tw14621132553244641299 tw1282073667630930673 tw10361135821501179080 tw5734087226411251248 tw11469377577751915215 tw966521487503224037 tw3810809402951518699 tw17736535598324965522 tw11959801955041322828 tw12151218167246111387 tw2582433165911786768 tw15650187559205523323 tw6642186750691929828 tw12470753860111868559 tw1854854117536687133:True)
open PySem PySem.W PyProof.Rows
set_option maxRecDepth 100000 in
set_option maxHeartbeats 0 in
theorem PySem.Challenge.cw_sealchain_k56_whole_one_row_more_holds : PySem.Challenge.rw_sealchain_k56_whole_one_row_more.Holds := by
 w_on; o_law; k_head; (case hw => w_witness2)
 k_fill
 refine' DL.walkB (l := PySem.Challenge.rw_sealchain_k56_whole_one_row_more) (k := 18) (x := ("_law_script" : PySem.Str)) (f := Lw.F_law) (L := [(("in_order" : PySem.Str), ?t0), (("has_seal" : PySem.Str), ?t1), (("is_first_death" : PySem.Str), ?t2), (("bases_by" : PySem.Str), ?t3), (("as_heard" : PySem.Str), ?t4)]) rfl rfl ⟨rfl, by decide, by decide⟩ (fun w h Y => PySem.W.km_in_of Y) ?T ?D ?F Lw.law_true
 case T =>
  intro w
  refine' DL.tabs_fit ?h0 ?h1 ?h2 ?h3 ?h4 ?ap ?nt
  (case h0 => refine' DL.tab_yes ?a ?l ?c ?m ?v; (case a => k_is); (case l => k_is); (case c => exact rfl); (case m => k_is); (case v => exact rfl))
  (case h1 => refine' DL.tab_yes ?a ?l ?c ?m ?v; (case a => k_is); (case l => k_is); (case c => exact rfl); (case m => k_is); (case v => exact rfl))
  (case h2 => refine' DL.tab_yes ?a ?l ?c ?m ?v; (case a => k_is); (case l => k_is); (case c => exact rfl); (case m => k_is); (case v => exact rfl))
  (case h3 => refine' DL.tab_yes ?a ?l ?c ?m ?v; (case a => k_is); (case l => k_is); (case c => exact rfl); (case m => k_is); (case v => exact rfl))
  (case h4 => refine' DL.tab_no ?a; (case a => k_is))
  (case ap => decide)
  (case nt => kernel_rfl)
 case D => kernel_rfl
 case F =>
  intro w mg fa h KX G hmg
  refine' Lw.head ⟨⟨h, KX, G⟩, ?d0, ?d1, ?d2, ?d3, ?d4, ?d5, ?d6, ?d7, ?d8, ?d9, ?d10, ?d11, ?d12, ?d13, ?d14, ?d15, ?d16, ?d17, ?d18, ?d19, ?d20, ?d21, ?d22, ?d23, ?d24, ?d25, ?d26, ?d27, ?d28, ?d29, ?d30, ?d31, ?d32, ?d33, ?d34, ?d35, ?d36, ?d37, ?d38, ?d39, ?d40, ?d41, ?d42, ?d43, ?d44, ?d45, ?d46, ?d47, ?d48, ?d49, ?d50, ?d51, ?d52, ?d53, ?d54, ?d55, ?d56, ?d57, ?d58, ?d59, ?d60, ?d61, ?d62, ?d63, ?d64, ?d65, ?d66, ?d67, ?d68, ?d69, ?d70, ?d71, ?d72, ?d73, ?d74, ?d75, ?d76, ?d77, ?d78, ?d79, ?d80, ?d81, ?d82, ?d83, ?d84, ?d85, ?d86, ?d87, ?d88, ?d89, ?d90, ?d91, PySem.W.mg_none_of KX G ?z0, PySem.W.mg_none_of KX G ?z1, PySem.W.mg_none_of KX G ?z2, PySem.W.mg_none_of KX G ?z3, PySem.W.mg_none_of KX G ?z4, PySem.W.mg_none_of KX G ?z5, PySem.W.mg_none_of KX G ?z6, PySem.W.mg_none_of KX G ?z7, PySem.W.mg_none_of KX G ?z8, PySem.W.mg_none_of KX G ?z9, PySem.W.mg_none_of KX G ?z10, PySem.W.mg_none_of KX G ?z11, PySem.W.mg_none_of KX G ?z12, PySem.W.mg_none_of KX G ?z13, PySem.W.mg_none_of KX G ?z14, PySem.W.mg_none_of KX G ?z15, PySem.W.mg_none_of KX G ?z16, PySem.W.mg_none_of KX G ?z17, DL.kc_of KX G ?k0, DL.kc_of KX G ?k1, DL.kc_of KX G ?k2, DL.kc_of KX G ?k3, DL.kc_of KX G ?k4, DL.kc_of KX G ?k5, DL.kc_of KX G ?k6, DL.kc_of KX G ?k7, DL.kd_of KX G ?k8, DL.kc_of KX G ?k9, DL.kc_of KX G ?k10, DL.kc_of KX G ?k11, ?q0, ?q1, ?q2, ?q3⟩ hmg
  iterate 92 (refine' DL.def_mk ?a ?l ?c ?k; (case a => k_is); (case l => k_is); (case c => k_is); (case k => k_is))
  (case z0 => k_is)
  (case z1 => k_is)
  (case z2 => k_is)
  (case z3 => k_is)
  (case z4 => k_is)
  (case z5 => k_is)
  (case z6 => k_is)
  (case z7 => k_is)
  (case z8 => k_is)
  (case z9 => k_is)
  (case z10 => k_is)
  (case z11 => k_is)
  (case z12 => k_is)
  (case z13 => k_is)
  (case z14 => k_is)
  (case z15 => k_is)
  (case z16 => k_is)
  (case z17 => k_is)
  (case k0 => refine' DL.const_int ?e; (case e => k_is))
  (case k1 => refine' DL.const_int ?e; (case e => k_is))
  (case k2 => refine' DL.const_int ?e; (case e => k_is))
  (case k3 => refine' DL.const_int ?e; (case e => k_is))
  (case k4 => refine' DL.const_int ?e; (case e => k_is))
  (case k5 => refine' DL.const_int ?e; (case e => k_is))
  (case k6 => refine' DL.const_int ?e; (case e => k_is))
  (case k7 => refine' DL.const_tup ?e ?l ?v; (case e => k_is); (case l => k_is); (case v => decide +kernel))
  (case k8 => refine' DL.const_dict ?e ?l ?r ?s; (case e => k_is); (case l => k_is); (case r => refine' (DL.CRows.tup rfl ?l0 ?f0 (DL.CRows.tup rfl ?l1 ?f1 (DL.CRows.tup rfl ?l2 ?f2 (DL.CRows.tup rfl ?l3 ?f3 (DL.CRows.tup rfl ?l4 ?f4 (DL.CRows.tup rfl ?l5 ?f5 (DL.CRows.tup rfl ?l6 ?f6 (DL.CRows.tup rfl ?l7 ?f7 (DL.CRows.tup rfl ?l8 ?f8 (DL.CRows.tup rfl ?l9 ?f9 (DL.CRows.tup rfl ?l10 ?f10 (DL.CRows.tup rfl ?l11 ?f11 DL.CRows.nil)))))))))))); (case l0 => k_is); (case f0 => decide +kernel); (case l1 => k_is); (case f1 => decide +kernel); (case l2 => k_is); (case f2 => decide +kernel); (case l3 => k_is); (case f3 => decide +kernel); (case l4 => k_is); (case f4 => decide +kernel); (case l5 => k_is); (case f5 => decide +kernel); (case l6 => k_is); (case f6 => decide +kernel); (case l7 => k_is); (case f7 => decide +kernel); (case l8 => k_is); (case f8 => decide +kernel); (case l9 => k_is); (case f9 => decide +kernel); (case l10 => k_is); (case f10 => decide +kernel); (case l11 => k_is); (case f11 => decide +kernel)); (case s => decide +kernel))
  (case k9 => refine' DL.const_tup ?e ?l ?v; (case e => k_is); (case l => k_is); (case v => decide +kernel))
  (case k10 => refine' DL.const_tup ?e ?l ?v; (case e => k_is); (case l => k_is); (case v => decide +kernel))
  (case k11 => refine' DL.const_tup ?e ?l ?v; (case e => k_is); (case l => k_is); (case v => decide +kernel))
  (case q0 => refine' DL.lam_mk ?a ?l ?c ?m ?v1 ?v2 ?v3 ?v4 ?v5 ?v6 ?v7; (case a => k_is); (case l => k_is); (case c => exact rfl); (case m => k_is); (case v1 => exact rfl); (case v2 => exact rfl); (case v3 => exact rfl); (case v4 => exact rfl); (case v5 => exact rfl); (case v6 => exact rfl); (case v7 => decide))
  (case q1 => refine' DL.lam_mk ?a ?l ?c ?m ?v1 ?v2 ?v3 ?v4 ?v5 ?v6 ?v7; (case a => k_is); (case l => k_is); (case c => exact rfl); (case m => k_is); (case v1 => exact rfl); (case v2 => exact rfl); (case v3 => exact rfl); (case v4 => exact rfl); (case v5 => exact rfl); (case v6 => exact rfl); (case v7 => decide))
  (case q2 => refine' DL.lam_mk ?a ?l ?c ?m ?v1 ?v2 ?v3 ?v4 ?v5 ?v6 ?v7; (case a => k_is); (case l => k_is); (case c => exact rfl); (case m => k_is); (case v1 => exact rfl); (case v2 => exact rfl); (case v3 => exact rfl); (case v4 => exact rfl); (case v5 => exact rfl); (case v6 => exact rfl); (case v7 => decide))
  (case q3 => refine' DL.lam_mk ?a ?l ?c ?m ?v1 ?v2 ?v3 ?v4 ?v5 ?v6 ?v7; (case a => k_is); (case l => k_is); (case c => exact rfl); (case m => k_is); (case v1 => exact rfl); (case v2 => exact rfl); (case v3 => exact rfl); (case v4 => exact rfl); (case v5 => exact rfl); (case v6 => exact rfl); (case v7 => decide))
